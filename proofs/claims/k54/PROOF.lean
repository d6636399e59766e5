import PyProof.Rows.All
import Wide.All
import OpenK.AllK
import Wide.FinOn
import Lean
import PyProof.EqAt
import PyProof.EqKinds
import PyProof.TupleCall
import PySem.Challenge.RW_undercells_k54_counts_refused
set_option autoImplicit true
set_option relaxedAutoImplicit true
set_option Elab.async false
set_option linter.all false
set_option maxRecDepth 100000
set_option compiler.extract_closed false
set_option maxHeartbeats 4000000
open PySem.W (kitOne excIn keepIn)
local macro_rules|`($a<|>$b)=>`(autoParam $a $b)
local macro_rules|`(command|abbrev $n:declId $s:optDeclSig $v:declVal)=>`(command|noncomputable def $n:declId $s:optDeclSig $v:declVal)|`(command|meta abbrev $n:declId $s:optDeclSig $v:declVal)=>`(command|@[reducible]noncomputable def $n:declId $s:optDeclSig $v:declVal)
local macro_rules|`(∅)=>`(by decide +kernel)
local macro_rules|`(⋯)=>`(by decide)
local macro_rules|`(tactic|dsimp[$l,*])=>`(tactic|simp only[$l,*])|`(tactic|dsimp[$l,*]$o:location)=>`(tactic|simp only[$l,*]$o:location)
local macro_rules(kind:=Lean.Parser.Term.structInst)|`({})=>`({cls:=.type "list",data:=.seq ([]:List PySem.Value).toArray})
set_option hygiene false
local macro_rules|`(tactic|room)=>`(tactic|obtain⟨ρ,S,τ,R,r,h⟩:=h9)
local macro_rules|`(tactic|z_go)=>`(tactic|obtain⟨ρ,S,a,b,R,va,vb,h⟩:=h9)
local macro_rules|`(tactic|x_go)=>`(tactic|intro X hP hw hK hc i ai s σ H E I hf st hg)
local macro_rules|`(tactic|w_up)=>`(tactic|intro ai s σ H xs us Q I r h)
local macro_rules|`(tactic|fin2)=>`(tactic|obtain⟨f0,f1,f2,f3,f4,f5⟩:=hf it (by simp))
local macro_rules|`(tactic|k_ne)=>`(tactic|obtain⟨w,rfl,ρ,S,x,R,hv,h⟩:=My h0)
local macro_rules|`(tactic|kt_k)=>`(tactic|intro ai s σ H Q I h)
local macro_rules|`(tactic|kd_p)=>`(tactic|obtain⟨xs,hn,h⟩:=kj h)
local macro_rules|`(tactic|gn_on)=>`(tactic|intro ai s σ H x y v u Q I rx ry h)
local macro_rules|`(tactic|gp_on)=>`(tactic|refine⟨ρ,S,τ,R,r,j6 (kh h) .refl λo S1 h1 ρ1 H1 x e1 R1 v1=>⟨ρ1,S1,τ,R1,r.ext e1,j6 (kh h1) e1 λi S2 h2 ρ2 H2 y e2 R2 v2=>?_⟩⟩)
local macro_rules|`(tactic|kj_on)=>`(tactic|obtain⟨u,rfl,rx⟩:=vals1 r)
local macro_rules|`(tactic|kcf_m)=>`(tactic|intro ai s σ H D I h)
local macro_rules|`(tactic|kcj_m)=>`(tactic|refine⟨ρ2,S2,o,i,a,R2,v1.ext e2,v2,va.ext (e1.trans e2),j6 (kh h2) (e1.trans e2) λ_ S3 h3 ρ3 H3 e3 R3=>?_⟩)
local macro_rules|`(tactic|kpc_g)=>`(tactic|have hfree:∀y∈scope.names,y.2=.free->∃c,X.env.cells.lookup y.1=some c:=λy hy e=>I.ok.has _ (S.fr y hy e))
local macro_rules|`(tactic|kpf_c)=>`(tactic|refine⟨ρ,S,τ,R,r,j6 (kh h) .refl λx S1 h1 ρ1 H1 v e1 R1 v1=>?_⟩)
local macro_rules|`(tactic|ksr_p)=>`(tactic|obtain⟨t,rfl⟩:=rx)
local macro_rules|`(tactic|kst_p)=>`(tactic|refine eV kind_sorted plain_sorted entry_sorted (args_sorted1 _) ?_)
local macro_rules|`(tactic|kln_w)=>`(tactic|obtain⟨ρ,S,τ,R,r,h⟩:=h)
local macro_rules|`(tactic|kl_no)=>`(tactic|refine aY (wpS_lift (fH ⟨rfl,?_⟩)))
local macro_rules|`(tactic|mg_lt)=>`(tactic|exact⟨ρ2,S2,x,as,R2,v1.ext e2,v2,j6 h2 (e1.trans e2) λ_ _ z=>z.ext (e1.trans e2)⟩)
local macro_rules|`(tactic|cb_eq)=>`(tactic|obtain⟨oc,od,kV,doc,pm,an,cdv,ct,osl,rfl,lk,hcd⟩:=F.ex)
local macro_rules|`(tactic|o_rec)=>`(tactic|refine⟨R.nd,by simp,λa ha b hb e=>?_⟩)
local macro_rules|`(tactic|f_are)=>`(tactic|exact h3 ρ3 H3 σ ((e1.trans e2).trans e3) R3 (r.ext ((e1.trans e2).trans e3)))
set_option hygiene true
local macro_rules|`(())=>`(by lia)
@[reducible]def ag:=List Int
@[reducible]def am:=List Nat
@[reducible]def ar:=List PySem.Str
@[reducible]def ba:=List PySem.Value
@[reducible]def bb:=List PySem.Addr
@[reducible]def bd:=Option PySem.Value
@[reducible]def bi:=Option Int
@[reducible]def bj:=Option Bool
@[reducible]def bo:=Option Nat
@[reducible]def bp:=List<|PySem.Addr×PySem.Obj
def aG:=@PySem.wpAny_bind
def aH:=@List.getElem?_eq_getElem
def aI:=@List.getD_eq_getElem?_getD
def aJ:=@List.getElem?_eq_some_iff
def aK:=@List.length_map
def aL:=@PySem.wpAny_pure
def aM:=@if_neg
def aN:=@PySem.Heap.get?_push_of_some
def aO:=@if_pos
def aP:=@Nat.le_refl
def aQ:=@List.getElem?_map
def aR:=@List.mem_cons_self
def aS:=@List.mem_cons_of_mem
def aV:=@List.length_append
def aW:=@List.mem_of_getElem?
def aX:=@decide_eq_true
def aY:=@PyProof.Rows.wpS_bind
def aZ:=@List.forall_mem_cons
def a_:=@PySem.Heap.lt_size
def bf:=@List.size_toArray
def bg:=@List.mem_singleton
def bh:=@Option.map_eq_some_iff
def bq:=@List.mem_append
def br:=@Bool.false_ne_true
def bu:=@PySem.Heap.get?_push_size
def bw:=@decide_eq_false
def bz:=@PyProof.Rows.wpS_pure
def bA:=@List.mem_append_right
def bB:=@Option.some.inj
def bC:=@List.mem_map
def bD:=@Nat.ne_of_lt
def bE:=@List.getElem?_append_left
def bF:=@List.map_map
def bG:=@List.mem_cons
def bH:=@List.length_cons
def bI:=@Nat.le_trans
def bJ:=@of_decide_eq_true
def bK:=@Bool.false_eq_true
def bL:=@List.map_cons
def bM:=@List.mem_append_left
def bN:=@List.length_take
def bO:=@Nat.lt_of_lt_of_le
def bP:=@List.getElem?_set_self
def bQ:=@List.mem_filter
def bR:=@List.append_nil
def bS:=@List.map_append
def bT:=@List.append_assoc
def bU:=@List.drop_eq_getElem_cons
def bV:=@List.getElem?_set_ne
def bW:=@List.length_set
def bX:=@List.pairwise_cons
def bY:=@PySem.wpAny_newObj_type
def bZ:=@Bool.and_eq_true
def b7:=@Nat.zero_le
def b8:=@List.nodup_append
def b9:=@beq_self_eq_true
def b_:=@PySem.W.mg_none_of
def cg:=@List.pairwise_append
def cj:=@List.getElem?_eq_none
def cu:=@List.range_eq_range'
def cA:=@PySem.F.slot_dict_itemiterator_next
def cB:=@List.mem_of_mem_take
def cC:=@PySem.W.mg_of
def cD:=@PySem.wpAny_call_entry
def cE:=@List.mem_range
def cF:=@List.length_range
def cG:=@Nat.zero_add
def cH:=@PySem.wpAny_holding
def cI:=@List.length_filter_le
def cJ:=@Array.length_toList
def cK:=@List.getElem?_range
def cL:=@PyProof.Rows.wpS_forRange
def cM:=@List.map_congr_left
def cN:=@PySem.W.kia_one
def cO:=@List.find?_cons
def cP:=@List.length_nil
def cQ:=@if_false
def cR:=@List.pairwise_singleton
def cT:=@List.pairwise_map
def cU:=@PySem.PassesOwn.leaving
def cV:=@Nat.mul_le_mul_right
def cW:=@PySem.F.slot_dict_keyiterator_next
def cX:=@List.countP_cons
def cY:=@List.take_append_drop
def cZ:=@Option.bind_eq_some_iff
def c5:=@PySem.wpAny_mono
def c6:=@Bool.not_false
def c7:=@Bool.not_true
def c8:=@List.length_drop
def c9:=@Nat.lt_succ_self
def c_:=@Int.zero_add
def dc:=@List.pairwise_iff_getElem
def dg:=@List.replicate_succ
def dh:=@PySem.sizeLine_eq
def di:=@Int.toNat_natCast
def dj:=@List.ext_getElem?
def dm:=@Array.getElem?_toList
def dw:=@PySem.F.slot_dict_get
def dz:=@List.set_append_right
def dB:=@List.nodup_cons
def dD:=@if_true
def dF:=@List.getElem_inj
def dG:=@congrArg
def dH:=@PySem.wpAny_callSpecial?_slot
def dI:=@List.length_eq_zero_iff
def dJ:=@List.getElem_mem
def dM:=@List.take_length
def dN:=@PySem.Heap.size_push
def dO:=@List.take_of_length_le
def dP:=@List.take_succ_eq_append_getElem
def dQ:=@Option.map_some
def dR:=@List.lookup_cons
def dS:=@PySem.wpAny_typeNameOfWhole_itemiter
def dU:=@List.prefix_refl
def dW:=@List.getElem?_take_of_lt
def dX:=@PySem.wpAny_field
def dY:=@PySem.wpAny_typeNameOfWhole_keyiter
def dZ:=@PySem.wpAny_truthy_bool
def d7:=@List.flatten_cons
def d8:=@List.take_add_one
def d9:=@List.foldl_append
def d_:=@PySem.PassesOwn.never
def eg:=@beq_eq_false_iff_ne
def eo:=@PySem.W.hideAll_get
def eB:=@PySem.mem_of_lookup
def eE:=@PyProof.Rows.wpS_mono
def eF:=@PyProof.Rows.callWith_type1
def eG:=@Nat.lt_irrefl
def eK:=@List.getElem_map
def eL:=@Option.bind_some
def eN:=@PySem.wpAny_fieldsOf
def eO:=@of_decide_eq_false
def eS:=@List.prefix_append
def eT:=@List.getElem_range
def eU:=@List.getElem?_toArray
def eV:=@PySem.Calls.call_function_entry
def eW:=@PySem.wpAny_typeNameOf_itemiter
def eX:=@Array.getElem?_eq_getElem
def eY:=@Classical.byContradiction
def eZ:=@List.mem_of_find?_eq_some
def e9:=@PySem.wpAny_passesOwn
def e_:=@List.foldl_cons
def fh:=@Nat.not_lt_zero
def fj:=@Nat.lt_succ_of_lt
def fm:=@PySem.wpAny_dictEntries
def fq:=@List.getElem?_of_mem
def fu:=@List.mem_of_mem_drop
def fB:=@List.flatMap_cons
def fC:=@PySem.wpAny_standAt
def fF:=@Option.isSome_iff_exists
def fG:=@List.Perm.eq_of_pairwise
def fH:=@PySem.wpAny_rule
def fJ:=@PySem.wpAny_attempt
def fK:=@PySem.wpAny_typeNameOf_keyiter
def fL:=@List.Pairwise.imp_of_mem
def fM:=@PyProof.Rows.slot_tuple_getitem
def fN:=@List.eraseIdxIfInBounds_toArray
def fO:=@List.filterMap_cons
def fP:=@List.mem_map_of_mem
def fQ:=@List.filter_sublist
def fR:=@List.getElem?_replicate
def fS:=@List.nodup_nil
def fV:=@List.Perm.refl
def fW:=@List.any_eq_true
def fX:=@List.mem_flatMap
def fY:=@PySem.W.of_hideAll
def fZ:=@PySem.Heap.get?_update_other
def f6:=@Nat.succ_mul
def f7:=@PySem.tupleKind_room_in1
def f9:=@PySem.wpAny_isOneOf_itemiter
def f_:=@PySem.wpAny_setField_rec
def gb:=@Array.getElem?_eq_none
def gc:=@PyProof.Rows.wpS_modify
def gf:=@Int.add_zero
def gh:=@Nat.lt_of_le_of_lt
def gp:=@PySem.wpAny_dictEpoch
def gq:=@PySem.Heap.get?_update_self
def gr:=@PySem.F.type_dict_get
def gu:=@List.getElem?_append_right
def gv:=@PySem.Around.under_plainId
def gz:=@List.take_zero
def gA:=@List.perm_ext_iff_of_nodup
def gB:=@Option.map_map
def gC:=@Int.le_refl
def gD:=@Option.getD_some
def gE:=@List.range'_succ
def gF:=@PySem.F.args_dict_itemiterator_next_1
def gG:=@Nat.sub_self
def gH:=@List.map_set
def gI:=@decide_eq_decide
def gJ:=@PySem.F.entry_dict_itemiterator_next
def gK:=@PySem.F.args_dict_keyiterator_next_1
def gM:=@PySem.F.args_tuple_add_2
def gO:=@List.length_erase_of_mem
def gP:=@PySem.F.slot_dict_itemiterator_iter
def gQ:=@PySem.F.entry_dict_keyiterator_next
def gR:=@PySem.F.slot_list_getattribute
def gS:=@List.sum_cons
def gT:=@List.idxOf_lt_length_iff
def gU:=@PySem.wpAny_execs_nil
def gV:=@PySem.codeAny_builtin
def gW:=@List.filter_map
def gY:=@List.mem_filterMap
def gZ:=@PySem.wpAny_Call_Name_kw
def g_:=@PySem.Obj.data_mapFields
def h_:=@List.getElem?_drop
def ie:=@Int.emod_lt_of_pos
def ig:=@PySem.F.entry_tuple_add
def ir:=@PySem.F.args_dict_get_3
def iu:=@PySem.F.plainAttrs_dict
def iy:=@Nat.one_mul
def iz:=@PySem.codeAny_mono
def iA:=@PySem.W.cellsFrom_some
def iB:=@PySem.F.slot_tuple_add
def iC:=@List.map_nil
def iD:=@PySem.Calls.callWith_builtin
def iE:=@List.pairwise_lt_range
def iF:=@Option.isSome_map
def iG:=@PySem.F.entry_dict_get
def iH:=@PyProof.Rows.wpS_get
def iI:=@PySem.Heap.get?_push_ne
def iJ:=@List.length_pos_of_mem
def iK:=@PySem.F.slot_range_iterator_next
def iL:=@List.find?_map
def iM:=@Nat.lt_of_succ_lt_succ
def iN:=@List.Pairwise.imp
def iO:=@Array.getElem?_setIfInBounds_ne
def iP:=@List.eraseIdx_eq_take_drop_succ
def iQ:=@List.length_singleton
def iR:=@PySem.wpAny_notOrdered_dict
def iS:=@PySem.Obj.isFreed_of_fields
def iT:=@PySem.wpAny_isOneOf_keyiter
def iU:=@List.Pairwise.sublist
def iV:=@PySem.Heap.size_update
def iW:=@List.all_eq_true
def iX:=@List.all_cons
def iY:=@List.any_cons
def iZ:=@Nat.add_assoc
def i7:=@Int.add_assoc
def i9:=@PySem.Sem.wp_pure
def i_:=@List.mem_iff_getElem
def ja:=@Bool.or_eq_false_iff
def jb:=@List.take_append_of_le_length
def jc:=@List.of_mem_zip
def jd:=@PySem.F.slot_dict_items_iter
def je:=@List.find?_some
def jf:=@Int.emod_nonneg
def jh:=@PySem.Heap.SameBut.update
def ji:=@List.flatMap_append
def jj:=@List.countP_eq_zero
def jk:=@Nat.le_of_lt
def jl:=@PySem.wpAny_typeOf
def jm:=@PySem.call_meets
def jn:=@PySem.wpAny_setField
def jo:=@beq_iff_eq
def jq:=@PySem.F.excBase_ValueError
def jt:=@List.find?_eq_none
def ju:=@decide_eq_true_iff
def jv:=@Nat.mul_le_mul
def jw:=@PySem.wpAny_pyIter_list
def jx:=@PySem.wpAny_pyIter_slot
def jy:=@List.find?_isSome
def jz:=@List.getElem?_set
def jA:=@List.countP_congr
def jB:=@List.isEmpty_cons
def jC:=@PySem.Paired.length
def jD:=@PySem.wpAny_newList
def jE:=@Bool.false_or
def jF:=@Bool.true_and
def jG:=@List.zipIdx_cons
def jH:=@List.filter_cons
def jI:=@List.cons_append
def jJ:=@List.flatMap_nil
def jK:=@List.take_append
def jL:=@List.isEmpty_nil
def jM:=@List.flatMap_map
def jN:=@PySem.wpAny_call
def jO:=@Int.mul_zero
def jP:=@List.forIn_cons
def jQ:=@Int.le_antisymm
def jR:=@List.countP_nil
def jS:=@List.forIn_nil
def jT:=@Array.size_zip
def jU:=@List.foldl_map
def jV:=@List.take_succ
def jW:=@Nat.add_mul
@[reducible]def af:=PySem.Value
@[reducible]def ah:=PySem.World
@[reducible]def aj:=PySem.Program
@[reducible]def ak:=PySem.Addr
@[reducible]def aq:=PySem.Heap
@[reducible]def au:=PySem.W.Frag
@[reducible]def aA:=PySem.Around
@[reducible]def aC:=PySem.Shared
@[reducible]def aE:=PySem.Expr
@[reducible]def aF:=PySem.Stmt
def anI{a b:Prop}(h:a)(k:b):a/\b:=⟨h,k⟩
open Array (size_map)
open Int (mul_one)
open List (all_map any_map map_drop map_id map_id' map_take)
open Nat (lt_trans mul_comm ne_of_gt succ_pos)
open Option (getD_none isSome_none isSome_some)
namespace L2
open PySem PySem.Spec PyProof.Rows
meta abbrev Key:=Sum Int Str
abbrev C4:Key->af->Bool
 | .inl k,v=>Value.isInt k v
 | .inr x,v=>Value.isStrOf x v
abbrev ad4 (w:ah):Key->Int
 | .inl k=>hashInt k
 | .inr x=>hashStr w x
def mQ:∀{k:Key}{v:af},C4 k v=true->(∃i t,k=Sum.inl i/\v=Value.int i t)\/(∃x t,k=Sum.inr x/\v=Value.str x t)
 | .inl i,v,h=>by
  obtain⟨t,e⟩:=Value.isInt_shape (k:=i) (v:=v) h;exact .inl ⟨i,t,rfl,e⟩
 | .inr x,v,h=>by
  obtain⟨t,e⟩:=Value.isStrOf_shape (x:=x) (v:=v) h;exact .inr ⟨x,t,rfl,e⟩
def MJ(i:Int)(t:Tok):C4 (.inl i) (.int i t)=true:=by simp[C4,Value.isInt]
def Nz(x:Str)(t:Tok):C4 (.inr x) (.str x t)=true:=by simp[C4,Value.isStrOf]
def YE(a b:Int):decide ((Sum.inl a:Key)=Sum.inl b)=(a == b):=by
 by_cases e:a=b
 ·subst e;simp
 ·have h:¬(Sum.inl a:Key)=Sum.inl b:=λq=>e<|Sum.inl.inj q;rw[bw h];exact(eg.mpr e).symm
def YY(a b:Str):decide ((Sum.inr a:Key)=Sum.inr b)=decide (a=b):=by
 by_cases e:a=b
 ·subst e;simp
 ·have h:¬(Sum.inr a:Key)=Sum.inr b:=λq=>e<|Sum.inr.inj q;rw[bw h,bw e]
def aaq(a:Int)(b:Str):decide ((Sum.inl a:Key)=Sum.inr b)=false:=bw λq=>nomatch q
def Yj(a:Str)(b:Int):decide ((Sum.inr a:Key)=Sum.inl b)=false:=bw λq=>nomatch q
abbrev lB (prog:aj)(w:ah):PySem.KeyKind prog w Key where
 is:=C4
 hash:=ad4 w
 inj:=λv a b ha hb=>by
  rcases mQ ha with⟨i,t,rfl,rfl⟩|⟨x,t,rfl,rfl⟩
  ·rcases mQ hb with⟨j,u,rfl,e⟩|⟨y,u,rfl,e⟩
   ·injection e with e1 _;rw[e1]
   ·exact nomatch e
  ·rcases mQ hb with⟨j,u,rfl,e⟩|⟨y,u,rfl,e⟩
   ·exact nomatch e
   ·injection e with e1 _;rw[e1]
 byValue:=λk v h=>by
  rcases mQ h with⟨i,t,rfl,rfl⟩|⟨x,t,rfl,rfl⟩<;>rfl
 pyHash:=λhv h=>by
  rcases mQ hv with⟨i,t,rfl,rfl⟩|⟨x,t,rfl,rfl⟩
  ·exact wpAny_pyHash_int h
  ·exact wpAny_pyHash_str h
 eqBool:=λd hv h=>by
  rcases mQ d with⟨i,t,rfl,rfl⟩|⟨x,t,rfl,rfl⟩
  ·rcases mQ hv with⟨j,u,rfl,rfl⟩|⟨y,u,rfl,rfl⟩
   ·rw[YE]at h;exact wpAny_eqBool_int h
   ·rw[aaq]at h;exact SeqAt.EqAt.int_str i t y u _ _ _ _ h
  ·rcases mQ hv with⟨j,u,rfl,rfl⟩|⟨y,u,rfl,rfl⟩
   ·rw[Yj]at h;exact SeqAt.EqAt.str_int x t j u _ _ _ _ h
   ·rw[YY]at h;exact wpAny_eqBool_str h
 «strs»:=λk x t v h=>by
  rcases mQ h with⟨i,u,rfl,e⟩|⟨y,u,rfl,e⟩
  ·exact nomatch e
  ·injection e with e1 _
   subst e1
   cases v<;>rfl
def GK(prog:aj)(w:ah)(i:Int)(t:Tok):(lB prog w).is (.inl i) (.int i t)=true:=MJ i t
def G9(prog:aj)(w:ah)(x:Str)(t:Tok):(lB prog w).is (.inr x) (.str x t)=true:=Nz x t
inductive V where
 | non|bl (b:Bool)|int (i:Int)|str (x:Str)|byt (b:Array UInt8)|flt (b:UInt64)|ref (a:ak)|ty (n:String)
 deriving DecidableEq
abbrev RelV:V->af->Prop
 | .non,u=>u=Value.none
 | .bl b,u=>u=Value.bool b
 | .int i,u=>∃t,u=Value.int i t
 | .str x,u=>∃t,u=Value.str x t
 | .byt b,u=>∃t,u=Value.bytes b t
 | .flt b,u=>∃t,u=Value.float b t
 | .ref a,u=>u=Value.ref a
 | .ty n,u=>u=Value.type n
meta abbrev Vals:List V->ba->Prop:=Paired RelV
def Vals.length{xs:List V}{us:ba}(r:Vals xs us):xs.length=us.length:=jC r
theorem Vals.get:∀{xs:List V}{us:ba}{i:Nat}{x:V},Vals xs us->xs[i]?=some x->∃u,us[i]?=some u/\RelV x u
 | _,_,_,_,.nil,e=>by simp at e
 | _,_,0,_,.cons r _,e=>by simp at e;subst e;exact⟨_,rfl,r⟩
 | _,_,i+1,x,.cons _ t,e=>by
  obtain⟨u,h1,h2⟩:=Vals.get (i:=i) (x:=x) t (by simpa using e);exact⟨u,by simpa using h1,h2⟩
theorem Vals.set{x:V}(r:RelV x u):∀{xs:List V}{us:ba}(i:Nat),Vals xs us->Vals (xs.set i x) (us.set i u)
 | _,_,_,.nil=>.nil
 | _,_,0,.cons _ t=>.cons r t
 | _,_,i+1,.cons q t=>.cons q<|Vals.set r i t
theorem Vals.append:∀{xs ys:List V}{us ws:ba},Vals xs us->Vals ys ws->Vals (xs++ys) (us++ws)
 | _,_,_,_,.nil,s=>s
 | _,_,_,_,.cons r t,s=>.cons r<|Vals.append t s
theorem Vals.take:∀{xs:List V}{us:ba}(n:Nat),Vals xs us->Vals (xs.take n) (us.take n)
 | _,_,0,_=>.nil
 | _,_,_+1,.nil=>.nil
 | _,_,n+1,.cons r t=>.cons r<|Vals.take n t
theorem Vals.drop:∀{xs:List V}{us:ba}(n:Nat),Vals xs us->Vals (xs.drop n) (us.drop n)
 | _,_,0,r=>r
 | _,_,_+1,.nil=>.nil
 | _,_,n+1,.cons _ t=>Vals.drop n t
abbrev yF:Option V->bd->Prop
 | some v,some u=>RelV v u
 | none,none=>True
 | _,_=>False
abbrev KV {κ:Type}:List (κ×V)->List (κ×af)->Prop:=Paired λ(p:κ×V) (q:κ×af)=>p.1=q.1/\RelV p.2 q.2
abbrev kV:Key->V
 | .inl i=>.int i
 | .inr x=>.str x
inductive HO where
 | lst (xs:List V)
 | tup (xs:List V)
 | dK (kvs:List<|Key×V)|dT (kvs:List<|List Key×V)
 | set (S:Int->Bool) (n:Nat)
 | ins (C dx:ak) (fs:List<|Str×V)
 | own (x:ak)
 | xd (fs:List<|Str×V)
 | met (f x:ak)
 | rng (lo hi:Int)
 | frz (o:Obj) (u:HO)
 | tbl (ps:Array af)
 | ext (φ:aq->Prop)
meta abbrev Hp:=ak->Option HO
abbrev upd (H:Hp)(a:ak)(o:HO):Hp:=λb=>if b=a then some o else H b
def kP{H:Hp}{a:ak}:upd H a o a=some o:=by unfold upd;rw[aO rfl]
def j8{H:Hp}{a:ak}(h:b≠a):upd H a o b=H b:=by unfold upd;rw[aM h]
def RI{H:Hp}{a:ak}(h:H a=some o)(h':H b=some u)(d:o≠u):a≠b:=by
 intro e;subst e;rw[h]at h';exact d<|bB h'
def kF{H:Hp}{a:ak}(h:H a=some o)(h':H b=none):a≠b:=by
 intro e;subst e;rw[h]at h';cases h'
abbrev qJ (h:aq)(a:ak)(J:Array af):Prop:=∃o,h.get? a=some o/\o.cls=.type "tuple" /\ o.dict=none/\∃n,o.data=.seq J n
def qJ.tup{a:ak}:qJ h a items->IsTup h a items:=λ⟨o,e,c,_,n,d⟩=>⟨o,e,c,n,d⟩
def qJ.new(h:aq)(J:Array af):qJ (h.push { cls:=.type "tuple",data:=.seq J }) h.objs.size J:=⟨_,bu _ rfl,rfl,rfl,_,rfl⟩
def qJ.lt{h:aq}{a:ak}(x:qJ h a items):a<h.objs.size:=let⟨_,ho,_⟩:=x;a_ ho
section
variable (P:aj) (w:ah)
abbrev mz (H:Hp)(h:aq)(a:ak):HO->Prop
 | .lst xs=>xs.length<=sizeLine/\∃(g:ba) (n:Nat),Vals xs g/\h.get? a=some { cls:=.type "list",data:=.seq g.toArray n }
 | .tup xs=>xs.length<=sizeLine/\∃g:ba,Vals xs g/\qJ h a g.toArray
 | .dK d=>d.length<=sizeLine/\(a == sysModules)=false/\∃vs,KV d vs/\h.DictOf (lB P w) a vs
 | .dT d=>d.length<=sizeLine/\(a == sysModules)=false/\∃xs:List<|List Key×ak×af,
   Paired (λ(p:List Key×V) (q:List Key×ak×af)=>p.1=q.1/\H q.2.1=some (.tup<|p.1.map kV)/\RelV p.2 q.2.2) d xs /\
   ∃o es ep,h.get? a=some o/\o.ExactDict/\o.data=.dict es ep/\es.toList=xs.map (entryOfKey<|tupleKind<|lB P w)/\(xs.map (·.1)).Nodup
 | .set S n=>h.SetOf (intKind P w) a S n
 | .ins C dx fs=>H dx=some (.own a)/\fs.length<=1000/\dx≠a/\h.get? a=some (PySem.W.instObj C dx) /\
   ∃j,h.Ns1 dx j/\(∀f,yF (fs.lookup f)<|j f)/\PySem.Within j (fs.map (·.1))
 | .own _=>∃o,h.get? a=some o
 | .xd fs=>∃j,h.Ns1 a j/\∀f,yF (fs.lookup f) (j f)
 | .rng lo hi=>∃t u v,h.get? a=some { cls:=.type "range",data:=.fields #[.int lo t,.int hi u,.int 1 v]}
 | .frz o u=>h.get? a=some o/\mz H h a u
 | .tbl ps=>h.get? a=some { cls:=.none,data:=.fields ps }
 | .met f x=>h.get? a=some (PySem.W.methodObj (.ref f)<|.ref x)
 | .ext k=>k h/\(∃o,h.get? a=some o)/\∀h1 h2:aq,k h1->(∀o,h1.get? a=some o->h2.get? a=some o)->k h2
abbrev wC (H:Hp)(h:aq):Prop:=∀a o,H a=some o->mz P w H h a o
end
section
variable {P:aj}{w:ah}{H H':Hp}{h h':aq}{a:ak}{o:HO}
def mz.lt(x:mz P w H h a o):a<h.objs.size:=by
 cases o with
 | lst xs=>obtain⟨_,_,_,_,e⟩:=x;exact a_ e
 | tup xs=>obtain⟨_,_,_,p⟩:=x;exact qJ.lt p
 | dK d=>obtain⟨_,_,_,_,o,_,_,e,_⟩:=x;exact a_ e
 | dT d=>obtain⟨_,_,_,_,o,_,_,e,_⟩:=x;exact a_ e
 | set S n=>obtain⟨o,_,_,_,e,_⟩:=x;exact a_ e
 | ins C dx fs=>obtain⟨_,_,_,e,_⟩:=x;exact a_ e
 | own y=>obtain⟨_,e⟩:=x;exact a_ e
 | xd fs=>obtain⟨_,⟨_,_,_,e,_⟩,_⟩:=x;exact a_ e
 | rng lo hi=>obtain⟨_,_,_,e⟩:=x;exact a_ e
 | frz g u=>obtain⟨e,_⟩:=x;exact a_ e
 | tbl ps=>exact a_ (show h.get? a=some _ from x)
 | met f y=>exact a_ (show h.get? a=some _ from x)
 | ext j=>obtain⟨_,⟨_,e⟩,_⟩:=x;exact a_ e
theorem Paired.Yi{α β:Type}{F G:α->β->Prop}:∀{l₁:List α}{l₂:List β},Paired F l₁ l₂->(∀a b,F a b->G a b)->Paired G l₁ l₂
 | _,_,.nil,_=>.nil
 | _,_,.cons r t,f=>.cons (f _ _ r)<|Paired.Yi t f
def mz.stay(x:mz P w H h a o)(k:∀b u,(b=a\/H b=some (.own a))->h.get? b=some u->h'.get? b=some u)
  (U:∀b,H b=some (.own a)->H' b=some (.own a)) (Z:∀b xs,H b=some (.tup xs)->H' b=some (.tup xs)):mz P w H' h' a o:=by
 induction o with
 | lst xs=>obtain⟨z,j,n,r,e⟩:=x;exact⟨z,j,n,r,k _ _ (.inl rfl) e⟩
 | tup xs=>obtain⟨z,j,r,g,e,c⟩:=x;exact⟨z,j,r,g,k _ _ (.inl rfl) e,c⟩
 | dK m=>obtain⟨z,y,vs,r,g,es,ep,e,c⟩:=x;exact⟨z,y,vs,r,g,es,ep,k _ _ (.inl rfl) e,c⟩
 | dT m=>
  obtain⟨z,y,xs,r,g,es,ep,e,c⟩:=x;exact⟨z,y,xs,Paired.Yi r λp q z=>⟨z.1,Z _ _ z.2.1,z.2.2⟩,g,es,ep,k _ _ (.inl rfl) e,c⟩
 | set S n=>obtain⟨g,es,ep,t,e,c⟩:=x;exact⟨g,es,ep,t,k _ _ (.inl rfl) e,c⟩
 | ins C dx fs=>
  obtain⟨d,z,G,e,B,⟨od,es,ep,e2,c⟩,r⟩:=x;exact⟨U _ d,z,G,k _ _ (.inl rfl) e,B,⟨od,es,ep,k _ _ (.inr d) e2,c⟩,r⟩
 | own y=>obtain⟨g,e⟩:=x;exact⟨g,k _ _ (.inl rfl) e⟩
 | xd fs=>obtain⟨B,⟨od,es,ep,e,c⟩,r⟩:=x;exact⟨B,⟨od,es,ep,k _ _ (.inl rfl) e,c⟩,r⟩
 | rng lo hi=>obtain⟨t,u,v,e⟩:=x;exact⟨t,u,v,k _ _ (.inl rfl) e⟩
 | frz g u J=>obtain⟨e,q⟩:=x;exact⟨k _ _ (.inl rfl) e,J q⟩
 | tbl ps=>
  have e:h.get? a=some { cls:=.none,data:=.fields ps }:=x
  skip
  exact k a _ (.inl rfl) e
 | met f y=>
  have e:h.get? a=some (PySem.W.methodObj (.ref f)<|.ref y):=x
  skip
  exact k a _ (.inl rfl) e
 | ext K=>obtain⟨p,⟨o,e⟩,st⟩:=x;exact⟨st _ _ p λo q=>k _ _ (.inl rfl) q,⟨o,k _ _ (.inl rfl) e⟩,st⟩
def wC.lt(x:wC P w H h)(e:H a=some o):a<h.objs.size:=(x a o e).lt
def wC.fresh(x:wC P w H h)(e:h.objs.size<=a):H a=none:=by
 cases q:H a with
 | none=>rfl
 | some u=>exact absurd (bO (x.lt q) e)<|eG _
def wC.kept(x:wC P w H h)(k:∀b u,h.get? b=some u->h'.get? b=some u):wC P w H h':=λa o e=>
 (x a o e).stay (λb u _ q=>k b u q) (λ_ q=>q) λ_ _ q=>q
def wC.laid(x:wC P w H h)(k:∀b u,h.get? b=some u->h'.get? b=some u)(hp:h.objs.size<=a)(new:mz P w (upd H a o) h' a o):wC P w (upd H a o) h':=λb u e=>by
 have hn:=x.fresh hp;by_cases hb:b=a
 ·subst hb;rw[kP]at e;cases e;exact new
 ·rw[j8 hb]at e;exact(x b u e).stay (λc v _ q=>k c v q) (λc q=>by rw[j8<|kF q hn];exact q) λc xs q=>by rw[j8<|kF q hn];exact q
end
abbrev Rd (H:Hp)(a:ak)(u:HO):Prop:=H a=some u\/∃o,H a=some (.frz o u)
def Rd.ok{P:aj}{w:ah}{H:Hp}{a:ak}(r:Rd H a u)(x:wC P w H h):mz P w H h a u:=by
 rcases r with r|⟨o,r⟩
 ·exact x a u r
 ·obtain⟨_,q⟩:=x a _ r;exact q
abbrev Mut:Option HO->Prop
 | some (.lst _)=>True
 | some (.dK _)=>True
 | some (.dT _)=>True
 | some (.set _ _)=>True
 | some (.ins _ _ _)=>True
 | some (.ext _)=>True
 | _=>False
section
variable {P:aj}{w:ah}{H:Hp}{h h':aq}{x e:ak}{o':HO}
def wC.write(ok:wC P w H h)(J:Mut<|H x)(Z:e=x\/H e=some (.own x))(k:∀b u,b≠e->h.get? b=some u->h'.get? b=some u)(U:∃u,h'.get? e=some u)
  (new:mz P w (upd H x o') h' x o'):wC P w (upd H x o') h':=λb u q=>by
 have f:∀c y,H c=some (.own y)->c≠x:=λc y r z=>by subst z;rw[r]at J;exact J
 have g:∀c xs,H c=some (.tup xs)->c≠x:=λc xs r z=>by subst z;rw[r]at J;exact J
 by_cases hb:b=x
 ·subst hb;rw[kP]at q;cases q;exact new
 ·rw[j8 hb]at q;by_cases d:b=e
  ·have q':H b=some (.own x):=by
    rcases Z with z|z
    ·exact absurd (d.trans z) hb
    ·rw[d];exact z
   rw[q]at q';cases q';obtain⟨v,hv⟩:=U;exact⟨v,by rw[d];exact hv⟩
  ·refine(ok b u q).stay (λc v hc r=>k c v ?_ r) (λc r=>by rw[j8<|f c b r];exact r) λc xs r=>by rw[j8<|g c xs r];exact r
   rcases hc with rfl|hc
   ·exact d
   ·rintro rfl
    rcases Z with z|z
    ·exact f c b hc z
    ·rw[hc]at z;cases z;exact hb rfl
end
structure Un (fs ex:bb)(H H':Hp)(h h':aq):Prop where
 keep:∀b o,h.get? b=some o->H b=none->b∉fs->b∉ex->h'.get? b=some o
 slot:∀b o,h.get? b=some o->H b=none->b∈fs->b∉ex->∃sl,h'.get? b=some { o with slots:=sl }
 free:∀b o,h.get? b=some o->H b=none->b∉ex->H' b=none
 there:∀b o,h.get? b=some o->b∉ex->∃o',h'.get? b=some o'
 tups:∀b xs,H b=some (.tup xs)->H' b=some (.tup xs)
 frzs:∀b o u,H b=some (.frz o u)->H' b=some (.frz o u)
 tbls:∀b ps,H b=some (.tbl ps)->∃more,H' b=some (.tbl<|ps++more)
section
variable {fs ex:bb}{H H1:Hp}{h h1 h':aq}{a x e:ak}{o:HO}
def Un.any(u:Un fs ex H H1 h h1){ob:Obj}(q:h.get? b=some ob)(n:H b=none)(J:b∉ex):∃sl,h1.get? b=some { ob with slots:=sl }:=by
 by_cases hb:b∈fs
 ·exact u.slot b ob q n hb J
 ·exact⟨ob.slots,u.keep b ob q n hb J⟩
def Un.kept(k:∀b u,h.get? b=some u->h'.get? b=some u):Un fs ex H H h h':=
 ⟨λb d q _ _ _=>k b d q,λb d q _ _ _=>⟨d.slots,k b d q⟩,λ_ _ _ n _=>n,λb d q _=>⟨d,k b d q⟩,λ_ _ q=>q,λ_ _ _ q=>q,λ_ ps q=>⟨#[],by rw[q];simp⟩⟩
def Un.refl:Un fs ex H H h h:=Un.kept λ_ _ q=>q
def Un.laid(k:∀b u,h.get? b=some u->h'.get? b=some u)(hp:h.objs.size<=a)(hn:H a=none):Un fs ex H (upd H a o) h h' where
 keep:=λb u q _ _ _=>k b u q
 slot:=λb u q _ _ _=>⟨u.slots,k b u q⟩
 free:=λb u q n _=>by rw[j8<|bD<|bO (a_ q) hp];exact n
 there:=λb u q _=>⟨u,k b u q⟩
 tups:=λb xs q=>by rw[j8<|kF q hn];exact q
 frzs:=λb u xs q=>by rw[j8<|kF q hn];exact q
 tbls:=λb ps q=>⟨#[],by rw[j8<|kF q hn,q];simp⟩
def Un.write(J:Mut<|H x)(Z:e=x\/H e=some (.own x))(k:∀b u,b≠e->h.get? b=some u->h'.get? b=some u)(U:∃u,h'.get? e=some u):Un fs ex H (upd H x o) h h':=by
 have g:∀b,H b=none->b≠x:=λb n z=>by subst z;rw[n]at J;exact J
 have hb:∀b,H b=none->b≠e:=λb n z=>by
  subst z
  rcases Z with r|r
  ·exact g b n r
  ·rw[n]at r;cases r
 have f:∀b u,H b=some u->¬Mut (some u)->b≠x:=λb u q nm z=>by subst z;rw[q]at J;exact nm J
 refine⟨λb u q n _ _=>k b u (hb b n) q,λb u q n _ _=>⟨u.slots,k b u (hb b n) q⟩,λb u q n _=>by rw[j8<|g b n];exact n,λb u q _=>?_,
  λb xs q=>by rw[j8<|f b _ q λz=>z];exact q,λb u xs q=>by rw[j8<|f b _ q λz=>z];exact q,λb ps q=>⟨#[],by rw[j8<|f b _ q λz=>z,q];simp⟩⟩
 by_cases d:b=e
 ·subst d;exact U
 ·exact⟨u,k b u d q⟩
end
abbrev trk (h:aq)(H:Hp):bb:=(List.range h.objs.size).filter λa=>(H a).isSome
abbrev D_ (h:aq)(H:Hp):aq:=PySem.W.hideAll h<|trk h H
def Ni(h:aq)(H:Hp):(D_ h H).objs.size=h.objs.size:=PySem.W.hideAll_size _ _
def Sl{h:aq}{H:Hp}(e:h.get? b=some o)(n:H b=none):(D_ h H).get? b=some o:=
 eo _ e λd=>by
  have q:(H b).isSome=true:=(bQ.mp d).2;rw[n]at q;simp at q
def VO{h:aq}{H:Hp}(e:(D_ h H).get? b=some o):h.get? b=some o/\H b=none:=by
 have d:h.get? b=some o:=fY (trk h H) e;refine⟨d,?_⟩
 cases q:H b with
 | none=>rfl
 | some x=>
  have f:b∈trk h H:=bQ.mpr ⟨cE.mpr<|a_ d,by simp[q]⟩;have z:(D_ h H).get? b=none:=PySem.W.hideAll_none (trk h H) f;rw[z]at e;cases e
abbrev Wt (g h:aq)(L:ak):bp:=(List.range h.objs.size).filterMap λa=>if a=L\/(g.get? a).isSome=true then none else(h.get? a).map λo=>(a,o)
abbrev rest (g h:aq)(L d:ak):bp:=(Wt g h L).filter λp=>decide<|p.1≠d
structure Mod (K:au)(mg:Str->bd)(base:aq):Prop where
 kin:K.In base
 glob:base.Ns mainGlobals mg
 blt:∃mb,base.Ns builtinsNs mb/\∀x:Str,x ≠ "__name__" -> mb x=bootBuiltins x
 nolimit:base.NoLimit
structure Cx where
 prog:aj
 w:ah
 K:au
 mg:Str->bd
 base:aq
 A:aA
 N:ar
 s₀:aC
 H₀:Hp
 env:Env
 outer:List Env
 stack:List Env
 ex:bb
 fn:Str->Bool
 calm:Bool
 pn:bp
 xe:af->aC->Prop
abbrev frs (l:List Env):bb:=l.filterMap (·.frame)
meta abbrev Cx.fs (X:Cx):bb:=frs X.outer
abbrev Vis (J:Scope)(x:Str):Prop:=J.names.lookup x=some .local\/J.names.lookup x=some .cell\/J.names.lookup x=some .free
abbrev Loc (J:Scope)(x:Str):Prop:=J.names.lookup x=some .local\/J.names.lookup x=some .cell
abbrev Look (env:Env)(h:aq)(m:Str->bd)(x:Str)(u:af):Prop:=
 (env.kindOf x=some .local/\m x=some u)\/((env.kindOf x=some .cell\/env.kindOf x=some .free)/\∃c,env.cells.lookup x=some c/\h.IsCell c (some u))
structure Cx.Ok (X:Cx):Prop where
 mod:Mod X.K X.mg X.base
 kind:X.env.scope.kind=.function
 glob:X.env.globals=mainGlobals
 blt:X.env.builtins=builtinsNs
 above:X.s₀.heap.objs.size<=X.env.locals
 inj:∀x y c,X.env.cells.lookup x=some c->X.env.cells.lookup y=some c->x=y
 has:∀x,(X.env.kindOf x=some .cell\/X.env.kindOf x=some .free)->∃c,X.env.cells.lookup x=some c
 cab:∀x c,X.fn x=true->X.env.cells.lookup x=some c->X.s₀.heap.objs.size<=c
 hd:X.calm=true->X.A.handled=none
 frames:X.A.frames=some X.stack
 stk:X.stack=X.outer\/(X.stack=X.env::X.outer/\X.env.frame=some X.env.locals)
 exf:∀b∈X.ex,b≠X.env.locals/\∀x c,X.env.cells.lookup x=some c->c≠b
 bs:∀b o,X.base.get? b=some o->X.s₀.heap.get? b=some o/\X.H₀ b=none
 bsz:X.base.objs.size<=X.s₀.heap.objs.size
 noex:∀b o,X.base.get? b=some o->b∉X.ex
 exfs:∀b∈X.ex,b∉X.fs
 uF:X.s₀.heap.FunFrames X.base X.outer
 frf:∀b∈X.fs,X.H₀ b=none
structure Inv (X:Cx)(ai:bp)(σ:List (Option V))(H:Hp)(s:aC):Prop where
 ok:X.Ok
 os:s.os=X.s₀.os
 bare:AllBare s.gens
 base:Un X.fs X.ex X.H₀ H X.s₀.heap s.heap
 loc:∃m,s.heap.Ns X.env.locals m/\∀(i:Nat) (x:Str) (v:V),X.N[i]?=some x->σ[i]?=some (some v)->Vis X.env.scope x->∃u,RelV v u/\Look X.env s.heap m x u
 cell:∀x c,X.env.cells.lookup x=some c->∃v,s.heap.IsCell c v
 free:H X.env.locals=none
 freeC:∀x c,X.env.cells.lookup x=some c->H c=none
 pin:∀p∈X.pn++ai,s.heap.get? p.1=some p.2/\H p.1=none/\p.1≠X.env.locals/\p.1∉X.fs/\∀v,p.2.data≠.cell v
 hok:wC X.prog X.w H s.heap
 len:σ.length=X.N.length
section
variable {X:Cx}{ai:bp}{σ:List (Option V)}{H H':Hp}{s:aC}{h':aq}
def Cx.Ok.adz(ok:X.Ok)(e:X.base.get? b=some o):b∉X.fs:=λhb=>by
 have:=(ok.uF.mem hb).1;rw[e]at this;cases this
def Inv.bs(I:Inv X ai σ H s):∀b o,X.base.get? b=some o->s.heap.get? b=some o/\H b=none:=λb o e=>
 ⟨I.base.keep b o (I.ok.bs b o e).1 (I.ok.bs b o e).2 (I.ok.adz e)<|I.ok.noex b o e,I.base.free b o (I.ok.bs b o e).1 (I.ok.bs b o e).2<|I.ok.noex b o e⟩
def Inv.bk(I:Inv X ai σ H s):∀b o,X.base.get? b=some o->s.heap.get? b=some o:=λb o e=>(I.bs b o e).1
def Inv.mod(I:Inv X ai σ H s):Mod X.K X.mg X.base:=I.ok.mod
def Inv.AH(I:Inv X ai σ H s):X.K.In s.heap:=I.ok.mod.kin.keeps I.bk
def Inv.lt(I:Inv X ai σ H s):X.env.locals<s.heap.objs.size:=let⟨_,hn,_⟩:=I.loc;hn.lt
def Inv.sz(I:Inv X ai σ H s):X.s₀.heap.objs.size<=s.heap.objs.size:=bI I.ok.above<|jk I.lt
def Inv.adt(I:Inv X ai σ H s){a:ak}(h:s.heap.objs.size<=a):a∉X.fs:=λhb=>by
 obtain⟨_,o,d,_⟩:=I.ok.uF.mem hb;exact absurd (bO (a_ d)<|bI I.sz h)<|eG _
def Inv.UM(I:Inv X ai σ H s):∀x c,X.env.cells.lookup x=some c->c≠X.env.locals:=λx c e z=>by
 obtain⟨v,o,j,g⟩:=I.cell x c e;obtain⟨m,⟨o',es,ep,f,d,_⟩,_⟩:=I.loc;rw[z,f]at j;cases j;rw[d]at g;cases g
def Inv.uF(I:Inv X ai σ H s):s.heap.FunFrames X.base X.outer:=by
 have all:∀(l:List Env),(∀b∈frs l,b∈X.fs)->X.s₀.heap.FunFrames X.base l->s.heap.FunFrames X.base l:=by
  intro l
  induction l with
  | nil=>intro _ _;trivial
  | cons env r m=>
   intro hs g;obtain⟨f,⟨L,o,hf,hn,p,j⟩,k⟩:=g;have d:L∈X.fs:=hs L (by unfold frs;rw[fO,hf];exact aR);obtain⟨q,e⟩:=I.base.slot L o p (I.ok.frf L d) d λz=>I.ok.exfs L z d;exact⟨f,⟨L,_,hf,hn,e,j⟩,m (λb hb=>hs b<|by unfold frs;rw[fO,hf];exact aS _ hb) k⟩
 exact all X.outer (λ_ hb=>hb) I.ok.uF
def Inv.stack(I:Inv X ai σ H s):s.heap.FunFrames X.base X.stack:=by
 rcases I.ok.stk with e|⟨e,hf⟩
 ·rw[e];exact I.uF
 ·rw[e];obtain⟨m,hn,_⟩:=I.loc;refine .cons (by rw[I.ok.kind];decide) hf hn ?_ I.uF;exact Heap.get?_none_of_le<|bI I.ok.bsz I.ok.above
def Inv.AU(I:Inv X ai σ H s):∀b∈frs X.stack,b∈X.env.locals::X.fs:=λb hb=>by
 rcases I.ok.stk with e|⟨e,hf⟩
 ·rw[e]at hb;exact aS _ hb
 ·rw[e]at hb;unfold frs at hb;rw[fO,hf]at hb;exact hb
def Inv.zW(I:Inv X ai σ H s):∀b∈frs X.stack,H b=none:=λb hb=>by
 rcases bG.mp (I.AU b hb)with e|hb
 ·rw[e];exact I.free
 ·obtain⟨_,o,d,_⟩:=I.ok.uF.mem hb;exact I.base.free b o d (I.ok.frf b hb) λz=>I.ok.exfs b z hb
def Inv.step{g':Array GenState}{t':Nat}{d':Drawn}{ch:bb}(I:Inv X ai σ H s)
  (U:∀b∈ch,(b∈X.ex\/X.s₀.heap.objs.size<=b)/\b≠X.env.locals/\(∀x c,X.env.cells.lookup x=some c->c≠b)/\∀p∈X.pn++ai,p.1≠b)
  (keep:∀b o,b≠X.env.locals->b∉X.fs->b∉ch->s.heap.get? b=some o->H b=none->h'.get? b=some o)
  (slot:∀b o,b≠X.env.locals->b∈X.fs->b∉ch->s.heap.get? b=some o->H b=none->∃sl,h'.get? b=some { o with slots:=sl }) (free:∀b o,b∉ch->s.heap.get? b=some o->H b=none->H' b=none)
  (there:∀b o,b∉ch->s.heap.get? b=some o->∃o',h'.get? b=some o')
  (tups:∀b xs,H b=some (.tup xs)->H' b=some (.tup xs)) (frzs:∀b o u,H b=some (.frz o u)->H' b=some (.frz o u)) (tbls:∀b ps,H b=some (.tbl ps)->∃more,H' b=some (.tbl<|ps++more))
  (ns:∀m,s.heap.Ns X.env.locals m->h'.Ns X.env.locals m) (Z:wC X.prog X.w H' h') (hg:AllBare g') :
  Inv X ai σ H' { s with heap:=h',gens:=g',drawn:=d',toks:=t' }:=by
 have G:∀b o,X.s₀.heap.get? b=some o->b≠X.env.locals:=λb o e=>bD<|bO (a_ e) I.ok.above;have B:∀b o,X.s₀.heap.get? b=some o->b∉X.ex->b∉ch:=λb o e f hb=>by
  rcases(U b hb).1 with z|z
  ·exact f z
  ·exact absurd (bO (a_ e) z)<|eG _
 have j:∀x c,X.env.cells.lookup x=some c->∀v,s.heap.IsCell c v->h'.IsCell c v:=λx c e v ⟨o,C,J⟩=>by
  have g:c∉ch:=λz=>(U c z).2.2.1 x c e rfl;by_cases hc:c∈X.fs
  ·obtain⟨sl,q⟩:=slot c o (I.UM x c e) hc g C<|I.freeC x c e;exact⟨_,q,J⟩
  ·exact⟨o,keep c o (I.UM x c e) hc g C<|I.freeC x c e,J⟩
 refine⟨I.ok,I.os,hg,⟨λb o e n hb f=>?_,λb o e n hb f=>?_,λb o e n f=>?_,λb o e f=>?_,λb xs e=>tups b xs<|I.base.tups b xs e,λb o xs e=>frzs b o xs<|I.base.frzs b o xs e,λb ps e=>?_⟩,?_,λx c e=>?_,?_,λx c e=>?_,λp hp=>?_,Z,I.len⟩
 ·exact keep b o (G b o e) hb (B b o e f) (I.base.keep b o e n hb f) (I.base.free b o e n f)
 ·obtain⟨sl,e1⟩:=I.base.slot b o e n hb f;obtain⟨K,e2⟩:=slot b _ (G b o e) hb (B b o e f) e1<|I.base.free b o e n f;exact⟨K,e2⟩
 ·obtain⟨o',e1⟩:=I.base.there b o e f;exact free b o' (B b o e f) e1 (I.base.free b o e n f)
 ·obtain⟨o',e1⟩:=I.base.there b o e f;exact there b o' (B b o e f) e1
 ·obtain⟨N,e1⟩:=I.base.tbls b ps e;obtain⟨O,e2⟩:=tbls b _ e1;exact⟨N++O,by rw[e2,Array.append_assoc]⟩
 ·obtain⟨m,hn,P⟩:=I.loc;refine⟨m,ns m hn,λi x v e1 e2 e3=>?_⟩;obtain⟨u,r,l⟩:=P i x v e1 e2 e3;refine⟨u,r,?_⟩
  rcases l with l|⟨k,c,e,z⟩
  ·exact .inl l
  ·exact .inr ⟨k,c,e,j x c e _ z⟩
 ·obtain⟨v,z⟩:=I.cell x c e;exact⟨v,j x c e v z⟩
 ·obtain⟨m,⟨o,_,_,C,_⟩,_⟩:=I.loc;exact free _ o (λz=>(U _ z).2.1 rfl) C I.free
 ·obtain⟨v,o,C,J⟩:=I.cell x c e;exact free c o (λz=>(U c z).2.2.1 x c e rfl) C (I.freeC x c e)
 ·obtain⟨e,n,L,M,d⟩:=I.pin p hp;have g:p.1∉ch:=λz=>(U p.1 z).2.2.2 p hp rfl;exact⟨keep p.1 p.2 L M g e n,free p.1 p.2 g e n,L,M,d⟩
def Inv.un{t':Nat}(I:Inv X ai σ H s)(u:Un X.fs [] H H' s.heap h')(J:wC X.prog X.w H' h'):Inv X ai σ H' { s with heap:=h',toks:=t' }:=by
 obtain⟨m,⟨o,es,ep,j,r⟩,_⟩:=id I.loc;obtain⟨B,p⟩:=u.any j I.free (by simp);exact I.step (g':=s.gens) (d':=s.drawn) (ch:=[]) (nofun) (λb o _ hb _ e n=>u.keep b o e n hb<|by simp) (λb o _ hb _ e n=>u.slot b o e n hb<|by simp) (λb o _ e n=>u.free b o e n<|by simp) (λb o _ e=>u.there b o e<|by simp) u.tups u.frzs u.tbls (λC k=>by
  obtain⟨o',f,g,d,q⟩:=k;rw[j]at d;cases d;exact⟨_,f,g,p,q⟩) J I.bare
def Inv.call{g':Array GenState}{t':Nat}{d':Drawn}{ch:bb}(I:Inv X ai σ H s)(u:Un (frs X.stack) ch H H' s.heap h')(U:wC X.prog X.w H' h')(hg:AllBare g')
  (J:∀b∈ch,(b∈X.ex\/X.s₀.heap.objs.size<=b)/\b≠X.env.locals/\(∀x c,X.env.cells.lookup x=some c->c≠b)/\∀p∈X.pn++ai,p.1≠b) :
  Inv X ai σ H' { s with heap:=h',gens:=g',drawn:=d',toks:=t' }:=by
 obtain⟨m,⟨o,es,ep,k,r⟩,_⟩:=id I.loc;obtain⟨C,f⟩:=u.any k I.free λz=>(J _ z).2.1 rfl;exact I.step (ch:=ch) J (λb o f hb hc e n=>u.keep b o e n (λz=>(bG.mp<|I.AU b z).elim f hb) hc) (λb o _ _ hc e n=>u.any e n hc) (λb o hc e n=>u.free b o e n hc) (λb o hc e=>u.there b o e hc) u.tups u.frzs u.tbls (λG q=>by
  obtain⟨o',g,j,d,B⟩:=q;rw[k]at d;cases d;exact⟨_,g,j,f,B⟩) U hg
def Inv.turned{t':Nat}{it:ak}(I:Inv X ai σ H s)(k:∀b o,b≠it->s.heap.get? b=some o->h'.get? b=some o)(hn:H it=none)(J:it≠X.env.locals)
  (h1:it∈X.ex\/X.s₀.heap.objs.size<=it) (h2:∀x c,X.env.cells.lookup x=some c->c≠it) (h3:∀p∈X.pn++ai,p.1≠it):Inv X ai σ H { s with heap:=h',toks:=t' }:=by
 have d:∀b u,H b=some u->b≠it:=λb u e z=>by rw[z,hn]at e;cases e
 refine I.step (g':=s.gens) (d':=s.drawn) (ch:=[it]) (λb hb=>?_) (λb o _ _ hc e _=>k b o (λz=>hc<|by simp[z]) e) (λb o _ _ hc e _=>⟨o.slots,k b o (λz=>hc<|by simp[z]) e⟩) (λ_ _ _ _ n=>n)
  (λb o hc e=>⟨o,k b o (λz=>hc<|by simp[z]) e⟩) (λ_ _ e=>e) (λ_ _ _ e=>e) (λb ps e=>⟨#[],by rw[e];simp⟩) (λm f=>?_) (λb u e=>?_) I.bare
 ·have e:b=it:=by simpa using hb
  subst e;exact⟨h1,J,h2,h3⟩
 ·obtain⟨o,es,ep,g,r⟩:=f;exact⟨o,es,ep,k _ o (Ne.symm J) g,r⟩
 ·refine(I.hok b u e).stay (λc v hc q=>k c v ?_ q) (λ_ q=>q) λ_ _ q=>q
  rcases hc with z|z
  ·rw[z];exact d b u e
  ·exact d c _ z
def Inv.tok(I:Inv X ai σ H s)(t:Nat):Inv X ai σ H { s with toks:=t }:=I.un (h':=s.heap) (t':=t) Un.refl I.hok
def Inv.kept{t':Nat}(I:Inv X ai σ H s)(k:∀b u,s.heap.get? b=some u->h'.get? b=some u):Inv X ai σ H { s with heap:=h',toks:=t' }:=I.un (Un.kept k)<|I.hok.kept k
def Inv.laid{a:ak}{t':Nat}(I:Inv X ai σ H s)(k:∀b u,s.heap.get? b=some u->h'.get? b=some u)(hp:s.heap.objs.size<=a)(new:mz X.prog X.w (upd H a o) h' a o) :
  Inv X ai σ (upd H a o) { s with heap:=h',toks:=t' }:=I.un (Un.laid k hp<|I.hok.fresh hp)<|I.hok.laid k hp new
def Inv.write{x e:ak}{t':Nat}(I:Inv X ai σ H s)(U:Mut<|H x)(Z:e=x\/H e=some (.own x))(k:∀b u,b≠e->s.heap.get? b=some u->h'.get? b=some u)(J:∃u,h'.get? e=some u)
  (new:mz X.prog X.w (upd H x o) h' x o):Inv X ai σ (upd H x o) { s with heap:=h',toks:=t' }:=I.un (Un.write U Z k J)<|I.hok.write U Z k J new
def Inv.Jk{pins':bp}(I:Inv X ai σ H s)(h:∀p∈pins',s.heap.get? p.1=some p.2/\H p.1=none/\p.1≠X.env.locals/\p.1∉X.fs/\∀v,p.2.data≠.cell v):Inv X pins' σ H s:=
 ⟨I.ok,I.os,I.bare,I.base,I.loc,I.cell,I.free,I.freeC,λp hp=>(bq.mp hp).elim (λz=>I.pin p<|bM _ z)<|h p,I.hok,I.len⟩
def AN{N:ar}(J:N.Nodup){i j:Nat}{x:Str}(a:N[i]?=some x)(b:N[j]?=some x):i=j:=by
 obtain⟨h1,e1⟩:=aJ.mp a;obtain⟨h2,e2⟩:=aJ.mp b;exact(dF J).mp (e1.trans e2.symm)
def _root_.γ0(h:1=1:=by first|exact .inl rfl|exact .inr rfl|assumption):1=1:=h
def _root_.γ:Lean.Syntax:=γ0._auto_1
def _root_.δ0(h:1=1:=by decide):1=1:=h
def _root_.δ:Lean.Syntax:=δ0._auto_1
def _root_.ε0(h:1=1:=by rfl):1=1:=h
def _root_.ε:Lean.Syntax:=ε0._auto_1
def _root_.η0(h:1=1:=by intro _;rfl):1=1:=h
def _root_.η:Lean.Syntax:=η0._auto_1
def _root_.θ0(h:1=1:=by with_unfolding_all rfl):1=1:=h
def _root_.θ:Lean.Syntax:=θ0._auto_1
def _root_.ι0(h:1=1:=by exact λ_ _=>rfl):1=1:=h
def _root_.ι:Lean.Syntax:=ι0._auto_1
def Mi{A:aA}{E:af->aC->Prop}{i:Nat}{x:Str}{v:V}{Q:Unit->aC->Prop}(I:Inv X ai σ H s)(hN:X.N.Nodup)(hi:X.N[i]?=some x)(hx:Loc X.env.scope x)(r:RelV v u)
  (h:∀s',Inv X ai (σ.set i<|some v) H s'->(∃a,Heap.SameBut a s.heap s'.heap/\(a=X.env.locals\/X.env.cells.lookup x=some a))->Q Unit.unit s') (hf:X.fn x=true\/X.env.scope.names.lookup x=some .local<|>γ):wpAny M A (storeName X.env x u) Q E s:=by
 obtain⟨m,hn,hl⟩:=id I.loc;have J:(X.env.scope.kind == .class || (X.env.scope.kind == .module && X.env.locals != X.env.globals))=false:=by rw[I.ok.kind];rfl
 have g:i<σ.length:=by rw[I.len];exact(aJ.mp hi).1
 have UM:=I.UM;have f:∀{a:ak} {h':aq},(∃o,s.heap.get? a=some o/\H a=none)->Heap.SameBut a s.heap h'->wC X.prog X.w H h':=λ{a h'} ha hs b ob e=>by
  obtain⟨_,_,hfree⟩:=ha;refine(I.hok b ob e).stay (λc W hc q=>(hs.2 c ?_).trans q) (λ_ q=>q) λ_ _ q=>q;rintro rfl
  rcases hc with rfl|hc
  ·rw[hfree]at e;cases e
  ·rw[hfree]at hc;cases hc
 rcases hx with B|B
 ·refine wpAny_storeName_local B hn (λh' Z hs=>?_) J;obtain⟨oL,_,_,hoL,_⟩:=id hn;refine h _ ⟨I.ok,I.os,I.bare,⟨λb o e n hb hx=>?_,λb o e n hb hx=>?_,I.base.free,λb o e hx=>?_,I.base.tups,I.base.frzs,I.base.tbls⟩,⟨_,Z,λj y v' e1 e2 e3=>?_⟩,λy c e=>?_,I.free,I.freeC,λp hp=>?_,f ⟨oL,hoL,I.free⟩ hs,by simpa using I.len⟩ ⟨_,hs,.inl rfl⟩
  ·exact(hs.2 b<|bD<|bO (a_ e) I.ok.above).trans (I.base.keep b o e n hb hx)
  ·obtain⟨sl,e1⟩:=I.base.slot b o e n hb hx;exact⟨sl,(hs.2 b<|bD<|bO (a_ e) I.ok.above).trans e1⟩
  ·obtain⟨o',e1⟩:=I.base.there b o e hx;exact⟨o',(hs.2 b<|bD<|bO (a_ e) I.ok.above).trans e1⟩
  ·by_cases G:j=i
   ·subst G;rw[hi]at e1;cases e1;rw[bP g]at e2
    cases e2
    exact⟨u,r,.inl ⟨B,by simp⟩⟩
   ·rw[bV<|Ne.symm G]at e2;obtain⟨u',r',q⟩:=hl j y v' e1 e2 e3;refine⟨u',r',?_⟩
    rcases q with⟨k,e⟩|⟨k,c,e,z⟩
    ·refine .inl ⟨k,?_⟩;have:y≠x:=λe=>G<|AN hN e1<|e ▸ hi;simp[this,e]
    ·exact .inr ⟨k,c,e,z.sameBut hs<|UM y c e⟩
  ·obtain⟨W,z⟩:=I.cell y c e;exact⟨W,z.sameBut hs<|UM y c e⟩
  ·obtain⟨e,n,T,Y,d⟩:=I.pin p hp;exact⟨(hs.2 p.1 T).trans e,n,T,Y,d⟩
 ·have C:X.fn x=true:=by
   rcases hf with z|z
   ·exact z
   ·rw[z]at B;cases B
  obtain⟨c,hc⟩:=I.ok.has x<|.inl B;obtain⟨W,z⟩:=I.cell x c hc;refine wpAny_storeName_cell I.ok.kind B hc z λh' O hs=>?_;obtain⟨oc,L,P⟩:=id z;refine h { s with heap:=h' } ⟨I.ok,I.os,I.bare,⟨λb o e n hb hx=>?_,λb o e n hb hx=>?_,I.base.free,λb o e hx=>?_,I.base.tups,I.base.frzs,I.base.tbls⟩,⟨m,hn.sameBut hs<|Ne.symm<|UM x c hc,λj y v' e1 e2 e3=>?_⟩,λy U e=>?_,I.free,I.freeC,λp hp=>?_,f ⟨oc,L,I.freeC x c hc⟩ hs,by simpa using I.len⟩ ⟨c,hs,.inr hc⟩
  ·exact(hs.2 b<|bD<|bO (a_ e)<|I.ok.cab x c C hc).trans (I.base.keep b o e n hb hx)
  ·obtain⟨sl,e1⟩:=I.base.slot b o e n hb hx;exact⟨sl,(hs.2 b<|bD<|bO (a_ e)<|I.ok.cab x c C hc).trans e1⟩
  ·obtain⟨o',e1⟩:=I.base.there b o e hx;exact⟨o',(hs.2 b<|bD<|bO (a_ e)<|I.ok.cab x c C hc).trans e1⟩
  ·by_cases G:j=i
   ·subst G;rw[hi]at e1;cases e1;rw[bP g]at e2
    cases e2
    exact⟨u,r,.inr ⟨.inl B,c,hc,O⟩⟩
   ·rw[bV<|Ne.symm G]at e2;obtain⟨u',r',q⟩:=hl j y v' e1 e2 e3;refine⟨u',r',?_⟩
    rcases q with q|⟨k,U,e,z'⟩
    ·exact .inl q
    ·refine .inr ⟨k,U,e,z'.sameBut hs ?_⟩;rintro rfl;exact G<|AN hN e1<|I.ok.inj _ _ _ e hc ▸ hi
  ·by_cases K:U=c
   ·subst K;exact⟨_,O⟩
   ·obtain⟨w2,z2⟩:=I.cell y U e;exact⟨w2,z2.sameBut hs K⟩
  ·obtain⟨e,n,T,Y,d⟩:=I.pin p hp;refine⟨(hs.2 p.1 ?_).trans e,n,T,Y,d⟩;intro q;rw[q,L]at e;have q':oc=p.2:=bB e;exact d W<|by rw[<- q'];exact P
def uR{A:aA}{E:af->aC->Prop}{i:Nat}{x:Str}{v:V}{Q:Unit->aC->Prop}(I:Inv X ai σ H s)(J:X.N.Nodup)(hi:X.N[i]?=some x)(U:Loc X.env.scope x)(r:RelV v u)
  (h:∀s',Inv X ai (σ.set i<|some v) H s'->Q Unit.unit s') (hf:X.fn x=true\/X.env.scope.names.lookup x=some .local<|>γ):wpAny M A (storeName X.env x u) Q E s:=
 Mi I J hi U r (λs' d _=>h s' d) hf
def Inv.Qo{s':aC}{ch:bb}(I:Inv X ai σ H s)(Z:s'.os=s.os)(u:Un (frs X.stack) ch H H' s.heap s'.heap)(J:wC X.prog X.w H' s'.heap)(hg:AllBare s'.gens)
  (U:∀b∈ch,(b∈X.ex\/X.s₀.heap.objs.size<=b)/\b≠X.env.locals/\(∀x c,X.env.cells.lookup x=some c->c≠b)/\∀p∈X.pn++ai,p.1≠b):Inv X ai σ H' s':=by
 obtain⟨h',g',d',t',o'⟩:=s';have e:o'=s.os:=Z;subst e;exact I.call (g':=g') (t':=t') (d':=d') u J hg U
end
meta abbrev XK:=af->Option ak->Hp->Prop
meta abbrev St:=List<|Option V
meta abbrev VK:=V->Hp->Prop
meta abbrev TE:=St->Hp->VK->Prop
meta abbrev TT:=St->Hp->(Bool->Hp->Prop)->Prop
meta abbrev TA:=St->Hp->(List V->Hp->Prop)->Prop
structure Ends where
 nx:St->Hp->Prop
 rt:VK
 bk:St->Hp->Prop:=λ_ _=>False
 ct:St->Hp->Prop:=λ_ _=>False
meta abbrev TS:=Ends->St->Hp->Prop
abbrev EP (X:Cx)(ai:bp)(σ:St)(Q:VK)(u:af)(s':aC):Prop:=∃v H',Inv X ai σ H' s'/\RelV v u/\Q v H'
abbrev TP (X:Cx)(ai:bp)(σ:St)(Q:Bool->Hp->Prop)(b:Bool)(s':aC):Prop:=∃H',Inv X ai σ H' s'/\Q b H'
abbrev AP (X:Cx)(ai:bp)(σ:St)(Q:List V->Hp->Prop)(us:ba)(s':aC):Prop:=∃vs H',Inv X ai σ H' s'/\Vals vs us/\Q vs H'
abbrev SP (X:Cx)(ai:bp)(D:Ends)(f:Flow)(s':aC):Prop:=
 match f with
 | .next=>∃d H',Inv X ai d H' s'/\D.nx d H'
 | .brk=>∃d H',Inv X ai d H' s'/\D.bk d H'
 | .cont=>∃d H',Inv X ai d H' s'/\D.ct d H'
 | .ret u=>∃v d H',Inv X ai d H' s'/\RelV v u/\D.rt v H'
abbrev PE (X:Cx)(e:aE)(t:TE):Prop:=
 ∀(ai:bp) (s:aC) (σ:St) (H:Hp) (Q:VK),Inv X ai σ H s->t σ H Q->wpAny (model X.prog X.w) X.A (eval e X.env) (EP X ai σ Q) X.xe s
abbrev PT (X:Cx)(e:aE)(t:TT):Prop:=
 ∀(ai:bp) (s:aC) (σ:St) (H:Hp) (Q:Bool->Hp->Prop),Inv X ai σ H s->t σ H Q->wpAny (model X.prog X.w) X.A (isTrue e X.env<|eval e X.env) (TP X ai σ Q) X.xe s
abbrev PW (X:Cx)(e:aE)(t:TT):Prop:=
 ∀(d:Sem af) (ai:bp) (s:aC) (σ:St) (H:Hp) (Q:Bool->Hp->Prop),Inv X ai σ H s->t σ H Q->wpAny (model X.prog X.w) X.A (isTrue e X.env d) (TP X ai σ Q) X.xe s
abbrev PA (X:Cx)(es:List aE)(t:TA):Prop:=
 ∀(pos:Pos) (ai:bp) (s:aC) (σ:St) (H:Hp) (Q:List V->Hp->Prop),Inv X ai σ H s->t σ H Q->wpAny (model X.prog X.w) X.A (spliced<|backTo pos<|starEach es X.env) (AP X ai σ Q) X.xe s
abbrev PS (X:Cx)(st:aF)(t:TS):Prop:=
 ∀(ai:bp) (s:aC) (σ:St) (H:Hp) (D:Ends),Inv X ai σ H s->t D σ H->wpAny (model X.prog X.w) X.A (exec st X.env) (SP X ai D) X.xe s
abbrev Cg (X:Cx)(st:List aF)(t:TS):Prop:=
 ∀(ai:bp) (s:aC) (σ:St) (H:Hp) (D:Ends),Inv X ai σ H s->t D σ H->wpAny (model X.prog X.w) X.A (execs st X.env) (SP X ai D) X.xe s
def mR{α:Type}{t:Sem α}{Q Q':α->aC->Prop}{A:aA}{E:af->aC->Prop}(h:wpAny M A t Q E s)(J:∀a s,Q a s->Q' a s):wpAny M A t Q' E s:=c5 h J λ_ _ x=>x
section
variable {X:Cx}
abbrev abn (i:Nat):TE:=λσ H Q=>∃v,σ[i]?=some (some v)/\Q v H
abbrev tC (v:V):TE:=λ_ H Q=>Q v H
def Pb{i:Nat}{x:Str}(U:X.N[i]?=some x)(hv:Vis X.env.scope x)(J:(x == ("__debug__" : Str))=false<|>δ)(hcd:(x == ("__classdict__" : Str))=false<|>δ):PE X (.Name x pos) (abn i):=by
 kt_k;obtain⟨v,e,h⟩:=h;obtain⟨m,hn,g⟩:=I.loc;obtain⟨u,r,l⟩:=g i x v U e hv;have fin:EP X ai σ Q u s:=⟨v,H,I,r,h⟩
 rcases l with⟨f,j⟩|⟨f,c,hc,d⟩
 ·exact wpAny_Name (wpAny_loadName_local I.ok.kind f hn j fin) J
 ·rcases f with f|f
  ·exact wpAny_Name (wpAny_loadName_cell I.ok.kind f hc d fin) J
  ·exact wpAny_Name (wpAny_loadName_free I.ok.kind f hc d fin hcd) J
def XU{i j pos}:PE X (.Constant (.int i) j pos) (tC<|.int i):=λ_ _ _ H _ I h=>wpAny_Constant_int ⟨.int i,H,I.tok _,⟨_,rfl⟩,h⟩
def acg{b j pos}:PE X (.Constant (.bool b) j pos) (tC<|.bl b):=λ_ _ _ H _ I h=>Constant_bool ⟨.bl b,H,I,rfl,h⟩
def X_{j pos}:PE X (.Constant .none j pos) (tC .non):=λ_ _ _ H _ I h=>Constant_none ⟨.non,H,I,rfl,h⟩
def NR{x j pos}:PE X (.Constant (.str x) j pos) (tC<|.str x):=λ_ _ _ H _ I h=>Calls.Constant_str ⟨.str x,H,I.tok _,⟨_,rfl⟩,h⟩
abbrev Gl (X:Cx)(x:Str):Prop:=X.env.kindOf x=some .globalImplicit
def xT{E:af->aC->Prop}{H:Hp}{x:Str}{Q:af->aC->Prop}(I:Inv X ai σ H s)(hg:Gl X x)(J:X.mg x=some u)(h:Q u s)
  (U:(x == ("__debug__" : Str))=false<|>δ):wpAny (model X.prog X.w) X.A (eval (.Name x pos) X.env) Q E s:=
 Calls.Name_function_global I.ok.kind hg (Calls.loadGlobal_global (by rw[I.ok.glob];exact I.mod.glob.keeps I.bk) J h) U
def yv{E:af->aC->Prop}{H:Hp}{x:Str}{Q:af->aC->Prop}(I:Inv X ai σ H s)(hg:Gl X x)(J:X.mg x=none)(hv:bootBuiltins x=some u)(h:Q u s)
  (hn:x ≠ "__name__"<|>δ) (U:(x == ("__debug__" : Str))=false<|>δ):wpAny (model X.prog X.w) X.A (eval (.Name x pos) X.env) Q E s:=by
 obtain⟨d,h1,h2⟩:=I.mod.blt;exact Calls.Name_function_global I.ok.kind hg (Calls.loadGlobal_builtin (by rw[I.ok.glob];exact I.mod.glob.keeps I.bk) J (by rw[I.ok.blt];exact h1.keeps I.bk) ((h2 x hn).trans hv) h) U
def DN{x:Str}{v:V}(hg:Gl X x)(J:X.mg x=some u)(r:RelV v u)(U:(x == ("__debug__" : Str))=false<|>δ):PE X (.Name x pos) (tC v):=
 λ_ _ _ H _ I h=>xT I hg J ⟨v,H,I,r,h⟩ U
def JW{x:Str}{v:V}(hg:Gl X x)(J:X.mg x=none)(hv:bootBuiltins x=some u)(r:RelV v u)(hn:x ≠ "__name__"<|>δ)(U:(x == ("__debug__" : Str))=false<|>δ):PE X (.Name x pos) (tC v):=
 λ_ _ _ H _ I h=>yv I hg J hv ⟨v,H,I,r,h⟩ hn U
variable {a b:aE}{ta tb:TE}{pos:Pos}
variable {tA tB':TT}{rest:List aE}
abbrev abV (t u:TT):TT:=λσ H Q=>t σ H λc H1=>if c=true then u σ H1 Q else Q false H1
abbrev tOr (t u:TT):TT:=λσ H Q=>t σ H λc H1=>if c=true then Q true H1 else u σ H1 Q
abbrev adC (t:TT):TT:=λσ H Q=>t σ H λc H1=>Q (!c) H1
def Vz(ha:PT X a tA):PW X (.BoolOp .And [a] pos) tA:=by
 intro f ai s σ H Q I h;refine isTrue_and (mR (ha ai s σ H Q I h) λc d e=>?_)
 cases c with
 | true=>exact isTrue_and_nil e
 | false=>exact e
def Z4(ha:PT X a tA):PW X (.BoolOp .Or [a] pos) tA:=by
 intro f ai s σ H Q I h;refine isTrue_or (mR (ha ai s σ H Q I h) λc d e=>?_)
 cases c with
 | false=>exact isTrue_or_nil e
 | true=>exact e
def Yn(ha:PT X a tA)(hb:PW X (.BoolOp .And (b::rest) pos) tB'):PW X (.BoolOp .And (a::b::rest) pos) (abV tA tB'):=by
 intro j ai s σ H Q I h;refine isTrue_and (mR (ha ai s σ H _ I h) λc g ⟨H1,f,d⟩=>?_)
 cases c with
 | true=>exact hb j ai g σ H1 Q f d
 | false=>exact⟨H1,f,d⟩
def acm(ha:PT X a tA)(hb:PW X (.BoolOp .Or (b::rest) pos) tB'):PW X (.BoolOp .Or (a::b::rest) pos) (tOr tA tB'):=by
 intro j ai s σ H Q I h;refine isTrue_or (mR (ha ai s σ H _ I h) λc g ⟨H1,f,d⟩=>?_)
 cases c with
 | true=>exact⟨H1,f,d⟩
 | false=>exact hb j ai g σ H1 Q f d
def aaC(ha:PT X a tA):PT X (.UnaryOp .Not a pos) (adC tA):=by
 kt_k;exact isTrue_not<|ha ai s σ H (λc H1=>Q (!c) H1) I h
abbrev acj (ta tb:TE):TE:=λσ H Q=>ta σ H λx H1=>∃c,x=.bl c/\if c=true then tb σ H1 Q else Q (.bl false) H1
abbrev abL (ta:TE):TE:=λσ H Q=>ta σ H λx H1=>∃c,x=.bl c/\Q (.bl<|!c) H1
def YM{op}{t:TE}(h:PE X a t):PE X (.BoolOp op [a] pos) t:=λai s σ H Q I hw=>BoolOp_one<|h ai s σ H Q I hw
def YW(ha:PE X a ta)(hb:PE X (.BoolOp .And (b::rest) pos) tb):PE X (.BoolOp .And (a::b::rest) pos) (acj ta tb):=by
 kt_k;refine BoolOp_and<|mR (ha ai s σ H _ I h) λv g ⟨x,H1,f,r1,d⟩=>?_;obtain⟨c,rfl,d⟩:=d
 cases r1
 refine dZ ?_
 cases c with
 | true=>exact hb ai g σ H1 Q f d
 | false=>exact⟨.bl false,H1,f,rfl,d⟩
def Zq(ha:PE X a ta):PE X (.UnaryOp .Not a pos) (abL ta):=by
 kt_k;refine UnaryOp_<|mR (ha ai s σ H _ I h) λv g ⟨x,H1,f,r1,d⟩=>?_;obtain⟨c,rfl,d⟩:=d
 cases r1
 exact not_of<|dZ ⟨.bl<|!c,H1,f,rfl,d⟩
end
abbrev qX (K:au)(H:Hp)(a:ak)(xs:List V):Prop:=
 Rd H a (.lst xs) \/
  ∃(o:Obj) (d:Array af) (n:Nat),K.lookup a=some o/\o.cls=.type "list" /\ o.dict=none/\o.data=.seq d n/\d.size<=sizeLine/\Vals xs d.toList
abbrev qu (K:au)(H:Hp)(a:ak)(xs:List V):Prop:=
 Rd H a (.tup xs) \/
  ∃(o:Obj) (d:Array af) (n:Nat),K.lookup a=some o/\o.cls=.type "tuple" /\ o.dict=none/\o.data=.seq d n/\d.size<=sizeLine/\Vals xs d.toList
abbrev adN:af->Option V
 | .none=>some .non
 | .bool b=>some (.bl b)
 | .int i _=>some (.int i)
 | .str x _=>some (.str x)
 | .bytes b _=>some (.byt b)
 | .float b _=>some (.flt b)
 | .ref a=>some (.ref a)
 | .type n=>some (.ty n)
 | _=>none
def RelV.abs{x:V}(r:RelV x u):adN u=some x:=by
 cases x with
 | non=>cases r;rfl
 | bl _=>cases r;rfl
 | int _=>obtain⟨t,rfl⟩:=r;rfl
 | str _=>obtain⟨t,rfl⟩:=r;rfl
 | byt _=>obtain⟨t,rfl⟩:=r;rfl
 | flt _=>obtain⟨t,rfl⟩:=r;rfl
 | ref _=>cases r;rfl
 | ty _=>cases r;rfl
def RelV.inj{x:V}(r:RelV x u)(q:RelV y u):x=y:=bB<|r.abs.symm.trans q.abs
theorem Vals.inj:∀{xs ys:List V}{us:ba},Vals xs us->Vals ys us->xs=ys
 | _,_,_,.nil,.nil=>rfl
 | _,_,_,.cons r t,.cons d f=>by rw[r.inj d,Vals.inj t f]
section
variable {X:Cx}{ai:bp}{σ:St}{H:Hp}{s:aC}{a:ak}{xs ys:List V}
def qX.of{K:au}(h:H a=some (.lst xs)):qX K H a xs:=.inl<|.inl h
def qu.of{K:au}(h:H a=some (.tup xs)):qu K H a xs:=.inl<|.inl h
def Inv.list(I:Inv X ai σ H s)(h:qX X.K H a xs):∃its:ba,Vals xs its/\PlainL s.heap a its.toArray/\xs.length<=sizeLine:=by
 rcases h with h|⟨o,its,n,d,hc,f,hs,g,r⟩
 ·obtain⟨z,its,n,r,e⟩:=h.ok I.hok;exact⟨its,r,⟨_,n,e,rfl,rfl,rfl⟩,z⟩
 ·refine⟨its.toList,r,⟨o,n,I.AH a o d,hc,f,by simpa using hs⟩,?_⟩;have e:=r.length;dsimp[cJ]at e
  lia
def Inv.tuple(I:Inv X ai σ H s)(h:qu X.K H a xs):∃its:ba,Vals xs its/\IsTup s.heap a its.toArray/\xs.length<=sizeLine:=by
 rcases h with h|⟨o,its,n,d,hc,_,hs,f,r⟩
 ·obtain⟨z,its,r,p⟩:=h.ok I.hok;exact⟨its,r,p.tup,z⟩
 ·refine⟨its.toList,r,⟨o,I.AH a o d,hc,n,by simpa using hs⟩,?_⟩;have e:=r.length;dsimp[cJ]at e
  lia
def Inv.TU(I:Inv X ai σ H s)(h:qX X.K H a xs)(h':qX X.K H a ys):xs=ys:=by
 obtain⟨g,r,⟨o,n,e,_,_,d⟩,_⟩:=I.list h;obtain⟨f,p,⟨o',q,j,_,_,k⟩,_⟩:=I.list h';rw[e]at j;cases j;rw[d]at k
 injection k with m _
 have:g=f:=by simpa using dG Array.toList m
 subst this;exact r.inj p
def Inv.NG(I:Inv X ai σ H s)(h:qu X.K H a xs)(h':qu X.K H a ys):xs=ys:=by
 obtain⟨g,r,⟨o,e,_,n,d⟩,_⟩:=I.tuple h;obtain⟨f,p,⟨o',j,_,q,k⟩,_⟩:=I.tuple h';rw[e]at j;cases j;rw[d]at k
 injection k with m _
 have:g=f:=by simpa using dG Array.toList m
 subst this;exact r.inj p
end
meta abbrev Cx.B5 (X:Cx)(E:af->aC->Prop):Cx:={ X with xe:=E }
meta abbrev Cx.nox (X:Cx):Cx:=X.B5 λ_ _=>False
def Cx.Ok.B5{X:Cx}(ok:X.Ok)(E:af->aC->Prop):(X.B5 E).Ok:=
 ⟨ok.mod,ok.kind,ok.glob,ok.blt,ok.above,ok.inj,ok.has,ok.cab,ok.hd,ok.frames,ok.stk,ok.exf,ok.bs,ok.bsz,ok.noex,ok.exfs,ok.uF,ok.frf⟩
def Cx.Ok.vD{X:Cx}{E:af->aC->Prop}(ok:(X.B5 E).Ok):X.Ok:=
 ⟨ok.mod,ok.kind,ok.glob,ok.blt,ok.above,ok.inj,ok.has,ok.cab,ok.hd,ok.frames,ok.stk,ok.exf,ok.bs,ok.bsz,ok.noex,ok.exfs,ok.uF,ok.frf⟩
section
variable {X:Cx}{ai:bp}{σ:St}{H:Hp}{s:aC}{E:af->aC->Prop}
def Inv.B5(I:Inv X ai σ H s)(E:af->aC->Prop):Inv (X.B5 E) ai σ H s:=⟨I.ok.B5 E,I.os,I.bare,I.base,I.loc,I.cell,I.free,I.freeC,I.pin,I.hok,I.len⟩
def Inv.vD(I:Inv (X.B5 E) ai σ H s):Inv X ai σ H s:=⟨I.ok.vD,I.os,I.bare,I.base,I.loc,I.cell,I.free,I.freeC,I.pin,I.hok,I.len⟩
def SP.vD{D:Ends}{f:Flow}(h:SP (X.B5 E) ai D f s'):SP X ai D f s':=by
 cases f with
 | next=>obtain⟨d,H',I,q⟩:=h;exact⟨d,H',I.vD,q⟩
 | brk=>obtain⟨d,H',I,q⟩:=h;exact⟨d,H',I.vD,q⟩
 | cont=>obtain⟨d,H',I,q⟩:=h;exact⟨d,H',I.vD,q⟩
 | ret u=>obtain⟨v,d,H',I,r,q⟩:=h;exact⟨v,d,H',I.vD,r,q⟩
def Cg.nox{st:List aF}{t:TS}(h:Cg X.nox st t):Cg X st t:=λai s σ H D I hw=>
 c5 (h ai s σ H D (I.B5 _) hw) (λ_ _ q=>q.vD) λ_ _ z=>False.elim z
end
section
variable {X:Cx}{st:aF}{rest:List aF}{t u:TS}{e:aE}{te:TE}{pos:Pos}
abbrev abh:TS:=λD σ H=>D.nx σ H
abbrev abG (t u:TS):TS:=λD σ H=>t { D with nx:=u D } σ H
def Vj:Cg X [] abh:=λ_ _ σ H _ I h=>gU ⟨σ,H,I,h⟩
def QK(h1:PS X st t)(h2:Cg X rest u):Cg X (st::rest) (abG t u):=by
 kcf_m;refine wpAny_execs_cons (mR (h1 ai s σ H { D with nx:=u D } I h) λf g q=>?_)
 cases f with
 | next=>
  obtain⟨d,H',j,q⟩:=q;exact h2 ai g d H' D j q
 | ret v=>exact q
 | brk=>exact q
 | cont=>exact q
def VX(h1:PS X st t):Cg X [st] t:=by
 kcf_m;refine wpAny_execs_cons (mR (h1 ai s σ H D I h) λf d q=>?_)
 cases f with
 | next=>exact gU q
 | ret v=>exact q
 | brk=>exact q
 | cont=>exact q
def Inv.quiet{H:Hp}(I:Inv X ai σ H s):interactive X.env=false:=by simp[interactive,I.ok.kind]
abbrev abM (te:TE):TS:=λD σ H=>te σ H λ_ H1=>D.nx σ H1
def Vv(J:PE X e te)(hs:swapsWith e none pos.line X.env=pure false<|>ε):PS X (.Expr e pos) (abM te):=by
 kcf_m;exact wpAny_Expr_any (mR (J ai s σ H _ I h) λv g ⟨x,H1,f,r1,d⟩=>⟨σ,H1,f,d⟩) I.quiet hs
abbrev adm (te:TE):TS:=λD σ H=>te σ H D.rt
def Zn(J:PE X e te):PS X (.Return (some e) pos) (adm te):=by
 kcf_m;exact wpAny_Return_some<|mR (J ai s σ H _ I h) λv g ⟨x,H1,f,r1,d⟩=>⟨x,σ,H1,f,r1,d⟩
abbrev acw:TS:=λD _ H=>D.rt .non H
def UQ:PS X (.Return none pos) acw:=λ_ _ σ H _ I h=>wpAny_Return_none ⟨.non,σ,H,I,rfl,h⟩
abbrev ad6 (c:TT)(t u:TS):TS:=λD σ H=>c σ H λb H1=>if b=true then t D σ H1 else u D σ H1
def aaZ{c:aE}{a:List aF}{tc:TT}(hc:PT X c tc)(ha:Cg X a t)(hb:Cg X b u):PS X (.If c a b pos) (ad6 tc t u):=by
 kcf_m;refine wpAny_If (mR (hc ai s σ H _ I h) λd f ⟨H1,j,g⟩=>?_)
 cases d with
 | true=>exact ha ai f σ H1 D j g
 | false=>exact hb ai f σ H1 D j g
end
meta abbrev TG:=V->St->Hp->(St->Hp->Prop)->Prop
meta abbrev Xg:=List V->St->Hp->(St->Hp->Prop)->Prop
abbrev PG (X:Cx)(J:aE)(t:TG):Prop:=
 ∀(ai:bp) (s:aC) (σ:St) (H:Hp) (v:V) (u:af) (Q:St->Hp->Prop),Inv X ai σ H s->RelV v u->t v σ H Q ->
  wpAny (model X.prog X.w) X.A (assign J X.env u) (λ_ s'=>∃d H',Inv X ai d H' s'/\Q d H') X.xe s
abbrev PGs (X:Cx)(ts:List aE)(t:Xg):Prop:=
 ∀(ai:bp) (s:aC) (σ:St) (H:Hp) (vs:List V) (us:ba) (Q:St->Hp->Prop),Inv X ai σ H s->Vals vs us->t vs σ H Q ->
  wpAny (model X.prog X.w) X.A (assignInOrder ((assignEach ts X.env).map (·.2)) us) (λ_ s'=>∃d H',Inv X ai d H' s'/\Q d H') X.xe s
meta abbrev Fg:=V->V->V->Hp->(Hp->Prop)->Prop
abbrev HJ (X:Cx)(t:Fg):Prop:=
 ∀(ai:bp) (s:aC) (σ:St) (H:Hp) (o i v:V) (d iv u:af) (Q:Hp->Prop),Inv X ai σ H s->RelV o d->RelV i iv->RelV v u->t o i v H Q ->
  wpAny (model X.prog X.w) X.A (setItem d iv u) (λ_ s'=>∃H',Inv X ai σ H' s'/\Q H') X.xe s
meta abbrev X7:=V->V->Hp->VK->Prop
abbrev WN (X:Cx)(J:Operator)(t:X7):Prop:=
 ∀(ai:bp) (s:aC) (σ:St) (H:Hp) (x y:V) (v u:af) (Q:VK),Inv X ai σ H s->RelV x v->RelV y u->t x y H Q ->
  wpAny (model X.prog X.w) X.A (inplaceOp J v u) (EP X ai σ Q) X.xe s
section
variable {X:Cx}{pos:Pos}
abbrev RK (i:Nat):TG:=λv σ H Q=>Q (σ.set i<|some v) H
def Ls{i:Nat}{x:Str}(J:X.N.Nodup)(hi:X.N[i]?=some x)(U:Loc X.env.scope x)(hf:X.fn x=true\/X.env.scope.names.lookup x=some .local<|>γ):PG X (.Name x pos) (RK i):=by
 intro ai s σ H v u Q I r h;exact wpAny_assign_Name<|uR I J hi U r (λs' d=>⟨_,H,d,h⟩) hf
abbrev ac6:Xg:=λvs σ H Q=>vs=[]/\Q σ H
abbrev acC (t:TG)(u:Xg):Xg:=λvs σ H Q=>∃v r,vs=v::r/\t v σ H λd H'=>u r d H' Q
def VQ:PGs X [] ac6:=by
 intro ai s σ H vs us Q I r h;obtain⟨e,h⟩:=h;subst e
 cases r
 exact assignInOrder_nil ⟨σ,H,I,h⟩
def RM{e:aE}{t:TG}{u:Xg}(h1:PG X e t)(h2:PGs X es u)
  (hs:(assignEach (e::es) X.env).map (·.2)=assign e X.env::(assignEach es X.env).map (·.2)<|>ε):PGs X (e::es) (acC t u):=by
 intro ai s σ H vs us Q I r h;obtain⟨v,m,e1,h⟩:=h;subst e1
 cases r with
 | cons r j=>
  rw[hs];refine assignInOrder_cons<|mR (h1 ai s σ H _ _ _ I r h) λ_ g ⟨d,H1,k,f⟩=>?_;exact h2 ai g d H1 _ _ Q k j f
abbrev ad9 (K:au)(n:Nat)(t:Xg):TG:=λv σ H Q=>∃a xs,v=.ref a/\qu K H a xs/\xs.length=n/\t xs σ H Q
def Z7{k:Nat}{t:Xg}{n:Nat}(hc:X.calm=true)(h:PGs X es t)
  (hn:(assignEach es X.env).length=n<|>ε) (J:(assignEach es X.env).findIdx? (·.1)=none<|>ε):PG X (.Tuple es k pos) (ad9 X.K n t):=by
 intro ai s σ H v u Q I r hw;obtain⟨a,xs,e1,g,p,hw⟩:=hw;subst e1
 cases r
 obtain⟨j,d,f,B⟩:=I.tuple g;refine assign_Tuple_tuple (I.ok.hd hc) f (by simp[hn,<- p,d.length]) J λh' m=>?_;have q:Inv X ai σ H { s with heap:=h' }:=I.kept (t':=s.toks) λb o e=>m b o (bD<|a_ e) e;exact h ai _ σ H xs _ Q q (by simpa using d) hw
abbrev adM (to J:TE)(t:Fg):TG:=λv σ H Q=>to σ H λo H1=>J σ H1 λi H2=>t o i v H2 λH3=>Q σ H3
def Ih{to J:TE}{t:Fg}(U:PE X o to)(hi:PE X i J)(hs:HJ X t)
  (ha:(∀v,assign (.Subscript o i pos) X.env v=(do
   let ov <- holding [v] (eval o X.env)
   let iv <- holding [v,ov] (eval i X.env)
   standAt pos
   holding [v,ov,iv] (setItem ov iv v)
   release [v,ov,iv] []))<|>η):PG X (.Subscript o i pos) (adM to J t):=by
 intro ai s σ H v u Q I r h;rw[ha];refine aG<|cH<|mR (U ai s σ H _ I h) λov j ⟨x,H1,m,r1,f⟩=>?_;refine aG<|cH<|mR (hi ai j σ H1 _ m f) λiv q ⟨y,H2,k,r2,g⟩=>?_;refine aG<|fC<|aG<|cH<|mR (hs ai q σ H2 x y v ov iv u _ k r1 r2 r g) λ_ B ⟨H3,p,d⟩=>?_;exact wpAny_release ⟨σ,H3,p,d⟩
abbrev UU (te:TE)(g:TG):TS:=λD σ H=>te σ H λx H1=>g x σ H1 D.nx
def Z3{tg e:aE}{te:TE}{g:TG}(J:PE X e te)(hg:PG X tg g)(hs:swapsWithSole [tg] e pos.line X.env=pure false<|>ε)(hw:swappedStores [tg] e X.env=pure none<|>ε)
  (h1:(assignEach [tg] X.env).map (·.2)=[assign tg X.env]<|>ε):PS X (.Assign [tg] e pos) (UU te g):=by
 kcf_m;refine wpAny_Assign_stores (mR (J ai s σ H _ I h) λv d ⟨x,H1,j,r1,f⟩=>?_) hs hw;rw[h1];exact mR (hg ai d σ H1 x v _ j r1 f) λ_ k q=>q
def Z_{i:Nat}{x:Str}{e:aE}{te:TE}(J:X.N.Nodup)(hi:X.N[i]?=some x)(U:Loc X.env.scope x)(Z:PE X e te)(hs:(swapsWith e (some<|.Name x pos') pos.line X.env=pure false)<|>ε)(hf:X.fn x=true\/X.env.scope.names.lookup x=some .local<|>γ) :
  PS X (.Assign [.Name x pos'] e pos) (UU te<|RK i):=by
 kcf_m;refine wpAny_Assign_Name (mR (Z ai s σ H _ I h) λv j ⟨y,H1,f,r1,d⟩=>?_) hs;exact uR f J hi U r1 (λk g=>⟨_,H1,g,d⟩) hf
abbrev adG (i:Nat)(te:TE)(J:X7):TS:=λD σ H=>∃x,σ[i]?=some (some x)/\te σ H λy H1=>J x y H1 λz H2=>D.nx (σ.set i<|some z) H2
def aai{i:Nat}{x:Str}{e:aE}{te:TE}{ti:X7}(hN:X.N.Nodup)(hi:X.N[i]?=some x)(Z:Loc X.env.scope x)(he:PE X e te)(ho:WN X op ti)(hf:X.fn x=true\/X.env.scope.names.lookup x=some .local<|>γ) :
  PS X (.AugAssign (.Name x pos') op e pos) (adG i te ti):=by
 kcf_m;obtain⟨v,e1,h⟩:=h;obtain⟨m,hn,K⟩:=I.loc;have p:Vis X.env.scope x:=by rcases Z with k|k;exact .inl k;exact .inr (.inl k)
 obtain⟨u,r,l⟩:=K i x v hi e1 p;refine wpAny_AugAssign_Name ?_;have q:wpAny (model X.prog X.w) X.A (eval e X.env) (λw g=>wpAny (model X.prog X.w) X.A (inplaceOp op u w) (λr j=>wpAny (model X.prog X.w) X.A (storeName X.env x r) (λ_=>SP X ai D .next) X.xe j) X.xe g) X.xe s:=by
  refine mR (he ai s σ H _ I h) λw J ⟨y,H1,M,r1,C⟩=>?_;refine mR (ho ai J σ H1 v y u w _ M r r1 C) λz U ⟨T,H2,L,r2,G⟩=>?_;exact uR L hN hi Z r2 (λP O=>⟨_,H2,O,G⟩) hf
 rcases l with⟨d,B⟩|⟨d,c,hc,f⟩
 ·exact wpAny_loadName_local I.ok.kind d hn B q
 ·rcases d with d|d
  ·exact wpAny_loadName_cell I.ok.kind d hc f q
  ·rcases Z with k|k
   ·have:X.env.scope.names.lookup x=some .free:=d;rw[k]at this;cases this
   ·have:X.env.scope.names.lookup x=some .free:=d;rw[k]at this;cases this
abbrev ab3 (to ti te:TE)(J:V->V->Hp->VK->Prop)(Z:X7)(U:Fg):TS:=λD σ H=>to σ H λo H1=>ti σ H1 λi H2=>J o i H2 λx H3=>te σ H3 λy f=>Z x y f λz d=>U o i z d λg=>D.nx σ g
abbrev aaI (X:Cx)(t:V->V->Hp->VK->Prop):Prop:=
 ∀(ai:bp) (s:aC) (σ:St) (H:Hp) (o i:V) (d iv:af) (Q:VK),Inv X ai σ H s->RelV o d->RelV i iv->t o i H Q ->
  wpAny (model X.prog X.w) X.A (getItem d iv) (EP X ai σ Q) X.xe s
def Ux{e:aE}{to ti te:TE}{tget:V->V->Hp->VK->Prop}{tip:X7}{tset:Fg}(ho:PE X o to)(hi:PE X i ti)(hg:aaI X tget)(he:PE X e te)(hp:WN X op tip)(hs:HJ X tset)
  (ha:∀ov iv new,augStore i ov iv new=(do holding [new,ov,iv] (setItem ov iv new);release [new,ov,iv] [];pure .next):=by intros;rfl):PS X (.AugAssign (.Subscript o i tpos) op e pos) (ab3 to ti te tget tip tset):=by
 kcf_m;refine wpAny_AugAssign_SubscriptAny (mR (ho ai s σ H _ I h) λov L ⟨d,H1,Y,r1,C⟩=>?_) ha;refine mR (hi ai L σ H1 _ Y C) λiv s2 ⟨f,H2,M,r2,K⟩=>?_;refine mR (hg ai s2 σ H2 d f ov iv _ M r1 r2 K) λold B ⟨G,H3,I3,N,g⟩=>?_;refine mR (he ai B σ H3 _ I3 g) λv k ⟨x4,P,I4,p,Z⟩=>?_;refine mR (hp ai k σ P G x4 old v _ I4 N p Z) λnew U ⟨m,j,q,T,q5⟩=>?_;exact mR (hs ai U σ j d f m ov iv new _ q r1 r2 T q5) λ_ s6 ⟨J,O,W⟩=>⟨σ,J,O,W⟩
abbrev ipI (f:Int->Int->Int):X7:=λx y H Q=>∃i j,x=.int i/\y=.int j/\Q (.int<|f i j) H
def XZ:WN X .Add (ipI λi j=>i+j):=by
 intro ai s σ H x y v u Q I r1 r2 h;obtain⟨i,j,e1,e2,q⟩:=h;subst e1;subst e2;obtain⟨t,rfl⟩:=r1;obtain⟨d,rfl⟩:=r2;exact iadd_int ⟨.int _,H,I.tok _,⟨_,rfl⟩,q⟩
def YJ:WN X .Sub (ipI λi j=>i-j):=by
 intro ai s σ H x y v u Q I r1 r2 h;obtain⟨i,j,e1,e2,q⟩:=h;subst e1;subst e2;obtain⟨t,rfl⟩:=r1;obtain⟨d,rfl⟩:=r2;exact isub_int ⟨.int _,H,I.tok _,⟨_,rfl⟩,q⟩
end
section
variable {X:Cx}{pos:Pos}
abbrev Qd (c:TT)(tb:TS):TS:=λD σ H=>∃W:Nat->St->Hp->Prop,(∃m,W m σ H)/\∀m σ H,W m σ H ->
 c σ H λb H1=>if b=true then ∃N:St->Hp->Prop,(∀d H',N d H'->∃f,f<m/\W f d H')/\tb { D with nx:=N,ct:=N,bk:=D.nx } σ H1 else D.nx σ H1
def Qi{c:aE}{tc:TT}{tb:TS}(hp:PassesOwn (model X.prog X.w) X.A X.env X.xe)(hc:PT X c tc)(hb:Cg X body tb):PS X (.While c body [] pos) (Qd tc tb):=by
 kcf_m;obtain⟨W,⟨P,M⟩,turn⟩:=h;refine wpAny_While<|codeAny_whileLoop (λn s'=>∃j H',Inv X ai j H' s'/\W n j H') ?_ P ⟨σ,H,I,M⟩;rintro n L ⟨g,H1,T,O⟩;refine e9 hp (mR (hc ai L g H1 _ T<|turn n g H1 O) λb U ⟨H2,K,m⟩=>?_)
 cases b with
 | true=>
  obtain⟨N,J,m⟩:=m;rw[aO rfl];refine e9 hp (mR (hb ai U g H2 _ K m) λf V k=>?_)
  cases f with
  | next=>
   obtain⟨d,H3,C,G⟩:=k;obtain⟨B,p,q⟩:=J d H3 G;exact⟨B,p,d,H3,C,q⟩
  | cont=>
   obtain⟨d,H3,C,G⟩:=k;obtain⟨B,p,q⟩:=J d H3 G;exact⟨B,p,d,H3,C,q⟩
  | brk=>exact k
  | ret v=>exact k
 | false=>
  rw[aM br];exact gU ⟨g,H2,K,m⟩
end
structure It where
 go:Nat->Hp->Prop
 yld:Nat->Hp->V->Hp->Prop
 stop:Nat->Hp->Prop
abbrev vc (X:Cx)(ai:bp)(H:Hp)(b:ak):Prop:=
 H b=none/\b≠X.env.locals/\b∉X.fs/\(b∈X.ex\/X.s₀.heap.objs.size<=b)/\(∀x c,X.env.cells.lookup x=some c->c≠b)/\∀p∈X.pn++ai,p.1≠b
def Inv.Il{X:Cx}{H H':Hp}{s:aC}(I:Inv X ai σ H s)(hb:s.heap.objs.size<=b)(hn:H' b=none):vc X ai H' b:=by
 refine⟨hn,ne_of_gt<|bO I.lt hb,I.adt hb,.inr<|bI I.sz hb,λx c e z=>?_,λp hp z=>?_⟩
 ·obtain⟨v,q⟩:=I.cell x c e;exact absurd (bO q.lt<|by rw[z];exact hb) (eG _)
 ·exact absurd (bO (a_ (I.pin p hp).1)<|by rw[z];exact hb)<|eG _
structure Turn (P:aj)(w:ah)(K:au)(tg:aE)(J:It)(fp:bb)(it:ak)(tn:Nat->aq->Prop):Prop where
 mem:it∈fp
 obj:∀i h,tn i h->∀b∈fp,∃o,h.get? b=some o/\∀v,o.data≠.cell v
 keep:∀i h h',tn i h->(∀b∈fp,∀o,h.get? b=some o->h'.get? b=some o)->tn i h'
 item:∀(X:Cx),X.prog=P->X.w=w->X.K=K->X.calm=true->∀(i:Nat) (ai:bp) (s:aC) (σ:St) (H:Hp) (E:af->aC->Prop),Inv X ai σ H s->(∀b∈fp,vc X ai H b)->tn i s.heap->J.go i H ->
  wpAny (model P w) X.A (pyNext<|.ref it) (λr s1=>∃u,r=some u /\
   wpAny (model P w) X.A (letOwnedTupleGo tg (.ref it) u) (λ_ s2=>∃x H',Inv X ai σ H' s2/\RelV x u/\J.yld i H x H'/\tn (i+1) s2.heap/\∀b∈fp,H' b=none) E s1) E s
 done:∀(X:Cx),X.prog=P->X.w=w->X.K=K->X.calm=true->∀(i:Nat) (ai:bp) (s:aC) (σ:St) (H:Hp) (E:af->aC->Prop),Inv X ai σ H s->(∀b∈fp,vc X ai H b)->tn i s.heap->J.stop i H ->
  wpAny (model P w) X.A (pyNext<|.ref it) (λr s1=>r=none/\Inv X ai σ H s1) E s
 self:∀(A:aA) (i:Nat) (s:aC) (Q:af->aC->Prop) (E:af->aC->Prop),tn i s.heap->Q (.ref it) s->wpAny (model P w) A (pyIter<|.ref it) Q E s
meta abbrev TI:=St->Hp->(It->Hp->Prop)->Prop
abbrev PIE (X:Cx)(ai:bp)(σ:St)(tg:aE)(R:It->Hp->Prop)(U:af)(Z:aC):Prop:=
 ∃(it:ak) (fp:bb) (d:Nat->aq->Prop) (J:It) (H':Hp),U=.ref it/\Inv X ai σ H' Z/\Turn X.prog X.w X.K tg J fp it d/\d 0 Z.heap/\(∀b∈fp,vc X ai H' b)/\R J H'
abbrev PI (X:Cx)(tg iter:aE)(J:TI):Prop:=
 ∀(ai:bp) (s:aC) (σ:St) (H:Hp) (R:It->Hp->Prop),Inv X ai σ H s->J σ H R ->
  wpAny (model X.prog X.w) X.A (eval iter X.env) (λv d=>wpAny (model X.prog X.w) X.A (pyIter v) (PIE X ai σ tg R) X.xe d) X.xe s
def Fi{A:aA}{E:af->aC->Prop}{s:aC}{o:Obj}{n:String}{Q:Unit->aC->Prop}(U:s.heap.get? it=some o)(hc:o.cls=.type n)(Z:o.data=.fields vs)
  (hn:["enumerate", "zip", "dict_itemiterator", "dict_reverseitemiterator", "odict_iterator", "itertools.zip_longest", "itertools.pairwise"].contains n=false) (J:Q Unit.unit s):wpAny M A (letOwnedTupleGo tg (.ref it) u) Q E s:=by
 unfold letOwnedTupleGo
 cases tg<;>first
  | exact aL J
  | (cases u<;>first
    | exact aL J
    | (refine aG (wpAny_load U ?_)
       rw[hc,Z];show wpAny M A (if (["enumerate", "zip", "dict_itemiterator", "dict_reverseitemiterator", "odict_iterator", "itertools.zip_longest", "itertools.pairwise"].contains n && vs[0]? == some (rawInt _))=true then _ else _) Q E s;rw[aM<|by intro h;rw[hn,Bool.false_and]at h;cases h];exact aL J))
abbrev Itl (K:au)(a:ak):It:=
 ⟨λi H=>∃xs x,qX K H a xs/\xs[i]?=some x,λi H x H'=>H'=H/\∀xs,qX K H a xs->xs[i]?=some x,λi H=>∃xs,qX K H a xs/\xs.length<=i⟩
abbrev Itt (K:au)(a:ak):It:=
 ⟨λi H=>∃xs x,qu K H a xs/\xs[i]?=some x,λi H x H'=>H'=H/\∀xs,qu K H a xs->xs[i]?=some x,λi H=>∃xs,qu K H a xs/\xs.length<=i⟩
abbrev Itr (lo:Int)(n:Nat):It:=⟨λi _=>i<n,λi H x H'=>H'=H/\x=.int (lo+i),λi _=>n<=i⟩
def M3{P:aj}{w:ah}{K:au}(a it:ak):Turn P w K tg (Itl K a) [it] it (λi h=>h.IsListIter it a i) where
 mem:=by simp
 obj:=λi h st b hb=>by
  have e:b=it:=by simpa using hb
  subst e;obtain⟨o,e,c,d⟩:=st;exact⟨o,e,λv z=>by rw[d]at z;cases z⟩
 keep:=λi h h' st k=>st.at λo e=>k it (by simp) o e
 item:=by
  x_go;subst hP hw hK;obtain⟨xs,x,g,m⟩:=hg;obtain⟨j,q,p,B⟩:=I.list g;obtain⟨u,M,G⟩:=q.get m;fin2;refine wpAny_pyNext_list_item st p.isList (x:=u) (by simpa using M) λh' f C=>?_;have L:Inv X ai σ H { s with heap:=h' }:=I.turned (t':=s.toks) (λb o hb e=>(C.2 b hb).trans e) f0 f1 f3 f4 f5;obtain⟨o,e,c,d⟩:=id f;exact⟨u,rfl,Fi (s:={ s with heap:=h' }) e c d ⋯ ⟨x,H,L,G,⟨rfl,λys hy=>by rw[I.TU hy g];exact m⟩,f,λb hb=>(hf b hb).1⟩⟩
 done:=by
  x_go;subst hP hw hK;obtain⟨xs,g,m⟩:=hg;obtain⟨j,q,p,B⟩:=I.list g;fin2;have N:=q.length;exact wpAny_pyNext_list_end (I.ok.hd hc) st p.isList (by simp;omega) λh' J=>⟨rfl,I.turned (t':=s.toks) (λb o hb e=>J b o hb e) f0 f1 f3 f4 f5⟩
 self:=λ_ _ _ _ _ st h=>wpAny_pyIter_listiter st h
def HP{P:aj}{w:ah}{K:au}(a it:ak):Turn P w K tg (Itt K a) [it] it (λi h=>h.IsTupleIter it a i) where
 mem:=by simp
 obj:=λi h st b hb=>by
  have e:b=it:=by simpa using hb
  subst e;obtain⟨o,e,c,d⟩:=st;exact⟨o,e,λv z=>by rw[d]at z;cases z⟩
 keep:=λi h h' st k=>st.at λo e=>k it (by simp) o e
 item:=by
  x_go;subst hP hw hK;obtain⟨xs,x,j,m⟩:=hg;obtain⟨f,q,p,B⟩:=I.tuple j;obtain⟨u,M,G⟩:=q.get m;fin2;refine wpAny_pyNext_tuple_item st (show s.heap.IsTuple a f.toArray from p) (x:=u) (by simpa using M) λh' g C=>?_;have L:Inv X ai σ H { s with heap:=h' }:=I.turned (t':=s.toks) (λb o hb e=>(C.2 b hb).trans e) f0 f1 f3 f4 f5;obtain⟨o,e,c,d⟩:=id g;exact⟨u,rfl,Fi (s:={ s with heap:=h' }) e c d ⋯ ⟨x,H,L,G,⟨rfl,λys hy=>by rw[I.NG hy j];exact m⟩,g,λb hb=>(hf b hb).1⟩⟩
 done:=by
  x_go;subst hP hw hK;obtain⟨xs,j,m⟩:=hg;obtain⟨f,q,p,B⟩:=I.tuple j;fin2;have N:=q.length;exact wpAny_pyNext_tuple_end (I.ok.hd hc) st (show s.heap.IsTuple a f.toArray from p) (by simp;omega) λh' J=>⟨rfl,I.turned (t':=s.toks) (λb o hb e=>J b o hb e) f0 f1 f3 f4 f5⟩
 self:=λ_ _ _ _ _ st h=>wpAny_pyIter_tupleiter st h
def xr{P:aj}{w:ah}{K:au}(it:ak)(lo:Int)(n:Nat):Turn P w K tg (Itr lo n) [it] it (λi h=>IsRangeIter h it (lo+(i:Nat) * 1) ((n:Int)-(i:Nat)) 1) where
 mem:=by simp
 obj:=λi h st b hb=>by
  have e:b=it:=by simpa using hb
  subst e;exact⟨_,st,λv z=>by
   have g:Data.fields _=Data.cell v:=z
   cases g⟩
 keep:=λi h h' st k=>k it (by simp) _ st
 item:=by
  x_go;subst hP hw hK;fin2;have W:=Walks.range (prog:=X.prog) (w:=X.w) (I.ok.hd hc) it lo 1 n;refine W.item i s _ _ hg st λv h' f hv d j=>?_;obtain⟨t,rfl⟩:=hv;have p:Inv X ai σ H { s with heap:=h',toks:=f }:=I.turned (λb o hb e=>j b o (by simpa using hb) e) f0 f1 f3 f4 f5;refine⟨_,rfl,Fi (s:={ s with heap:=h',toks:=f }) (n := "range_iterator") d rfl rfl ⋯ ⟨.int<|lo+i,H,p,⟨t,?_⟩,⟨rfl,rfl⟩,d,λb hb=>(hf b hb).1⟩⟩;rw[mul_one]
 done:=by
  x_go;subst hP hw hK;fin2;exact wpAny_pyNext_range_end (I.ok.hd hc) st (by have:n<=i:=hg;lia) λh' m=>⟨rfl,I.turned (t':=s.toks) (λb o hb e=>m b o hb e) f0 f1 f3 f4 f5⟩
 self:=λ_ _ _ _ _ st h=>wpAny_pyIter_rangeiter st h
section
variable {X:Cx}{tg:aE}
abbrev abD (K:au)(tl:TE):TI:=λσ H R=>tl σ H λx H1=>∃a,x=.ref a/\(∃xs,qX K H1 a xs)/\R (Itl K a) H1
abbrev ad3 (K:au)(tl:TE):TI:=λσ H R=>tl σ H λx H1=>∃a,x=.ref a/\(∃xs,qu K H1 a xs)/\R (Itt K a) H1
def Lm{l:aE}{tl:TE}(J:PE X l tl):PI X tg l (abD X.K tl):=by
 intro ai s σ H R I h;refine mR (J ai s σ H _ I h) λv d ⟨x,H1,I1,r1,g⟩=>?_;obtain⟨a,e,⟨xs,f⟩,q⟩:=g;subst e
 cases r1
 obtain⟨j,m,p,k⟩:=I1.list f;refine jw p.isList ?_;refine⟨d.heap.objs.size,[d.heap.objs.size],_,_,H1,rfl,I1.kept (t':=d.toks) λb o e=>aN _ e,M3 a _,⟨_,bu _ rfl,rfl,rfl⟩,λb hb=>?_,q⟩;have e:b=d.heap.objs.size:=by simpa using hb
 subst e;exact I1.Il (aP _)<|I1.hok.fresh<|aP _
def Oc{l:aE}{tl:TE}(J:PE X l tl):PI X tg l (ad3 X.K tl):=by
 intro ai s σ H R I h;refine mR (J ai s σ H _ I h) λv d ⟨x,H1,I1,r1,j⟩=>?_;obtain⟨a,e,⟨xs,g⟩,q⟩:=j;subst e
 cases r1
 obtain⟨f,m,p,k⟩:=I1.tuple g;refine wpAny_pyIter_tuple (show d.heap.IsTuple a f.toArray from p) ?_;refine⟨d.heap.objs.size,[d.heap.objs.size],_,_,H1,rfl,I1.kept (t':=d.toks) λb o e=>aN _ e,HP a _,⟨_,bu _ rfl,rfl,rfl⟩,λb hb=>?_,q⟩;have e:b=d.heap.objs.size:=by simpa using hb
 subst e;exact I1.Il (aP _)<|I1.hok.fresh<|aP _
def Ga{H:Hp}{s:aC}{R:It->Hp->Prop}{E:af->aC->Prop}{lo hi:Int}{t v:Tok}{tk:Nat}(I:Inv X ai σ H s)(h1:-(2 ^ 62)<=lo)(h2:lo<2 ^ 62)(h3:-(2 ^ 62)<=hi)(J:hi<2 ^ 62)
  (q:R (Itr lo (hi-lo).toNat) H):wpAny (model X.prog X.w) X.A (pyIter<|.ref s.heap.objs.size) (PIE X ai σ tg R) E { s with heap:=s.heap.push { cls:=.type "range",data:=.fields #[.int lo t,.int hi u,.int 1 v]},toks:=tk }:=by
 refine wpAny_pyIter_range (IsRange.new ..) (small_one h1 h2 h3 J) ?_;have I1:Inv X ai σ H { s with heap:=s.heap.push { cls:=.type "range",data:=.fields #[.int lo t,.int hi u,.int 1 v]},toks:=tk }:=I.kept λb o e=>aN _ e;refine⟨(s.heap.push { cls:=.type "range",data:=.fields #[.int lo t,.int hi u,.int 1 v]}).objs.size,[(s.heap.push { cls:=.type "range",data:=.fields #[.int lo t,.int hi u,.int 1 v]}).objs.size],_,_,H,rfl,
  I1.kept (t':=tk) λb o e=>aN _ e,xr _ lo (hi-lo).toNat,?_,λb hb=>?_,q⟩
 ·have e1:lo+((0:Nat):Int) * 1=lo:=by simp
  have e2:(((hi-lo).toNat:Nat):Int)-((0:Nat):Int)=Builtin.Range.rangeSize lo hi 1:=by rw[rangeSize_one];split<;>lia
  skip
  rw[e1,e2];exact bu _ rfl
 ·have e:b=(s.heap.push { cls:=.type "range",data:=.fields #[.int lo t,.int hi u,.int 1 v]}).objs.size:=by simpa using hb
  subst e;exact I1.Il (aP _)<|I1.hok.fresh<|aP _
abbrev rH (ta:TA):TI:=λσ H R=>ta σ H λvs H1=>∃j:Int,vs=[.int j]/\-(2 ^ 62)<=j/\j<2 ^ 62/\R (Itr 0 j.toNat) H1
abbrev uM (ta:TA):TI:=λσ H R=>ta σ H λvs H1=>∃i j:Int,vs=[.int i,.int j]/\(-(2 ^ 62)<=i/\i<2 ^ 62/\-(2 ^ 62)<=j/\j<2 ^ 62)/\R (Itr i (j-i).toNat) H1
def Nf{a:aE}{ta:TA}{p:Pos}(hg:Gl X "range")(J:X.mg "range" = none)(ha:PA X [a] ta)(hs:starEach [a] X.env=[(false,eval a X.env)]<|>ε):PI X tg (.Call (.Name "range" p) [a] [] pos) (rH ta):=by
 intro ai s σ H R I h;refine Call_<|yv I hg J boot_range<|eF (mR (ha pos ai s σ H _ I h) λus m ⟨vs,H1,g,r1,d⟩=>?_) hs rfl;obtain⟨j,e,d,k,q⟩:=d;subst e
 cases r1 with
 | cons r f=>
  cases f
  obtain⟨t,rfl⟩:=r;exact call_range_1<|Ga g () () d k<|by simpa using q
def Nm{a b:aE}{ta:TA}{p:Pos}(hg:Gl X "range")(Z:X.mg "range" = none)(ha:PA X [a,b] ta)(hs:starEach [a,b] X.env=[(false,eval a X.env),(false,eval b X.env)]<|>ε)(U:starEach [b] X.env=[(false,eval b X.env)]<|>ε) :
  PI X tg (.Call (.Name "range" p) [a,b] [] pos) (uM ta):=by
 intro ai s σ H R I h;refine Call_ (yv I hg Z boot_range<|eF (mR (ha pos ai s σ H _ I h) λus G ⟨vs,H1,m,r1,d⟩=>?_) (by rw[hs,U])<|by rw[U];rfl);obtain⟨i,j,e,⟨d,k,g,B⟩,q⟩:=d;subst e
 cases r1 with
 | cons r f=>
  cases f with
  | cons C f=>
   cases f
   obtain⟨t,rfl⟩:=r;obtain⟨J,rfl⟩:=C;exact call_range_2<|Ga m d k g B q
abbrev adD (U:TI)(g:TG)(tb:TS):TS:=λD σ H=>U σ H λJ H1=>∃W:Nat->Nat->St->Hp->Prop,(∃m,W 0 m σ H1)/\∀i m σ H,W i m σ H ->
 (J.stop i H/\D.nx σ H)\/(J.go i H/\∃N:St->Hp->Prop,(∀d H',N d H'->∃j,j<m/\W (i+1) j d H')/\∀x H',J.yld i H x H'->g x σ H' λf H2=>tb { D with nx:=N,ct:=N,bk:=D.nx } f H2)
abbrev xD (fp:bb)(h:aq):bp:=fp.filterMap λb=>(h.get? b).map λo=>(b,o)
def nu{fp:bb}{h:aq}{b:ak}(hb:b∈fp)(e:h.get? b=some o):(b,o)∈xD fp h:=gY.mpr ⟨b,hb,by rw[e];rfl⟩
def Ng{fp:bb}{h:aq}{p:ak×Obj}(hp:p∈xD fp h):p.1∈fp/\h.get? p.1=some p.2:=by
 obtain⟨b,hb,e⟩:=gY.mp hp
 cases q:h.get? b with
 | none=>rw[q]at e;cases e
 | some o=>
  rw[q]at e;have d:(b,o)=p:=bB e;subst d;exact⟨hb,q⟩
def Inv.pinned{H:Hp}{s:aC}{fp:bb}(I:Inv X ai σ H s)(hf:∀b∈fp,vc X ai H b)(J:∀b∈fp,∃o,s.heap.get? b=some o/\∀v,o.data≠.cell v):Inv X (ai++xD fp s.heap) σ H s:=
 I.Jk λp hp=>(bq.mp hp).elim (λz=>I.pin p<|bA _ z) λz=>by
  obtain⟨hb,e⟩:=Ng z;obtain⟨f0,f1,f2,_⟩:=hf p.1 hb;obtain⟨o,f,d⟩:=J p.1 hb;rw[e]at f;cases f;exact⟨e,f0,f1,f2,d⟩
def Inv.rG{pl:bp}{H:Hp}(I:Inv X (ai++pl) σ H s):Inv X ai σ H s:=I.Jk λp hp=>I.pin p<|bA _<|bM _ hp
def ZQ{iter:aE}{wi:TI}{g:TG}{tb:TS}(hp:PassesOwn (model X.prog X.w) X.A X.env X.xe)(hc:X.calm=true)(hi:PI X tg iter wi)(hg:PG X tg g)(hb:Cg X body tb)
  (hs:(∀x,foldedSetIterable iter X.env x=pure x)<|>η):PS X (.For tg iter body [] pos) (adD wi g tb):=by
 kcf_m;refine wpAny_For (mR (hi ai s σ H _ I h) λv s1 h1=>mR h1 λitv s2 h2=>?_) hs;obtain⟨it,fp,tn,J,H2,e,I2,T,V,f2,W,⟨m0,w0⟩,turn⟩:=h2;subst e;have C:∀{H':Hp},(∀b∈fp,H' b=none)->∀b∈fp,vc X ai H' b:=λhn b hb=>⟨hn b hb,(f2 b hb).2⟩;refine codeAny_forLoop_any (λn s'=>∃i B H',Inv X ai B H' s'/\tn i s'.heap/\(∀b∈fp,H' b=none)/\W i n B H') ?_ m0 ⟨0,σ,H2,I2,V,λb hb=>(f2 b hb).1,w0⟩;rintro n s3 ⟨i,q,H3,I3,O,M,w3⟩
 rcases turn i n q H3 w3 with⟨P,qn⟩|⟨go,N,hN,step⟩
 ·refine e9 hp<|mR (T.done X rfl rfl rfl hc i ai s3 q H3 X.xe I3 (C M) O P) λr s4 ⟨U,I4⟩=>?_;subst U;exact gU ⟨q,H3,I4,qn⟩
 ·refine e9 hp<|mR (T.item X rfl rfl rfl hc i ai s3 q H3 X.xe I3 (C M) O go) λr s4 ⟨u,U,h4⟩=>?_;subst U;refine e9 hp<|mR h4 λ_ s5 ⟨x,H5,I5,r5,y5,K,fr5⟩=>?_;have Y:=I5.pinned (C fr5)<|T.obj _ _ K;refine e9 hp<|mR (hg _ s5 q H5 x u _ Y r5<|step x H5 y5) λ_ s6 ⟨σ6,H6,I6,q6⟩=>?_;refine e9 hp<|mR (hb _ s6 σ6 H6 _ I6 q6) λf Z G=>?_;have again:∀{j:St} {k:Hp},Inv X (ai++xD fp s5.heap) j k Z->N j k->∃m,m<n/\∃i B H',Inv X ai B H' Z/\tn i Z.heap/\(∀b∈fp,H' b=none)/\W i m B H':=λ{j k} p L=>by
   obtain⟨m',hm,w7⟩:=hN j k L;refine⟨m',hm,i+1,j,k,p.rG,T.keep _ _ _ K λb hb o e=>(p.pin (b,o)<|bA _<|bA _<|nu hb e).1,λb hb=>?_,w7⟩;obtain⟨o,e,d⟩:=T.obj _ _ K b hb;exact(p.pin (b,o)<|bA _<|bA _<|nu hb e).2.1
  cases f with
  | next=>obtain⟨j,k,p,L⟩:=G;exact again p L
  | cont=>obtain⟨j,k,p,L⟩:=G;exact again p L
  | brk=>obtain⟨j,k,p,G⟩:=G;exact⟨j,k,p.rG,G⟩
  | ret v=>obtain⟨x7,j,k,p,r7,G⟩:=G;exact⟨x7,j,k,p.rG,r7,G⟩
end
def xY{c:TT}{tb:TS}{D:Ends}{H:Hp}(J:St->Hp->Prop)(U:St->Hp->Nat)(h0:J σ H)
  (hs:∀σ H,J σ H->c σ H λb H1=>if b=true then tb { D with nx:=λσ' H'=>J σ' H'/\U σ' H'<U σ H,ct:=λσ' H'=>J σ' H'/\U σ' H'<U σ H,bk:=D.nx } σ H1 else D.nx σ H1)
  (mono:∀σ H Q Q',(∀b H1,Q b H1->Q' b H1)->c σ H Q->c σ H Q'):Qd c tb D σ H:=by
 refine⟨λm σ H=>m=U σ H/\J σ H,⟨_,rfl,h0⟩,?_⟩;rintro m σ H ⟨rfl,p⟩;refine mono σ H _ _ (λb H1 q=>?_) (hs σ H p)
 cases b with
 | true=>exact⟨_,λσ' H' ⟨d,l⟩=>⟨_,l,rfl,d⟩,q⟩
 | false=>exact q
meta abbrev R2:=V->V->Hp->VK->Prop
abbrev qx (X:Cx)(f:af->af->Sem af)(r:R2):Prop:=
 ∀(ai:bp) (s:aC) (σ:St) (H:Hp) (x y:V) (v u:af) (Q:VK),Inv X ai σ H s->RelV x v->RelV y u->r x y H Q ->
  wpAny (model X.prog X.w) X.A (f v u) (EP X ai σ Q) X.xe s
abbrev UnR (X:Cx)(f:af->Sem af)(r:V->Hp->VK->Prop):Prop:=
 ∀(ai:bp) (s:aC) (σ:St) (H:Hp) (x:V) (v:af) (Q:VK),Inv X ai σ H s->RelV x v->r x H Q ->
  wpAny (model X.prog X.w) X.A (f v) (EP X ai σ Q) X.xe s
abbrev kR (X:Cx)(f:af)(r:List V->Hp->VK->Prop):Prop:=
 ∀(ai:bp) (s:aC) (σ:St) (H:Hp) (xs:List V) (us:ba) (Q:VK),Inv X ai σ H s->Vals xs us->r xs H Q ->
  wpAny (model X.prog X.w) X.A (call f us) (EP X ai σ Q) X.xe s
abbrev adp (X:Cx)(r:V->Hp->(Bool->Hp->Prop)->Prop):Prop:=
 ∀(ai:bp) (s:aC) (σ:St) (H:Hp) (x:V) (v:af) (Q:Bool->Hp->Prop),Inv X ai σ H s->RelV x v->r x H Q ->
  wpAny (model X.prog X.w) X.A (truthy v) (TP X ai σ Q) X.xe s
abbrev tOp (r:R2)(ta tb:TE):TE:=λσ H Q=>ta σ H λx H1=>tb σ H1 λy H2=>r x y H2 Q
abbrev tUn (r:V->Hp->VK->Prop)(ta:TE):TE:=λσ H Q=>ta σ H λx H1=>r x H1 Q
abbrev rI (C:Int->Int->Prop)(g:Int->Int->V):R2:=λx y H Q=>∃i j,x=.int i/\y=.int j/\C i j/\Q (g i j) H
abbrev rI0 (g:Int->Int->V):R2:=λx y H Q=>∃i j,x=.int i/\y=.int j/\Q (g i j) H
abbrev rU (g:Int->V):V->Hp->VK->Prop:=λx H Q=>∃i,x=.int i/\Q (g i) H
section
variable {X:Cx}{a b:aE}{ta tb:TE}{pos:Pos}
def ZD(ha:PE X a ta)(hb:PE X b tb){H:Hp}{R:V->V->Hp->Prop}(I:Inv X ai σ H s)
  (h:ta σ H λx H1=>tb σ H1 λy H2=>R x y H2) {Q:af->aC->Prop} {f:af->af->Sem af}
  (hf:∀v u s2 x y H2,Inv X ai σ H2 s2->RelV x v->RelV y u->R x y H2->wpAny (model X.prog X.w) X.A (f v u) Q X.xe s2) :
  wpAny (model X.prog X.w) X.A (eval a X.env) (λv s₁=>wpAny (model X.prog X.w) X.A (eval b X.env) (λu s₂=>wpAny (model X.prog X.w) X.A (f v u) Q X.xe s₂) X.xe s₁) X.xe s:=by
 refine mR (ha ai s σ H _ I h) λv d ⟨x,H1,k,r1,j⟩=>?_;refine mR (hb ai d σ H1 _ k j) λu s2 ⟨y,H2,m,r2,g⟩=>?_;exact hf v u s2 x y H2 m r1 r2 g
def ab1{r:R2}(J:qx X (binaryOp op) r)(ha:PE X a ta)(hb:PE X b tb):PE X (.BinOp a op b pos) (tOp r ta tb):=by
 kt_k;exact wpAny_BinOp<|ZD ha hb I h λv u f x y H2 d rx ry q=>J ai f σ H2 x y v u Q d rx ry q
def abZ{r:V->Hp->VK->Prop}(J:UnR X (unaryOp op) r)(ha:PE X a ta):PE X (.UnaryOp op a pos) (tUn r ta):=by
 kt_k;exact UnaryOp_<|mR (ha ai s σ H _ I h) λv d ⟨x,H1,g,r1,f⟩=>J ai d σ H1 x v Q g r1 f
def opI{f:af->af->Sem af}{C:Int->Int->Prop}{g:Int->Int->Int}
  (J:∀(i j:Int) (t u:Tok) (s:aC) (Q:af->aC->Prop) (E:af->aC->Prop),C i j->Q (.int (g i j) s.toks) { s with toks:=s.toks+1 }->wpAny (model X.prog X.w) X.A (f (.int i t)<|.int j u) Q E s) :
  qx X f (rI C λi j=>.int<|g i j):=by
 gn_on;obtain⟨i,j,rfl,rfl,hc,q⟩:=h;ksr_p;obtain⟨d,rfl⟩:=ry;exact J i j t d s _ _ hc ⟨.int<|g i j,H,I.tok _,⟨_,rfl⟩,q⟩
def ab4{f:af->af->Sem af}{g:Int->Int->Int}
  (J:∀(i j:Int) (t u:Tok) (s:aC) (Q:af->aC->Prop) (E:af->aC->Prop),Q (.int (g i j) s.toks) { s with toks:=s.toks+1 }->wpAny (model X.prog X.w) X.A (f (.int i t)<|.int j u) Q E s) :
  qx X f (rI0 λi j=>.int<|g i j):=by
 gn_on;obtain⟨i,j,rfl,rfl,q⟩:=h;ksr_p;obtain⟨d,rfl⟩:=ry;exact J i j t d s _ _ ⟨.int<|g i j,H,I.tok _,⟨_,rfl⟩,q⟩
def Z0{f:af->af->Sem af}{g:Int->Int->Bool}
  (J:∀(i j:Int) (t u:Tok) (s:aC) (Q:af->aC->Prop) (E:af->aC->Prop),Q (.bool<|g i j) s->wpAny (model X.prog X.w) X.A (f (.int i t)<|.int j u) Q E s) :
  qx X f (rI0 λi j=>.bl<|g i j):=by
 gn_on;obtain⟨i,j,rfl,rfl,q⟩:=h;ksr_p;obtain⟨d,rfl⟩:=ry;exact J i j t d s _ _ ⟨.bl<|g i j,H,I,rfl,q⟩
abbrev adE (i j:Int):Prop:=0<=j/\j<=1000000/\i.natAbs<2 ^ 64
abbrev Vw (i j:Int):Prop:=(-(2 ^ 64)<i/\i<2 ^ 64)\/(-(2 ^ 64)<j/\j<2 ^ 64)
def Vw.ok{i j:Int}(h:Vw i j):IntMulOk i j:=by
 rcases h with⟨h1,h2⟩|⟨h1,h2⟩
 ·exact .of_left (intBits_le_64 h1 h2)
 ·exact .of_right<|intBits_le_64 h1 h2
def Za:qx X (binaryOp .Add) (rI0 λi j=>.int<|i+j):=ab4 λ_ _ _ _ _ _ _ q=>add_int q
def Y3:qx X (binaryOp .Sub) (rI0 λi j=>.int<|i-j):=ab4 λ_ _ _ _ _ _ _ q=>sub_int q
def Yv:qx X (binaryOp .Mult) (rI Vw λi j=>.int<|i * j):=opI λ_ _ _ _ _ _ _ hc q=>mul_int q hc.ok
def aaa:qx X (binaryOp .Mod) (rI (λ_ j=>0<j) λi j=>.int<|i % j):=opI λi j _ _ _ _ _ hc q=>by
 have h1:(0:Int)<j:=hc;exact mod_int' ()<|by rw[Int.fmod_eq_emod_of_nonneg i ()];exact q
def Yk:qx X (binaryOp .Pow) (rI adE λi j=>.int<|i ^ j.toNat):=opI λ_ _ _ _ _ _ _ hc q=>pow_int_small hc.1 hc.2.1 hc.2.2 q
def unI{f:af->Sem af}{g:Int->Int}
  (J:∀(i:Int) (t:Tok) (s:aC) (Q:af->aC->Prop) (E:af->aC->Prop),Q (.int (g i) s.toks) { s with toks:=s.toks+1 }->wpAny (model X.prog X.w) X.A (f<|.int i t) Q E s) :
  UnR X f (rU λi=>.int<|g i):=by
 intro ai s σ H x v Q I rx h;obtain⟨i,rfl,q⟩:=h;ksr_p;exact J i t s _ _ ⟨.int<|g i,H,I.tok _,⟨_,rfl⟩,q⟩
def aaz:UnR X (unaryOp .USub) (rU λi=>.int<|-i):=unI λ_ _ _ _ _ q=>neg_int q
end
abbrev Zz:V->V->Bool
 | .non,.non=>true | .non,.int _=>true | .int _,.non=>true | .non,.bl _=>true | .bl _,.non=>true | .non,.str _=>true | .str _,.non=>true
 | .int _,.int _=>true | .bl _,.bl _=>true | .str _,.str _=>true | .byt _,.byt _=>true
 | .int _,.str _=>true | .str _,.int _=>true | .bl _,.str _=>true | .str _,.bl _=>true
 | _,_=>false
section
variable {X:Cx}{a b c:aE}{ta tb tc:TE}{pos:Pos}
def Zh{H:Hp}{Q:VK}{k:Bool}(I:Inv X ai σ H s)(q:Q (.bl k) H)(e:k=k'):EP X ai σ Q (.bool k') s:=by
 subst e;exact⟨.bl k,H,I,rfl,q⟩
def abo:qx X (compareOp .Lt) (rI0 λi j=>.bl<|decide<|i<j):=Z0 λ_ _ _ _ _ _ _ q=>lt_int q
def abd:qx X (compareOp .LtE) (rI0 λi j=>.bl<|decide<|i<=j):=Z0 λ_ _ _ _ _ _ _ q=>le_int q
def acr:qx X (compareOp .Gt) (rI0 λi j=>.bl<|decide<|j<i):=Z0 λ_ _ _ _ _ _ _ q=>gt_int q
def Yx:qx X (compareOp .Is) (λx y H Q=>y=.non/\Q (.bl<|decide<|x=.non) H):=by
 gn_on;obtain⟨rfl,q⟩:=h
 cases ry
 refine is_none_gen (Zh I q ?_)
 cases x<;>first
  | (cases rx;rfl)
  | (obtain⟨t,rfl⟩:=rx;rfl)
def O_(b:aE)(h:op≠.In<|>δ)(h2:op≠.NotIn<|>δ):behindInMarks op b=false:=by
 have e1:(op == CmpOp.In)=false:=by cases op<;>first|rfl|exact absurd rfl h
 have e2:(op == CmpOp.NotIn)=false:=by cases op<;>first|rfl|exact absurd rfl h2
 cases b<;>simp[behindInMarks,e1,e2]
def UP{J:CmpOp}{r:R2}(U:qx X (compareOp J) r)(ha:PE X a ta)(hb:PE X b tb)(Z:behindInMarks J b=false):PE X (.Compare a [J] [b] pos) (tOp r ta tb):=by
 kt_k;exact wpAny_Compare1 (ZD ha hb I h λv u f x y H2 d rx ry q=>U ai f σ H2 x y v u Q d rx ry q) Z
abbrev ack (t:TE):TT:=λσ H Q=>t σ H λx H'=>∃k,x=.bl k/\Q k H'
def Wr{J:CmpOp}{r:R2}(U:qx X (compareOp J) r)(ha:PE X a ta)(hb:PE X b tb)(Z:behindInMarks J b=false):PT X (.Compare a [J] [b] pos) (ack<|tOp r ta tb):=by
 kt_k;refine wpAny_isTrue_Compare1 (mR (ha ai s σ H _ I h) λv j ⟨x,H1,q,r1,f⟩=>mR (hb ai j σ H1 _ q f) λu C ⟨y,H2,m,r2,g⟩=>
  mR (U ai C σ H2 x y v u _ m r1 r2 g) λc G ⟨z,H3,B,p,k,e,d⟩=>?_) Z
 subst e
 cases p
 exact dZ ⟨H3,B,d⟩
abbrev NQ (r J:R2)(ta tb tc:TE):TE:=λσ H Q=>ta σ H λx H1=>tb σ H1 λy H2=>r x y H2 λz H3=>∃k,z=.bl k /\
 (if k=true then tc σ H3 λd f=>J y d f Q else Q (.bl false) H3)
def Sh{r Z:R2}(ho:qx X (compareOp op) r)(U:qx X (compareOp op') Z)(ha:PE X a ta)(hb:PE X b tb)(hc:PE X c tc)
  (hm:lastMarks [op,op'] [b,c]=false<|>θ):PE X (.Compare a [op,op'] [b,c] pos) (NQ r Z ta tb tc):=by
 kt_k;refine Compare_chain (mR (ha ai s σ H _ I h) λv G ⟨x,H1,N,r1,B⟩=>chain_link (mR (hb ai G σ H1 _ N B) λu P ⟨y,H2,J,r2,C⟩=>
  mR (ho ai P σ H2 x y v u _ J r1 r2 C) λd p ⟨z,H3,g,K,k,e,f⟩=>?_)) hm
 subst e
 cases K
 refine dZ ?_
 cases k with
 | false=>exact ite_ff ⟨.bl false,H3,g,rfl,f⟩
 | true=>exact ite_tt<|chain_last<|mR (hc ai p σ H3 _ g f) λM j ⟨q,L,T,m,O⟩=>U ai j σ L y q u M Q T r2 m O
abbrev ZL (K:au)(x:V)(H:Hp)(k:Bool):Prop:=
 match x with
 | .non=>k=false
 | .bl b=>k=b
 | .int i=>k=(i != 0)
 | .str y=>y.length<=sizeLine/\k=((y.length:Int) != 0)
 | .byt y=>y.size<=sizeLine/\k=((y.size:Int) != 0)
 | .ref p=>(∃xs,qX K H p xs/\k=!xs.isEmpty)\/(∃xs,qu K H p xs/\k=!xs.isEmpty)\/∃d,H p=some (.dK d)/\k=!d.isEmpty
 | _=>False
def HN{κ:Type}{kvs:List<|κ×V}{vs:List<|κ×af}(r:KV kvs vs):(!vs.isEmpty)=!kvs.isEmpty:=by
 cases r<;>rfl
def BF{xs:List V}{its:ba}(r:Vals xs its):(!its.toArray.isEmpty)=!xs.isEmpty:=by
 cases r<;>simp
def xm:(sizeLine:Nat)<2 ^ 63:=by rw[dh];decide
def Zt:adp X (λx H Q=>∃k,ZL X.K x H k/\Q k H):=by
 intro ai s σ H x v Q I rx h;obtain⟨k,e,q⟩:=h;have G:=xm;have hs:sizeLine=16777216:=dh
 cases x with
 | non=>
  cases rx
  have d:k=false:=e;subst d;exact truthy_none ⟨H,I,q⟩
 | bl b=>
  cases rx
  have d:k=b:=e;subst d;exact dZ ⟨H,I,q⟩
 | int i=>
  ksr_p;have d:k=(i != 0):=e;subst d;exact PySem.P.truthy_int ⟨H,I,q⟩
 | str y=>
  ksr_p;obtain⟨hy,d⟩:y.length<=sizeLine/\k=((y.length:Int) != 0):=e;subst d;exact PySem.P.truthy_str () ⟨H,I.tok _,q⟩
 | byt y=>
  ksr_p;obtain⟨hy,d⟩:y.size<=sizeLine/\k=((y.size:Int) != 0):=e;subst d;exact PySem.W.truthy_bytes () ⟨H,I.tok _,q⟩
 | ref p=>
  cases rx
  have d:(∃xs,qX X.K H p xs/\k=!xs.isEmpty)\/(∃xs,qu X.K H p xs/\k=!xs.isEmpty)\/∃f,H p=some (.dK f)/\k=!f.isEmpty:=e
  rcases d with⟨xs,j,d⟩|⟨xs,j,d⟩|⟨f,j,d⟩
  ·subst d;obtain⟨B,r,pl,C⟩:=I.list j;have g:=r.length;exact wpAny_truthy_list pl.isList (by dsimp[bf];lia) ⟨H,I.tok _,by rw[BF r];exact q⟩
  ·subst d;obtain⟨B,r,pl,C⟩:=I.tuple j;have g:=r.length;exact truthy_tuple pl (by dsimp[bf];lia) ⟨H,I.tok _,by rw[BF r];exact q⟩
  ·subst d;obtain⟨C,hS,vs,r,m⟩:f.length<=sizeLine/\(p == sysModules)=false/\∃vs,KV f vs/\s.heap.DictOf (lB X.prog X.w) p vs:=I.hok p _ j;have g:f.length=vs.length:=jC r;exact wpAny_truthy_dict hS m () ⟨H,I.tok _,by rw[HN r];exact q⟩
 | _=>exact(show False from e).elim
def PD(ha:PE X a ta)(J:∀whole,isTrue a X.env whole=(do let v <- whole;standAt a.pos;holding [v] (truthy v))) :
  PT X a (λσ H Q=>ta σ H λx H'=>∃k,ZL X.K x H' k/\Q k H'):=by
 kt_k;exact isTrue_plain (mR (ha ai s σ H _ I h) λv d ⟨x,H1,g,r1,f⟩=>Zt ai d σ H1 x v Q g r1 f)<|J _
def Ib:qx X (binaryOp .Add) (λx y H Q=>∃i j,x=.str i/\y=.str j/\i.length+j.length<=sizeLine/\Q (.str<|i++j) H):=by
 gn_on;obtain⟨i,j,rfl,rfl,f,q⟩:=h;ksr_p;obtain⟨d,rfl⟩:=ry;exact add_str (λd g=>⟨.str<|i++j,H,I.tok _,⟨_,rfl⟩,q⟩) f
def vals1{x:V}(r:Vals [x] us):∃u,us=[u]/\RelV x u:=by
 cases r with
 | cons r1 r2=>cases r2;exact⟨_,rfl,r1⟩
def vals2{x:V}(r:Vals [x,y] us):∃u w',us=[u,w']/\RelV x u/\RelV y w':=by
 cases r with
 | cons r1 r2=>
  cases r2 with
  | cons d f=>cases f;exact⟨_,_,rfl,r1,d⟩
def SA:kR X (.builtin "abs") (λxs H Q=>∃i,xs=[.int i]/\Q (.int<|if i<0 then -i else i) H):=by
 w_up;obtain⟨i,rfl,q⟩:=h;obtain⟨u,rfl,t,rfl⟩:=vals1 r;exact call_abs_int λu d=>⟨.int<|if i<0 then -i else i,H,I.tok _,⟨_,rfl⟩,q⟩
def MS(hc:X.calm=true):kR X (.builtin "max") (λxs H Q=>∃i j,xs=[.int i,.int j]/\Q (.int<|if j>i then j else i) H):=by
 w_up;obtain⟨i,j,rfl,q⟩:=h;obtain⟨u,f,rfl,⟨t,rfl⟩,⟨m,rfl⟩⟩:=vals2 r;refine max_two_ints (I.ok.hd hc) λh' g k=>⟨_,H,I.kept k,?_,q⟩;by_cases d:j>i
 ·rw[aO d,aO d];exact⟨_,rfl⟩
 ·rw[aM d,aM d];exact⟨_,rfl⟩
def Mu(hc:X.calm=true):kR X (.builtin "min") (λxs H Q=>∃i j,xs=[.int i,.int j]/\Q (.int<|if j<i then j else i) H):=by
 w_up;obtain⟨i,j,rfl,q⟩:=h;obtain⟨u,f,rfl,⟨t,rfl⟩,⟨m,rfl⟩⟩:=vals2 r;refine min_two_ints (I.ok.hd hc) λh' g k=>⟨_,H,I.kept k,?_,q⟩;by_cases d:j<i
 ·rw[aO d,aO d];exact⟨_,rfl⟩
 ·rw[aM d,aM d];exact⟨_,rfl⟩
def CA:kR X (.type "int") (λxs H Q=>(∃i,xs=[.int i]/\Q (.int i) H)\/∃k,xs=[.bl k]/\Q (.int<|if k then 1 else 0) H):=by
 w_up
 rcases h with⟨i,rfl,q⟩|⟨k,rfl,q⟩
 ·obtain⟨u,rfl,t,rfl⟩:=vals1 r;exact call_int_int ⟨.int i,H,I,⟨_,rfl⟩,q⟩
 ·obtain⟨u,rfl,r1⟩:=vals1 r
  cases r1
  exact call_int_bool ⟨.int<|if k then 1 else 0,H,I.tok _,⟨_,rfl⟩,q⟩
abbrev ada (K:au)(x:V)(H:Hp)(n:Nat):Prop:=
 match x with
 | .str y=>y.length<=sizeLine/\n=y.length
 | .byt y=>y.size<=sizeLine/\n=y.size
 | .ref p=>(∃xs,qX K H p xs/\n=xs.length)\/∃xs,qu K H p xs/\n=xs.length
 | _=>False
def Rq:kR X (.builtin "len") (λxs H Q=>∃x n,xs=[x]/\ada X.K x H n/\Q (.int n) H):=by
 w_up;obtain⟨x,n,rfl,e,q⟩:=h;kj_on;have B:=xm;have hs:sizeLine=16777216:=dh
 cases x with
 | str y=>
  ksr_p;obtain⟨hy,f⟩:y.length<=sizeLine/\n=y.length:=e;subst f;exact len_str () ⟨.int _,H,I.tok _,⟨_,rfl⟩,q⟩
 | byt y=>
  ksr_p;obtain⟨hy,f⟩:y.size<=sizeLine/\n=y.size:=e;subst f;exact PySem.W.len_bytes () ⟨.int _,H,I.tok _,⟨_,rfl⟩,q⟩
 | ref p=>
  cases rx
  have f:(∃xs,qX X.K H p xs/\n=xs.length)\/∃xs,qu X.K H p xs/\n=xs.length:=e
  rcases f with⟨xs,j,f⟩|⟨xs,j,f⟩
  ·subst f;obtain⟨g,k,pl,m⟩:=I.list j;have d:=k.length;exact Calls.call_len_list pl.isList (by dsimp[bf];lia) ⟨.int xs.length,H,I.tok _,⟨_,by dsimp[bf];rw[d]⟩,q⟩
  ·subst f;obtain⟨g,k,pl,m⟩:=I.tuple j;have d:=k.length;exact len_tuple pl (by dsimp[bf];lia) ⟨.int xs.length,H,I.tok _,⟨_,by dsimp[bf];rw[d]⟩,q⟩
 | _=>exact(show False from e).elim
end
structure ObjM (h:aq)(x dx C:ak)(mA:Str->bd):Prop where
 obj:h.get? x=some (PySem.W.instObj C dx)
 ns:h.Ns1 dx mA
 ne:dx≠x
def MI{h:aq}{J:Str->bd}(n:h.Ns1 dx J):∃od,h.get? dx=some od/\∀name,PySem.W.lookIn name od=some (J name):=by
 obtain⟨o,es,ep,m,k,f,_,g⟩:=n;refine⟨o,m,λname=>?_⟩;have e:=g name;unfold nsFind findBy at e;rw[<- Array.find?_toList]at e;unfold PySem.W.lookIn;rw[k];dsimp only;split
 ·rename_i y q;rw[q]at e;exact dG some e
 ·rename_i q;rw[q]at e;have a:es.toList.any (·.refKey)=false:=by
   rw[List.any_eq_false];intro y hy;obtain⟨z,t,d⟩:=f y<|Array.mem_toList_iff.mp hy;simp[DictEntry.refKey,d]
  have j:¬es.toList.any (·.refKey)=true:=by rw[a];exact br
  rw[aM j];exact dG some e
def ObjM.look{x:ak}{J:Str->bd}(I:ObjM h x dx C J):∃od,PySem.W.InstAt h x (PySem.W.instObj C dx) C (some od)/\∀name,PySem.W.lookIn name od=some (J name):=
 let⟨od,ho,hl⟩:=MI I.ns
 ⟨od,⟨I.obj,rfl,rfl,ho⟩,hl⟩
def yF.some_of{v:V}(r:yF (some v) o):∃u,o=some u/\RelV v u:=by
 cases o with
 | none=>exact(show False from r).elim
 | some u=>exact⟨u,rfl,r⟩
section
variable {P:aj}{w:ah}{H:Hp}{h:aq}{a C dx:ak}{fs:List (Str×V)}
def UO(J:wC P w H h)(e:H a=some (.ins C dx fs)):∃mA,ObjM h a dx C mA/\(∀f,yF (fs.lookup f)<|mA f)/\PySem.Within mA (fs.map (·.1))/\fs.length<=1000/\H dx=some (.own a):=by
 obtain⟨d,z,g,j,mA,n,r,q⟩:=(show mz P w H h a (.ins C dx fs)from J a _ e);exact⟨mA,⟨j,n,g⟩,r,q,z,d⟩
end
structure Cls (K:au)(C:ak):Prop where
 pg:PySem.W.plainGet K C Str.empty=true
 hd:PySem.W.hasDictIn K C=true
 po:PySem.W.plainOver K C=true
 sa:PySem.W.findIn K (.ref C) "__setattr__" = some (some<|.builtin "object.__setattr__")
def Cls.get{K:au}(c:Cls K C)(f:Str):PySem.W.plainGet K C f=true:=c.pg
structure Con (K:au)(C:ak)(f:Str)(v:V)(u:af):Prop where
 at_:PySem.W.findIn K (.ref C) f=some (some u)
 rel:RelV v u
 get:PySem.W.specialIn K u "__get__" = some none
 cp:PySem.W.copiedNames.contains f=false
section
variable {X:Cx}{ai:bp}{σ:St}{H:Hp}{s:aC}{A:aA}{E:af->aC->Prop}{Q:af->aC->Prop}{c:af}{b:Bool}
inductive TyOf (K:au) (H:Hp):V->af->Prop where
 | non:TyOf K H .non (.type "NoneType")
 | bl (x:Bool):TyOf K H (.bl x) (.type "bool")
 | int (i:Int):TyOf K H (.int i) (.type "int")
 | str (x:Str):TyOf K H (.str x) (.type "str")
 | flt (x:UInt64):TyOf K H (.flt x) (.type "float")
 | lst {a:ak} {xs:List V} (e:H a=some (.lst xs)):TyOf K H (.ref a) (.type "list")
 | frz {a:ak} {o:Obj} {xs:List V} (e:H a=some (.frz o<|.lst xs)):TyOf K H (.ref a) (.type "list")
 | tup {a:ak} {xs:List V} (e:H a=some (.tup xs)):TyOf K H (.ref a) (.type "tuple")
 | dK {a:ak} {kvs:List<|Key×V} (e:H a=some (.dK kvs)):TyOf K H (.ref a) (.type "dict")
 | dT {a:ak} {kvs:List<|List Key×V} (e:H a=some (.dT kvs)):TyOf K H (.ref a) (.type "dict")
 | ins {a C dx:ak} {fs:List<|Str×V} (e:H a=some (.ins C dx fs)) (cl:Cls K C) (ha:PySem.W.findIn K (.ref C) "__class__" = some (some<|.builtin "object.__class__"))
   (hn:PySem.W.specialIn K (.builtin "object.__class__") "__get__" = some (some<|.builtin "getset_descriptor.__get__")) (htk:PySem.W.takesIn K (.builtin "object.__class__")=some true)
   (hm:PySem.W.mroIn K C (.type "object")=some true):TyOf K H (.ref a)<|.ref C
def MO{x:V}{t:af}(I:Inv X ai σ H s)(rx:RelV x u)(ty:TyOf X.K H x t)(e:kitOne X.K t c=some b)(h:∀tk,Q (.bool b) { s with toks:=tk }) :
  wpAny (model X.prog X.w) A (call (.builtin "isinstance") [u,c]) Q E s:=by
 cases ty with
 | non=>cases(show u=Value.none from rx);exact cN PySem.W.kitx_none I.AH True.intro e (λz=>nomatch z) h
 | bl y=>cases(show u=Value.bool y from rx);exact cN PySem.W.kitx_bool I.AH True.intro e (λz=>nomatch z) h
 | int i=>obtain⟨t,q⟩:=(show ∃t,u=Value.int i t from rx);cases q;exact cN PySem.W.kitx_int I.AH True.intro e (λz=>nomatch z) h
 | str y=>obtain⟨t,q⟩:=(show ∃t,u=Value.str y t from rx);cases q;exact cN PySem.W.kitx_str I.AH True.intro e (λz=>nomatch z) h
 | flt y=>obtain⟨t,q⟩:=(show ∃t,u=Value.float y t from rx);cases q;exact cN PySem.W.kitx_float I.AH True.intro e (λz=>nomatch z) h
 | @lst a xs d=>
  cases(show u=Value.ref a from rx)
  obtain⟨_,_,n,_,h1⟩:=(show mz X.prog X.w H s.heap a (.lst xs)from I.hok a _ d);exact cN PySem.W.kitx_list I.AH ⟨_,h1,rfl⟩ e (λz=>nomatch z) h
 | @frz a m xs d=>
  cases(show u=Value.ref a from rx)
  obtain⟨_,_,_,n,_,h1⟩:=(show mz X.prog X.w H s.heap a (.frz m<|.lst xs)from I.hok a _ d);exact cN PySem.W.kitx_list I.AH ⟨_,h1,rfl⟩ e (λz=>nomatch z) h
 | @tup a xs d=>
  cases(show u=Value.ref a from rx)
  obtain⟨_,_,_,p⟩:=(show mz X.prog X.w H s.heap a (.tup xs)from I.hok a _ d);obtain⟨o,h1,h2,_⟩:=p;exact cN PySem.W.kitx_tuple I.AH ⟨o,h1,h2⟩ e (λz=>nomatch z) h
 | @dK a f d=>
  cases(show u=Value.ref a from rx)
  obtain⟨_,_,vs,_,p⟩:=(show mz X.prog X.w H s.heap a (.dK f)from I.hok a _ d);obtain⟨o,es,ep,h1,h2,_⟩:=p;exact cN PySem.W.kitx_dict I.AH ⟨o,h1,h2.1⟩ e (λz=>nomatch z) h
 | @dT a f d=>
  cases(show u=Value.ref a from rx)
  obtain⟨_,_,xs,_,o,es,ep,h1,h2,_⟩:=(show mz X.prog X.w H s.heap a (.dT f)from I.hok a _ d);exact cN PySem.W.kitx_dict I.AH ⟨o,h1,h2.1⟩ e (λz=>nomatch z) h
 | @ins a C dx fs d j ha hn g k=>
  cases(show u=Value.ref a from rx)
  obtain⟨B,O,_⟩:=UO I.hok d;obtain⟨od,J,_⟩:=O.look;exact cN (PySem.W.kitx_own (j.get _) j.hd ha hn g k) I.AH J e (λz=>nomatch z) h
end
structure Room (k:Nat)(A:aA):Prop where
 hd:A.handled=none
 dp:A.depth+3 * k+5<recursionLimit
 un:A.units+16 * k+200<cLine
 gs:A.guards=some []
def Room.mono{k:Nat}{A:aA}(r:Room k A)(h:j<=k):Room j A:=⟨r.hd,by have:=r.dp;lia,by have:=r.un;lia,r.gs⟩
def Room.deeper{k:Nat}{A:aA}(r:Room (k+1) A)(env:Env):Room k (A.deeper env):=
 ⟨r.hd,by have:=r.dp;show A.depth+1+3 * k+5<_;lia,by have:=r.un;show A.units+3+16 * k+200<_;lia,r.gs⟩
def Room.depth{k:Nat}{A:aA}(r:Room k A):A.depth<recursionLimit:=by have:=r.dp;lia
def Room.units{k:Nat}{A:aA}(r:Room k A):A.units+64<cLine:=by have:=r.un;lia
abbrev ade:TA:=λ_ H Q=>Q [] H
abbrev abW (ta:TE)(J:TA):TA:=λσ H Q=>ta σ H λx H1=>J σ H1 λxs H2=>Q (x::xs) H2
section
variable {X:Cx}{e:aE}{es:List aE}{te:TE}{t:TA}{pos:Pos}
def xg:PA X [] ade:=λ_ _ _ _ H Q I h=>Calls.spliced_nil ⟨[],H,I,.nil,h⟩
def qP(ha:PE X e te)(J:PA X es t)(hs:starEach (e::es) X.env=(false,eval e X.env)::starEach es X.env<|>ε):PA X (e::es) (abW te t):=by
 intro pos ai s σ H Q I h;rw[hs]
 skip
 refine Calls.spliced_cons<|mR (ha ai s σ H _ I h) λu g ⟨x,H1,k,r1,d⟩=>?_;exact mR (J pos ai g σ H1 _ k d) λus m ⟨xs,H2,j,r2,f⟩=>⟨x::xs,H2,j,.cons r1 r2,f⟩
abbrev ac8 (t:TA):TE:=λσ H Q=>t σ H λxs H1=>xs.length<=sizeLine/\∀p,H1 p=none->Q (.ref p) (upd H1 p<|.tup xs)
abbrev ado (t:TA):TE:=λσ H Q=>t σ H λxs H1=>xs.length<=sizeLine/\∀p,H1 p=none->Q (.ref p) (upd H1 p<|.lst xs)
def ZW{x1}(h:PA X es t):PE X (.Tuple es x1 pos) (ac8 t):=by
 intro ai s σ H Q I g;refine wpAny_Tuple_spliced (mR (h pos ai s σ H _ I g) λus d ⟨xs,H1,f,r,z,q⟩=>⟨by rw[<- r.length];exact z,?_⟩);have hf:H1 d.heap.objs.size=none:=f.hok.fresh<|aP _;refine⟨.ref d.heap.objs.size,upd H1 d.heap.objs.size<|.tup xs,f.laid (t':=d.toks) (λb u e=>aN _ e) (aP _) ?_,rfl,q _ hf⟩;exact⟨z,us,r,⟨_,bu _ rfl,rfl,rfl,_,rfl⟩⟩
def ZA(h:PA X es t):PE X (.List es pos) (ado t):=by
 intro ai s σ H Q I g;refine wpAny_List_spliced (mR (h pos ai s σ H _ I g) λus d ⟨xs,H1,f,r,z,q⟩=>⟨by rw[<- r.length];exact z,?_⟩);have hf:H1 d.heap.objs.size=none:=f.hok.fresh<|aP _;refine⟨.ref d.heap.objs.size,upd H1 d.heap.objs.size<|.lst xs,f.laid (t':=d.toks) (λb u e=>aN _ e) (aP _) ?_,rfl,q _ hf⟩;exact⟨z,us,0,r,bu _ rfl⟩
end
meta abbrev Sp:=List V->Hp->VK->XK->Prop
meta abbrev Si:=List Env->Hp->aC->XK->af->aC->Prop
structure Env0 (P:aj)(w:ah)(K:au)(mg:Str->bd)(base:aq)(A:aA)(outer:List Env)(s:aC)(H:Hp):Prop where
 frames:A.frames=some outer
 mod:Mod K mg base
 bs:∀b o,base.get? b=some o->s.heap.get? b=some o/\H b=none
 bsz:base.objs.size<=s.heap.objs.size
 uF:s.heap.FunFrames base outer
 frf:∀b∈frs outer,H b=none
 hok:wC P w H s.heap
 bare:AllBare s.gens
abbrev CE (outer:List Env)(P:aj)(w:ah)(H:Hp)(s:aC)(Q:VK)(u:af)(s':aC):Prop:=
 ∃v H',s'.os=s.os/\AllBare s'.gens/\Un (frs outer) [] H H' s.heap s'.heap/\wC P w H' s'.heap/\RelV v u/\Q v H'
abbrev CR (CX:Si)(outer:List Env)(P:aj)(w:ah)(H:Hp)(s:aC)(Q:VK)(E:XK)(r:Result)(s':aC):Prop:=
 match r with
 | .ok (.ret u)=>CE outer P w H s Q u s'
 | .ok _=>False
 | .error e=>CX outer H s E e s'
structure FnOk (P:aj)(w:ah)(K:au)(mg:Str->bd)(base:aq)(CX:Si)(k:Nat)(f:ak)(fd:FuncData)(ps:ar)(sp:Sp):Prop where
 len:∀vs H Q E,sp vs H Q E->vs.length=ps.length
 run:∀(A:aA) (outer:List Env) (s:aC) (H:Hp) (args:Args) (us:ba) (vs:List V) (Q:VK) (E:XK),Room k A->Env0 P w K mg base A outer s H->BindsTo s fd args (ps.zip us)->Vals vs us->sp vs H Q E ->
  codeAny (model P w) A (.call (.ref f) args) (CR CX outer P w H s Q E) s
section
variable {X:Cx}{ai:bp}{σ:St}{H:Hp}{s s':aC}
def Inv.acu(I:Inv X ai σ H s):Env0 X.prog X.w X.K X.mg X.base X.A X.stack s H:=
 ⟨I.ok.frames,I.ok.mod,I.bs,bI I.ok.bsz I.sz,I.stack,I.zW,I.hok,I.bare⟩
def Inv.after{Q:VK}(I:Inv X ai σ H s)(h:CE X.stack X.prog X.w H s Q u s'):EP X ai σ Q u s':=by
 obtain⟨v,H',os,f,un,j,r,q⟩:=h;obtain⟨m,g,d,t,k⟩:=s';obtain rfl:k=s.os:=os;exact⟨v,H',I.call (h':=m) (g':=g) (d':=d) (t':=t) (ch:=[]) un j f λb z=>absurd z<|by simp,r,q⟩
end
abbrev TQ (sp:Sp)(dvs:List V)(E:XK)(t:TA):TE:=λσ H Q=>t σ H λvs H1=>sp (vs++dvs) H1 Q E
abbrev Binds (K:au)(fd:FuncData)(ps:ar)(ds:ba):Prop:=
 ∀(s:aC) (us:ba),K.In s.heap->(us++ds).length=ps.length->BindsTo s fd ⟨us,[]⟩ (ps.zip<|us++ds)
def Binds.all{K:au}{fd:FuncData}{ps:ar}(h:∀us:ba,us.length=ps.length->bindArgs fd ⟨us,[]⟩=pure (ps.zip us)):Binds K fd ps []:=λs us _ d=>by
 rw[bR]at d ⊢;exact .of_eq<|h us d
abbrev Passes (CX:Si)(X:Cx)(E:XK):Prop:=∀(ai:bp) (σ:St) (H:Hp) (s:aC) (e:af) (s':aC),Inv X ai σ H s->CX X.stack H s E e s'->X.xe e s'
section
variable {X:Cx}{CX:Si}{k:Nat}{f C:ak}{fd:FuncData}{ps:ar}{sp:Sp}{dvs:List V}{ds:ba}{E:XK}{x:Str}{p pos:Pos}{e:aE}{es:List aE}{t:TA}
def ZX{H:Hp}{Q:VK}(F:FnOk X.prog X.w X.K X.mg X.base CX k f fd ps sp)(J:Room k X.A)(hb:Binds X.K fd ps ds)(U:Vals dvs ds)(Z:Passes CX X E)
  (I:Inv X ai σ H s) (r:Vals vs us) (h:sp (vs++dvs) H Q E):wpAny (model X.prog X.w) X.A (call (.ref f) us) (EP X ai σ Q) X.xe s:=by
 have r2:Vals (vs++dvs) (us++ds):=r.append U;have g:(us++ds).length=ps.length:=by rw[<- r2.length];exact F.len _ _ _ _ h
 refine jN (iz (F.run X.A X.stack s H ⟨us,[]⟩ (us++ds) (vs++dvs) Q E J I.acu (hb s us I.AH g) r2 h) λr s' d=>?_)
 cases r with
 | error e=>exact Z ai σ H s e s' I d
 | ok fl=>
  cases fl with
  | ret u=>exact I.after d
  | next=>exact False.elim d
  | brk=>exact False.elim d
  | cont=>exact False.elim d
def Jf(F:FnOk X.prog X.w X.K X.mg X.base CX k f fd ps sp)(Z:Room k X.A)(hg:Gl X x)(hm:X.mg x=some (.ref f))(hk:keepIn X.K (.ref f)=true)(hb:Binds X.K fd ps ds)(hd:Vals dvs ds)(hx:Passes CX X E)
  (ha:PA X (e::es) t) (J:(x == ("__debug__" : Str))=false<|>δ) (he:starEach (e::es) X.env=(false,eval e X.env)::starEach es X.env<|>ε) (U:((backTo pos<|starEach es X.env).any (·.1)=false)<|>ε) :
  PE X (.Call (.Name x p) (e::es) [] pos) (TQ sp dvs E t):=by
 kt_k;refine gZ<|xT I hg hm ?_ J;refine PySem.W.callWith_K (h₀:=X.base) I.ok.mod.kin hk (mR (ha pos ai s σ H _ I h) λus d ⟨vs,H1,I1,r,q⟩=>⟨I1.AH,?_⟩) he U;exact ZX F Z hb hd hx I1 r q
end
section
variable {fd:FuncData}{ps ks:ar}
end
structure FnScope (N P:ar)(sc:Scope):Prop where
 kind:sc.kind=.function
 co:sc.isCoroutine=false
 gen:sc.isGenerator=false
 nd:N.Nodup
 pre:N.take P.length=P
 par:∀x∈P,sc.names.lookup x=some .local\/sc.names.lookup x=some .cell
 nofree:∀y∈sc.names,y.2≠.free
theorem Co{J:Str->Option NameKind}{x:Str}:∀{binds:List<|Str×af}{m:Str->bd},(∀v,(x,v)∉binds)->bindL J binds m x=m x
 | [],_,_=>rfl
 | (n,v)::r,m,h=>by
  unfold bindL;rw[Co λw hw=>h w<|aS _ hw];split
  ·have:x≠n:=by rintro rfl;exact h v aR
   simp[this]
  ·rfl
theorem CS{J:Str->Option NameKind}{x:Str}:∀{binds:List<|Str×af}{m:Str->bd},(∀v,(x,v)∉binds)->bindC J binds m x=m x
 | [],_,_=>rfl
 | (n,v)::r,m,h=>by
  unfold bindC;rw[CS λw hw=>h w<|aS _ hw];split
  ·rfl
  ·have:x≠n:=by rintro rfl;exact h v aR
   simp[this]
theorem C6{J:Str->Option NameKind}{x:Str}{v:af}:∀{P:ar}{vs:ba}{i:Nat}{m:Str->bd},P.Nodup->P[i]?=some x->vs[i]?=some v->J x=some .local ->
  bindL J (P.zip vs) m x=some v
 | [],_,_,_,_,h,_,_=>by simp at h
 | _::_,[],_,_,_,_,h,_=>by simp at h
 | p::P,w::vs,0,m,nd,h1,h2,hk=>by
  simp at h1 h2;subst h1;subst h2;show bindL J ((p,w)::P.zip vs) m p=_;unfold bindL;rw[Co λv hv=>(dB.mp nd).1 (jc hv).1,aO hk];simp
 | p::P,w::vs,i+1,m,nd,h1,h2,hk=>by
  skip
  unfold bindL;exact C6 (i:=i) (dB.mp nd).2 (by simpa using h1) (by simpa using h2) hk
theorem Cr{J:Str->Option NameKind}{x:Str}{v:af}:∀{P:ar}{vs:ba}{i:Nat}{m:Str->bd},P.Nodup->P[i]?=some x->vs[i]?=some v->J x≠some .local ->
  bindC J (P.zip vs) m x=some v
 | [],_,_,_,_,h,_,_=>by simp at h
 | _::_,[],_,_,_,_,h,_=>by simp at h
 | p::P,w::vs,0,m,nd,h1,h2,hk=>by
  simp at h1 h2;subst h1;subst h2;show bindC J ((p,w)::P.zip vs) m p=_;unfold bindC;rw[CS λv hv=>(dB.mp nd).1 (jc hv).1,aM hk];simp
 | p::P,w::vs,i+1,m,nd,h1,h2,hk=>by
  skip
  unfold bindC;exact Cr (i:=i) (dB.mp nd).2 (by simpa using h1) (by simpa using h2) hk
abbrev start (N:ar)(vs:List V):St:=vs.map some++List.replicate (N.length-vs.length) none
abbrev ye (CX:Si)(P:aj)(w:ah)(K:au)(mg:Str->bd)(base:aq)(N:ar)(qual:Str)(scope:Scope)(f:ak)(cd:af)(A:aA)(outer:List Env)(s:aC)(H:Hp)(E:XK):Cx where
 prog:=P
 w:=w
 K:=K
 mg:=mg
 base:=base
 A:=A.deeper (envOfC qual scope s.heap.objs.size f cd)
 N:=N
 s₀:=s
 H₀:=H
 env:=envOfC qual scope s.heap.objs.size f cd
 outer:=outer
 stack:=envOfC qual scope s.heap.objs.size f cd::outer
 ex:=[]
 calm:=true
 fn:=λ_=>true
 pn:=[]
 xe:=λe s'=>wpAny (model P w) (A.deeper<|envOfC qual scope s.heap.objs.size f cd) (leaving (envOfC qual scope s.heap.objs.size f cd) e) (λ_ d=>CX outer H s E e d) (λg d=>CX outer H s E g d) s'
def Fy{J:Scope}{n:Nat}{x:Str}(h:J.names.lookup x=some .cell):∃c,(cellsFrom n J.names []).lookup x=some c:=by
 have q:=iA J.names n []<|.inl h;exact fF.mp q
def Ct{CX:Si}{P:aj}{w:ah}{K:au}{mg:Str->bd}{base:aq}{N ps:ar}{scope:Scope}{f:ak}{A:aA}{outer:List Env}{s:aC}{H:Hp}{E:XK}{vs:List V}
  (S:FnScope N ps scope) (J:A.handled=none) (e0:Env0 P w K mg base A outer s H) (U:vs.length=ps.length) (r:Vals vs us)
  (x:InCallC s s.heap.objs.size (bindL (envOfC qual scope s.heap.objs.size f cd).kindOf (ps.zip us) λ_=>none) (cellsFrom (s.heap.objs.size+1) scope.names []) (bindC (envOfC qual scope s.heap.objs.size f cd).kindOf (ps.zip us) λ_=>none) s1) :
  Inv (ye CX P w K mg base N qual scope f cd A outer s H E) [] (start N vs) H s1:=by
 have C:ps.length<=N.length:=by have:=dG List.length S.pre;rw[bN]at this;lia
 obtain⟨h1,G,rfl,j⟩:=x.done;have d:∀b:ak,b∉(ye CX P w K mg base N qual scope f cd A outer s H E).ex:=λb z=>absurd (show b∈([]:bb)from z) (by simp);refine⟨⟨e0.mod,S.kind,rfl,rfl,aP _,λy z c h1 h2=>?_,λy hy=>?_,λy c _ h=>?_,λ_=>J,Around.frames_deeper e0.frames,.inr ⟨rfl,rfl⟩,λb z=>absurd z<|d b,e0.bs,e0.bsz,λb _ _=>d b,λb z=>absurd z<|d b,e0.uF,e0.frf⟩,
  rfl,e0.bare,Un.kept j,⟨_,x.toInCall.ns,λi y v h1 h2 h3=>?_⟩,λy c h=>⟨_,x.cell y c h⟩,e0.hok.fresh<|aP _,λy c h=>?_,λp hp=>absurd (show p∈([]:bp)from hp)<|by simp,e0.hok.kept j,?_⟩
 ·exact name_of_addr x.apart (eB h1) (eB h2)
 ·have hy:scope.names.lookup y=some .cell\/scope.names.lookup y=some .free:=hy
  rcases hy with hy|hy
  ·exact Fy hy
  ·exact absurd rfl<|S.nofree _<|eB hy
 ·exact jk (x.above y c<|eB h)
 ·have hi:i<vs.length:=by
   unfold start at h2;by_cases hi:i<vs.length
   ·exact hi
   ·rw[gu<|by simpa using hi]at h2;rw[fR]at h2;split at h2<;>cases h2
  have ha:vs[i]?=some v:=by
   unfold start at h2;rw[bE<|by simpa using hi,aQ]at h2
   cases e:vs[i]? with
   | none=>rw[e]at h2;cases h2
   | some a=>rw[e]at h2;cases h2;rfl
  obtain⟨u,m,B⟩:=r.get ha;have hp:ps[i]?=some y:=by
   rw[<- S.pre,dW ()];exact h1
  have g:ps.Nodup:=by rw[<- S.pre];exact S.nd.sublist (List.take_sublist _ _)
  refine⟨u,B,?_⟩
  rcases S.par y (aW hp)with k|k
  ·exact .inl ⟨k,C6 g hp m k⟩
  ·obtain⟨c,e⟩:=Fy (n:=s.heap.objs.size+1) k;refine .inr ⟨.inl k,c,e,?_⟩;have q:=x.cell y c e;rw[Cr g hp m<|by show scope.names.lookup y≠_;rw[k];decide]at q;exact q
 ·exact e0.hok.fresh (jk<|x.above y c<|eB h)
 ·unfold start;show _=N.length;rw[aV,aK,List.length_replicate]
  lia
def W_{CX:Si}{P:aj}{w:ah}{K:au}{mg:Str->bd}{base:aq}{k:Nat}{f:ak}{kV pm ct:af}
  {osl:Array<|bd} {N ps:ar} {sp:Sp} (lk:K.lookup f=some ⟨oc,od,.func<|PySem.W.fnOf name qual params body scope dV kV doc pm an cdv ct,osl⟩) (hcd:PySem.W.codeIn K cdv qual=true) (S:FnScope N ps scope)
  (len:∀vs H Q E,sp vs H Q E->vs.length=ps.length)
  (Z:∀(A:aA) (outer:List Env) (s:aC) (H:Hp) (vs:List V) (Q:VK) (E:XK),Room k (A.deeper<|envOfC qual scope s.heap.objs.size f cdv)->sp vs H Q E ->
   ∃t,Cg (ye CX P w K mg base N qual scope f cdv A outer s H E) body t/\t { nx:=λ_ H'=>Q .non H',rt:=Q } (start N vs) H) :
  FnOk P w K mg base CX (k+1) f (PySem.W.fnOf name qual params body scope dV kV doc pm an cdv ct) ps sp:=by
 refine⟨len,λA outer s H G us vs Q E p e0 hb r j=>?_⟩;have T:=len _ _ _ _ j;have C:K.In s.heap:=e0.mod.kin.keeps λb o e=>(e0.bs b o e).1;have B:s.heap.NoLimit:=e0.mod.nolimit.keeps λb o e=>(e0.bs b o e).1;have g:∀y∈ps.zip us,scope.names.lookup y.1=some .local\/(scope.names.lookup y.1=some .cell/\((cellsFrom (s.heap.objs.size+1) scope.names []).lookup y.1).isSome=true):=λ⟨n,v⟩ hy=>by
  rcases S.par n (jc hy).1 with q|q
  ·exact .inl q
  ·exact .inr ⟨q,iA _ _ _<|.inl q⟩
 refine codeAny_call_function p.depth (C _ _ lk) rfl S.co S.gen rfl (PySem.W.codeRec_of C hcd)<|hb _ _ _ _ ?_;refine wpAny_newFunctionEnv_cells S.kind g λenv U L x=>?_;subst U;refine⟨B.keeps x.toInCall.keep,codeAny_func ?_⟩;obtain⟨t,M,O⟩:=Z A outer s H vs Q E (p.deeper _) j;have I:Inv (ye CX P w K mg base N qual scope f cdv A outer s H E) [] (start N vs) H L:=Ct S p.hd e0 T r x;refine c5 (M [] L (start N vs) H _ I O) (λfl s' hs=>?_) λe s' hs=>hs;have fin:∀{d:St} {H':Hp} {v:V} {u:af},Inv (ye CX P w K mg base N qual scope f cdv A outer s H E) [] d H' s'->RelV v u->Q v H'->CE outer P w H s Q u s':=
  λ{d H' v u} J m q=>⟨v,H',J.os,J.bare,J.base,J.hok,m,q⟩
 cases fl with
 | ret u=>
  obtain⟨v,d,H',J,m,q⟩:=hs;exact fin J m q
 | next=>
  obtain⟨d,H',J,q⟩:=hs;exact fin (v:=V.non) (u:=Value.none) J rfl q
 | brk=>
  obtain⟨_,_,_,q⟩:=hs;exact False.elim q
 | cont=>
  obtain⟨_,_,_,q⟩:=hs;exact False.elim q
section
variable {X:Cx}{x:Str}{p pos:Pos}{e:aE}{es:List aE}{t:TA}{id T:String}{r:List V->Hp->VK->Prop}
abbrev tCB (r:List V->Hp->VK->Prop)(t:TA):TE:=λσ H Q=>t σ H λvs H1=>r vs H1 Q
def Gp(hc:kR X (.builtin id) r)(hg:Gl X x)(Z:X.mg x=none)(hv:bootBuiltins x=some (.builtin id))(ha:PA X (e::es) t)(hn:x ≠ "__name__"<|>δ)(J:(x == ("__debug__" : Str))=false<|>δ)
  (he:starEach (e::es) X.env=(false,eval e X.env)::starEach es X.env<|>ε) (U:((backTo pos<|starEach es X.env).any (·.1)=false)<|>ε):PE X (.Call (.Name x p) (e::es) [] pos) (tCB r t):=by
 kt_k;refine gZ<|yv I hg Z hv ?_ hn J;exact PyProof.Rows.callWith_builtin1 (mR (ha pos ai s σ H _ I h) λus d ⟨vs,H1,g,r1,f⟩=>hc ai d σ H1 vs us Q g r1 f) he U
def Nq(hc:kR X (.type T) r)(hg:Gl X x)(Z:X.mg x=none)(hv:bootBuiltins x=some (.type T))(ha:PA X (e::es) t)(hn:x ≠ "__name__"<|>δ)(J:(x == ("__debug__" : Str))=false<|>δ)
  (he:starEach (e::es) X.env=(false,eval e X.env)::starEach es X.env<|>ε) (U:((backTo pos<|starEach es X.env).any (·.1)=false)<|>ε):PE X (.Call (.Name x p) (e::es) [] pos) (tCB r t):=by
 kt_k;refine gZ<|yv I hg Z hv ?_ hn J;exact eF (mR (ha pos ai s σ H _ I h) λus d ⟨vs,H1,g,r1,f⟩=>hc ai d σ H1 vs us Q g r1 f) he U
end
end L2
namespace HT
open PySem PyProof.Rows
abbrev lexLt:ag->ag->Bool
 | [],[]=>false
 | [],_::_=>true
 | _::_,[]=>false
 | x::xs,y::ys=>if x=y then lexLt xs ys else decide (x<y)
def pF(x y:Int)(xs ys:ag):lexLt (x::xs) (y::ys)=if x=y then lexLt xs ys else decide (x<y):=rfl
def tH:lexLt [] []=false:=rfl
def pJ(y:Int)(ys:ag):lexLt [] (y::ys)=true:=rfl
def rE(x:Int)(xs:ag):lexLt (x::xs) []=false:=rfl
section
variable {prog:aj}{w:ah}{A:aA}{E:af->aC->Prop}{s:aC}
def Vk{t:ak}{vs ws:ba}{Q:af->aC->Prop}(J:IsTup s.heap t vs.toArray)(hb:IsTup s.heap b ws.toArray)(hv:vs≠[])
  (h1:ws=[]->Q (.ref t) s) (h2:ws≠[]->Q (.ref s.heap.objs.size) { s with heap:=s.heap.push { cls:=.type "tuple",data:=.seq (vs++ws).toArray }})
  (hsz:vs.length+ws.length<=sizeLine):wpAny (model prog w) A (binaryOp .Add (.ref t)<|.ref b) Q E s:=by
 obtain⟨⟨cls,dd,data,q⟩,m,hc,n,G⟩:=id J;obtain⟨⟨B,j,p,g⟩,d,k,C,f⟩:=id hb;simp only at hc G k f;subst hc G k f;have e:vs.toArray++ws.toArray=(vs++ws).toArray:=by simp
 by_cases hw:ws=[]
 ·exact concat_meets ⟨_,m,rfl⟩ ⟨_,d,rfl⟩ noFill_tuple_add seq_tuple_add iB ig (gM _ _)
   (tuple_addW1 t b vs.toArray ws.toArray n C dd j q g (by simpa using hv)<|by simp[hw]) ⟨m,d,h1 hw⟩
 ·refine concat_meets ⟨_,m,rfl⟩ ⟨_,d,rfl⟩ noFill_tuple_add seq_tuple_add iB ig (gM _ _)
   (tuple_addW2 t b vs.toArray ws.toArray n C dd j q g (by simpa using hv) (by simpa using hw)<|by rw[bf,bf];exact hsz) ⟨m,d,?_⟩
  rw[e];exact h2 hw
abbrev pI (n d:Nat):bi->Nat
 | none=>d
 | some v=>if v<0 then(v+(n:Int)).toNat else min v.toNat n
def Ea(n d k:Nat):pI n d (some (k:Int))=min k n:=by
 show(if (k:Int)<0 then((k:Int)+(n:Int)).toNat else min (k:Int).toNat n)=min k n;rw[aM (),di]
def Zs(n d:Nat)(J:d<=n)(o:bi):pI n d o<=n:=by
 cases o with
 | none=>exact J
 | some v=>
  show(if v<0 then(v+(n:Int)).toNat else min v.toNat n)<=n;by_cases hv:v<0
  ·rw[aO hv];lia
  ·rw[aM hv];exact Nat.min_le_right _ _
def Kh(v:Int)(n d:Nat):(if v<0 then max (v+(n:Int)) 0 else min v (n:Int))=((pI n d (some v):Nat):Int):=by
 show(if v<0 then max (v+(n:Int)) 0 else min v (n:Int))=(((if v<0 then(v+(n:Int)).toNat else min v.toNat n):Nat):Int);by_cases hv:v<0
 ·dsimp[aO hv];lia
 ·dsimp[aM hv];lia
def HB(lo hi:bi)(n:Nat):Builtin.Slice.sliceAdjust lo hi 1 (n:Int)=(((pI n 0 lo:Nat):Int),((pI n n hi:Nat):Int)):=by
 have h1:¬((1:Int)<0):=()
 unfold Builtin.Slice.sliceAdjust;dsimp[h1,cQ];refine Prod.ext ?_ ?_
 ·cases lo with
  | none=>rfl
  | some v=>exact Kh v n 0
 ·cases hi with
  | none=>rfl
  | some v=>exact Kh v n n
def IC(i j:Nat):Builtin.Slice.slicePlaces (i:Int) (j:Int) 1=j-i:=by
 unfold Builtin.Slice.slicePlaces;have h1:(1:Int)>0:=()
 dsimp[h1,dD,Int.ediv_one];split<;>lia
def BL{v:af}{Q:bi->aC->Prop}(p:IsPart v o)(h:Q o s):wpAny (model prog w) A (Builtin.Slice.slicePartIndex v) Q E s:=by
 cases p with
 | none=>exact slicePart_none h
 | int i t=>exact slicePart_int h
def yX{lo:bi}{n:Nat}{Q:Int×Int×Nat->aC->Prop}(hs:s.heap.IsSliceOf sl vl vu .none)(pl:IsPart vl lo)(J:IsPart vu hi)
  (h:Q (((pI n 0 lo:Nat):Int),1,pI n n hi-pI n 0 lo) s):wpAny (model prog w) A (Builtin.Slice.sliceApplied (.ref sl)<|pure (n:Int)) Q E s:=by
 obtain⟨os,d,g,f⟩:=id hs;unfold Builtin.Slice.sliceApplied Builtin.Slice.sliceFields;refine aG<|aG<|dX d f (x:=vl) rfl<|aG<|dX d f (x:=vu) rfl<|aG<|dX d f (x:=.none) rfl<|aL ?_;refine aG (slicePart_none ?_)
 skip
 rw[aM ⋯];refine aG<|BL pl<|aG<|BL J<|aG<|aL ?_;show wpAny _ _ (match Builtin.Slice.sliceAdjust lo hi 1 (n:Int)with|(lo,hi)=>pure (lo,(1:Int),Builtin.Slice.slicePlaces lo hi 1)) _ _ s;rw[HB lo hi n];show wpAny _ _ (pure (((pI n 0 lo:Nat):Int),(1:Int),Builtin.Slice.slicePlaces ((pI n 0 lo:Nat):Int) ((pI n n hi:Nat):Int) 1)) _ _ s;rw[IC];exact aL h
def RY(xs:Array af)(i k:Nat):((List.range k).filterMap λ(m:Nat)=>xs[((i:Int)+(m:Int) * 1).toNat]?).toArray=((xs.toList.drop i).take k).toArray:=by
 have e:(λ(m:Nat)=>xs[((i:Int)+(m:Int) * 1).toNat]?)=λm=>xs[i+m]?:=by
  funext m
  have:((i:Int)+(m:Int) * 1).toNat=i+m:=()
  rw[this]
 rw[e];have:=pick_run xs i k;rw[List.filterMap_map]at this;have e2:((λx=>xs[x]?) ∘ λx=>i+x)=λm=>xs[i+m]?:=rfl;rw[e2]at this;rw[this]
def yd{t:ak}{J:Array af}{lo:bi}{Q:af->aC->Prop}(U:IsTup s.heap t J)(hs:s.heap.IsSliceOf sl vl vu .none)(pl:IsPart vl lo)(Z:IsPart vu hi)
  (hw:¬(pI J.size 0 lo=0/\pI J.size J.size hi=J.size))
  (h:Q (.ref s.heap.objs.size) { s with heap:=s.heap.push { cls:=.type "tuple",data:=.seq ((J.toList.drop<|pI J.size 0 lo).take<|pI J.size J.size hi-pI J.size 0 lo).toArray }})
  (hsz:J.size<=sizeLine):wpAny (model prog w) A (getItem (.ref t)<|.ref sl) Q E s:=by
 have d:sizeOk (.seq ((J.toList.drop<|pI J.size 0 lo).take<|pI J.size J.size hi-pI J.size 0 lo).toArray):=by
  show((J.toList.drop<|pI J.size 0 lo).take<|pI J.size J.size hi-pI J.size 0 lo).toArray.size<=sizeLine;rw[bf,bN,c8,cJ];omega
 have C:pI J.size J.size hi<=J.size:=Zs _ _ (aP _) hi;obtain⟨os,f,g,p⟩:=id hs;have j:s.TypeIs (.ref sl) "slice" := ⟨os,f,g⟩;unfold getItem
 try with_reducible refine cH ?_
 first|refine aG (aL ?_)|skip
 refine aG<|wpAny_sequenceKey U.typeIs ⋯ ?_;refine aG (dH (name:=Str.ofString "__getitem__") U.typeIs fM
  (cD fM U.typeIs entry_tuple_getitem ?_<|args_tuple_getitem _ _))
 show wpAny _ _ (Builtin.Tuple.tupleItemsOf (.ref t) >>= _) _ _ s;refine aG<|tupleItemsOf_ U ?_;refine aG<|jl j ?_;rw[aO ⋯];refine aG<|yX hs pl Z ?_;have k:¬((((pI J.size 0 lo:Nat):Int) == 0 && (1:Int) == 1 && (pI J.size J.size hi-pI J.size 0 lo) == J.size)=true):=by
  intro q;rw[bZ,bZ]at q;have B:((pI J.size 0 lo:Nat):Int)=0:=eq_of_beq q.1.1;have G:pI J.size J.size hi-pI J.size 0 lo=J.size:=eq_of_beq q.2;exact hw ⟨by omega,by omega⟩
 show wpAny _ _ (if (((pI J.size 0 lo:Nat):Int) == 0 && (1:Int) == 1 && (pI J.size J.size hi-pI J.size 0 lo) == J.size)=true then _ else _) _ _ s;rw[aM k,RY]
 first
  | exact aG (m:=Builtin.Tuple.tupleExact _) (bY (aL ⟨_,rfl,aL h⟩) d)
  | exact aG (m:=Builtin.Tuple.tupleExact _) (bY (aG<|aL<|aL ⟨_,rfl,aL h⟩) d)
  | exact aG (aG (m:=Builtin.Tuple.tupleExact _)<|bY (aL<|aL ⟨_,rfl,aL h⟩) d)
  | exact aG<|aG (m:=Builtin.Tuple.tupleExact _)<|bY (aL ⟨_,rfl,aL h⟩) d
end
end HT
namespace L2
open PySem PySem.Spec PyProof.Rows
meta abbrev TO:=St->Hp->(bi->Hp->Prop)->Prop
abbrev PO (X:Cx)(e:Option aE)(t:TO):Prop:=
 ∀(ai:bp) (s:aC) (σ:St) (H:Hp) (Q:bi->Hp->Prop),Inv X ai σ H s->t σ H Q ->
  wpAny (model X.prog X.w) X.A (evalPart e X.env) (λu s'=>∃o H',Inv X ai σ H' s'/\IsPart u o/\Q o H') X.xe s
abbrev abK (t:TE):TO:=λσ H Q=>t σ H λx H1=>∃i,x=.int i/\Q (some i) H1
def intsAre_of{ns:ag}:∀{us:ba},Vals (ns.map V.int) us->IntsAre us ns:=by
 induction ns with
 | nil=>intro us r;rw[iC]at r;cases r;exact .nil
 | cons n ns d=>
  intro us r;rw[bL]at r
  cases r with
  | cons r1 r2=>
   obtain⟨t,e⟩:=r1;subst e;exact .cons n t<|d r2
section
variable {X:Cx}{e:aE}{te:TE}{lo hi:Option aE}{tl th:TO}{pos p2:Pos}
def Wa(h:PE X e te):PO X (some e) (abK te):=by
 intro ai s σ H Q I hw;rw[evalPart_some];refine mR (h ai s σ H _ I hw) λu g ⟨x,H1,f,r1,d⟩=>?_;obtain⟨i,rfl,q⟩:=d;obtain⟨t,rfl⟩:=r1;exact⟨some i,H1,f,.int i t,q⟩
abbrev SlR (X:Cx)(r:V->bi->bi->Hp->VK->Prop):Prop:=
 ∀(ai:bp) (s:aC) (σ:St) (H:Hp) (x:V) (v g f:af) (lo hi:bi) (d:ak) (Q:VK),Inv X ai σ H s->RelV x v->s.heap.IsSliceOf d g f .none->IsPart g lo->IsPart f hi->r x lo hi H Q ->
  ∃T id,typeLookup (.type T) "__getitem__" = pure (some<|.builtin id)/\s.TypeIs v T/\wpAny (model X.prog X.w) X.A (getItem v<|.ref d) (EP X ai σ Q) X.xe s
abbrev tSl (r:V->bi->bi->Hp->VK->Prop)(te:TE)(tl th:TO):TE:=λσ H Q=>te σ H λx H1=>tl σ H1 λl H2=>th σ H2 λu H3=>r x l u H3 Q
def OV{r:V->bi->bi->Hp->VK->Prop}(U:SlR X r)(Z:PE X e te)(hl:PO X lo tl)(hu:PO X hi th):PE X (.Subscript e (.Slice lo hi none p2) pos) (tSl r te tl th):=by
 kt_k;refine Subscript_<|mR (Z ai s σ H _ I h) λv p ⟨x,H1,C,r1,k⟩=>?_;refine wpAny_Slice<|mR (hl ai p σ H1 _ C k) λf K ⟨l,H2,B,pl,m⟩=>mR (hu ai K σ H2 _ B m) λg d ⟨u,H3,G,J,j⟩=>?_;rw[evalPart_none];refine aL ?_;have L:Inv X ai σ H3 { d with heap:=d.heap.push { cls:=.type "slice",data:=.fields #[f,g,.none]}}:=G.kept (t':=d.toks) λb M q=>aN _ q;obtain⟨T,id,hT,ht,hg⟩:=U ai { d with heap:=d.heap.push { cls:=.type "slice",data:=.fields #[f,g,.none]}} σ H3 x v f g l u d.heap.objs.size Q L r1 (Heap.IsSliceOf.new ..) pl J j
 skip
 exact tail_any (ops:=[.ref d.heap.objs.size,v]) ht hT hg<|by with_unfolding_all rfl
abbrev Ge (xs:List V)(lo hi:bi):List V:=(xs.drop<|HT.pI xs.length 0 lo).take<|HT.pI xs.length xs.length hi-HT.pI xs.length 0 lo
def zq(xs:List V)(lo hi:bi):(Ge xs lo hi).length<=xs.length:=by
 unfold Ge;rw[bN,c8]
 lia
abbrev adv (K:au):V->bi->bi->Hp->VK->Prop:=λx lo hi H Q=>∃a xs,x=.ref a/\qu K H a xs /\
 ¬(HT.pI xs.length 0 lo=0/\HT.pI xs.length xs.length hi=xs.length)/\∀p,H p=none->Q (.ref p) (upd H p<|.tup<|Ge xs lo hi)
def Yz:SlR X (adv X.K):=by
 intro ai s σ H x v p C lo hi B Q I rx hs pl m h;obtain⟨a,xs,rfl,k,hw,q⟩:=h
 cases rx
 obtain⟨f,r,g,j⟩:=I.tuple k;have d:f.toArray.size=xs.length:=by rw[bf];exact r.length.symm
 refine⟨"tuple",_,fM.lookup,g.typeIs,?_⟩;refine HT.yd g hs pl m (by rw[d];exact hw) ?_ (by rw[d];exact j);rw[d];refine⟨.ref s.heap.objs.size,_,I.laid (t':=s.toks) (o:=.tup<|Ge xs lo hi) (λb G q=>aN _ q) (aP _) ?_,rfl,q _<|I.hok.fresh<|aP _⟩;exact⟨bI (zq xs lo hi) j,_,(r.drop<|HT.pI xs.length 0 lo).take<|HT.pI xs.length xs.length hi-HT.pI xs.length 0 lo,qJ.new _ _⟩
abbrev abC (K:au):R2:=λx y H Q=>∃a b xs ys,x=.ref a/\y=.ref b/\qu K H a xs/\qu K H b ys/\xs≠[]/\xs.length+ys.length<=sizeLine /\
 (ys=[]->Q (.ref a) H)/\(ys≠[]->∀p,H p=none->Q (.ref p) (upd H p<|.tup<|xs++ys))
def Vals.Ef(r:Vals xs us):us=[] ↔ xs=[]:=by
 cases r with
 | nil=>simp
 | cons _ _=>simp
def UZ:qx X (binaryOp .Add) (abC X.K):=by
 gn_on;obtain⟨a,b,xs,ys,rfl,rfl,ha,hb,k,d,g,m⟩:=h
 cases rx
 cases ry
 obtain⟨j,r1,p1,_⟩:=I.tuple ha;obtain⟨f,r2,p2,_⟩:=I.tuple hb;refine HT.Vk p1 p2 (λz=>k<|r1.Ef.mp z) (λz=>⟨.ref a,H,I,rfl,g<|r2.Ef.mp z⟩) (λz=>?_) (by rw[<- r1.length,<- r2.length];exact d);refine⟨.ref s.heap.objs.size,_,I.laid (t':=s.toks) (o:=.tup<|xs++ys) (λb p q=>aN _ q) (aP _) ?_,rfl,m (λw=>z<|r2.Ef.mpr w) _<|I.hok.fresh<|aP _⟩;exact⟨by rw[aV];exact d,_,r1.append r2,qJ.new _ _⟩
end
abbrev B9 (n:Nat)(i:Int):bo:=if 0<=i then(if i<n then some i.toNat else none)else if -(n:Int)<=i then some (i+n).toNat else none
abbrev rF {α:Type}(xs:List α)(i:Int):Option α:=(B9 xs.length i).bind λj=>xs[j]?
def KP{n:Nat}{i:Int}(h:B9 n i=some j):seqIndex? i n=some j/\j<n/\-(n:Int)<=i/\i<n:=by
 unfold B9 at h;by_cases h0:0<=i
 ·rw[aO h0]at h;by_cases h1:i<n
  ·rw[aO h1]at h;have e:i.toNat=j:=bB h;exact⟨by rw[seqIndex_of h0 h1,e],(),(),h1⟩
  ·rw[aM h1]at h;cases h
 ·rw[aM h0]at h;by_cases h1:-(n:Int)<=i
  ·rw[aO h1]at h;have e:(i+n).toNat=j:=bB h;exact⟨by rw[seqIndex_neg () h1,e],(),h1,()⟩
  ·rw[aM h1]at h;cases h
def EM{α:Type}{xs:List α}{i:Int}{v:α}(h:rF xs i=some v):∃j,seqIndex? i xs.length=some j/\xs[j]?=some v/\j<xs.length/\-(xs.length:Int)<=i/\i<xs.length:=by
 unfold rF at h
 cases e:B9 xs.length i with
 | none=>rw[e]at h;cases h
 | some j=>
  rw[e]at h;obtain⟨h1,h2,h3,d⟩:=KP e;exact⟨j,h1,h,h2,h3,d⟩
def Wl{α:Type}{xs:List α}{j:Nat}{v:α}(h:xs[j]?=some v):rF xs (j:Int)=some v:=by
 have d:j<xs.length:=(aJ.mp h).1;have e:B9 xs.length (j:Int)=some j:=by
  unfold B9;rw[aO (),aO ()];simp
 unfold rF;rw[e];exact h
abbrev Aj (b:aE):Prop:=∀o i,subscripted b false o i=operate [o,i] (getItem o i)
abbrev Xi (X:Cx)(r:R2):Prop:=
 ∀(f d:aE) (ai:bp) (s:aC) (σ:St) (H:Hp) (x y:V) (v u:af) (Q:VK),Inv X ai σ H s->RelV x v->RelV y u->r x y H Q ->
  subscripted d false v u=operate [v,u] (getItem v u)->wpAny (model X.prog X.w) X.A (subscriptTail f d v u) (EP X ai σ Q) X.xe s
abbrev Ot (X:Cx)(id:String)(r:V->List V->Hp->VK->Prop):Prop:=
 ∀(ai:bp) (s:aC) (σ:St) (H:Hp) (x:V) (xs:List V) (v:af) (us:ba) (Q:VK),Inv X ai σ H s->RelV x v->Vals xs us->r x xs H Q ->
  wpAny (model X.prog X.w) X.A (call (.builtin id) (v::us)) (EP X ai σ Q) X.xe s
section
variable {X:Cx}{a b:aE}{ta tb:TE}{pos:Pos}
def Qq{r:R2}(J:Xi X r)(ha:PE X a ta)(hb:PE X b tb)(hs:Aj b):PE X (.Subscript a b pos) (tOp r ta tb):=by
 kt_k;exact Subscript_<|ZD ha hb I h λv u f x y H2 d rx ry q=>J a b ai f σ H2 x y v u Q d rx ry q<|hs _ _
abbrev ady (K:au):R2:=λx y H Q=>∃p xs i v,x=.ref p/\y=.int i/\qX K H p xs/\rF xs i=some v/\Q v H
abbrev adf (K:au):R2:=λx y H Q=>∃p xs i v,x=.ref p/\y=.int i/\qu K H p xs/\rF xs i=some v/\Q v H
abbrev adj:R2:=λx y H Q=>∃z i c,x=.str z/\y=.int i/\z.length<=sizeLine/\rF z.cps.toList i=some c/\Q (.str ⟨#[c]⟩) H
def Lx:Xi X (ady X.K):=by
 intro g d ai s σ H x y v u Q I rx ry h hs;obtain⟨p,xs,i,z,rfl,rfl,C,J,q⟩:=h
 cases rx
 obtain⟨t,rfl⟩:=ry;obtain⟨f,r,pl,N⟩:=I.list C;obtain⟨j,h1,h2,h3,L,M⟩:=EM J;obtain⟨w,B,m⟩:=r.get h2;have G:=r.length;have hn:=xm;have fin:EP X ai σ Q w s:=⟨z,H,I,m,q⟩;by_cases h0:0<=i
 ·have k:i.toNat=j:=by
   rw[seqIndex_of h0 M]at h1;exact bB h1
  exact item_listR pl.isList h0 () (by rw[k];simpa using B) fin hs
 ·have k:(i+(f.toArray.size:Int)).toNat=j:=by
   rw[seqIndex_neg () L]at h1;rw[bf,<- G];exact bB h1
  exact subscriptTail_builtinR (x:=w) pl.isList.typeIs slot_list_getitem.lookup
   (wpAny_getItem_list_neg (Q:=λr s'=>r=w/\EP X ai σ Q r s') pl.isList () (by rw[bf]<;>lia) () (by rw[k];simpa using B) ⟨rfl,fin⟩) hs
def Zj:Xi X (adf X.K):=by
 intro f d ai s σ H x y v u Q I rx ry h hs;obtain⟨p,xs,i,z,rfl,rfl,k,G,q⟩:=h
 cases rx
 obtain⟨t,rfl⟩:=ry;obtain⟨B,r,pl,J⟩:=I.tuple k;obtain⟨j,h1,h2,h3,L,M⟩:=EM G;obtain⟨w,m,g⟩:=r.get h2;have C:=r.length;have hn:=xm;have fin:EP X ai σ Q w s:=⟨z,H,I,g,q⟩;exact subscriptTail_builtinR (x:=w) pl.typeIs slot_tuple_getitem.lookup
  (getItem_tuple (j:=j) (Q:=λr s'=>r=w/\EP X ai σ Q r s') pl () () (by rw[bf,<- C];exact h1) (by simpa using m) ⟨rfl,fin⟩) hs
def aak:Xi X adj:=by
 intro f d ai s σ H x y v u Q I rx ry h hs;obtain⟨z,i,c,rfl,rfl,B,k,q⟩:=h;ksr_p;obtain⟨C,rfl⟩:=ry;obtain⟨j,h1,h2,h3,m,p⟩:=EM k;have g:z.cps.toList.length=z.length:=by simp[Str.length]
 rw[g]at h1 m p;have hn:=xm;exact tail_any (typeIs_str s z t) slot_str_getitem.lookup (getItem_str (c:=c) (by
  have e1:decide (i < -(2 ^ 63:Int))=false:=bw ();have e2:decide (i>=2 ^ 63)=false:=bw ();rw[e1,e2,Bool.or_false]) (by rw[h1];simpa using h2) ⟨.str ⟨#[c]⟩,H,I.tok _,⟨_,rfl⟩,q⟩) hs
def IU(its:ba)(n j:Nat)(u:af):Obj.mapSeq (·.setIfInBounds j u) { cls:=.type "list",data:=.seq its.toArray n }={ cls:=.type "list",data:=.seq (its.set j u).toArray n }:=by
 simp[Obj.mapSeq]
def Inv.lst{H:Hp}{s:aC}{p:ak}{xs:List V}(I:Inv X ai σ H s)(h:H p=some (.lst xs)) :
  ∃(its:ba) (n:Nat),Vals xs its/\s.heap.get? p=some { cls:=.type "list",data:=.seq its.toArray n }/\xs.length<=sizeLine:=by
 obtain⟨z,its,n,r,e⟩:=I.hok p _ h;exact⟨its,n,r,e,z⟩
def Inv.Y_{H:Hp}{s:aC}{p:ak}{ys:List V}{its its':ba}{n:Nat}{f:Obj->Obj}(I:Inv X ai σ H s)(h:H p=some (.lst xs))
  (J:s.heap.get? p=some { cls:=.type "list",data:=.seq its.toArray n }) (hf:f { cls:=.type "list",data:=.seq its.toArray n }={ cls:=.type "list",data:=.seq its'.toArray n' }) (r:Vals ys its') (U:ys.length<=sizeLine) (t:Nat) :
  Inv X ai σ (upd H p<|.lst ys) { s with heap:=s.heap.update p f,toks:=t }:=by
 have e:(s.heap.update p f).get? p=some { cls:=.type "list",data:=.seq its'.toArray n' }:=by
  rw[gq f J<|by rw[hf]<;>rfl,hf]
 refine I.write (x:=p) (e:=p) (by rw[h];trivial) (.inl rfl) (λb u hb q=>(fZ _ _<|Ne.symm hb).trans q) ⟨_,e⟩ ?_;exact⟨U,its',n',r,e⟩
abbrev aaW:V->V->V->Hp->(Hp->Prop)->Prop:=λo i v H Q=>∃p xs k j,o=.ref p/\i=.int k/\H p=some (.lst xs)/\B9 xs.length k=some j/\Q (upd H p<|.lst<|xs.set j v)
def set_list:HJ X aaW:=by
 intro ai s σ H o i v N iv u Q I G L K h;obtain⟨p,xs,k,j,rfl,rfl,hp,M,q⟩:=h
 cases G
 obtain⟨t,rfl⟩:=L;obtain⟨d,n,r,m,J⟩:=I.lst hp;obtain⟨h1,h2,h3,C⟩:=KP M;have g:=r.length;have hn:=xm;have B:Inv X ai σ (upd H p<|.lst<|xs.set j v) { s with heap:=s.heap.update p<|Obj.mapSeq (·.setIfInBounds j u)}:=
  I.Y_ hp m (IU d n j u) (r.set K j) (by rw[bW];exact J) s.toks
 by_cases h0:0<=k
 ·have f:k.toNat=j:=by
   rw[seqIndex_of h0 C]at h1;exact bB h1
  exact PySem.W.ki_setAt m h0 () (by rw[bf,<- g];exact C)<|by rw[f];exact⟨_,B,q⟩
 ·have f:(k+(d.toArray.size:Int)).toNat=j:=by
   rw[seqIndex_neg () h3]at h1;rw[bf,<- g];exact bB h1
  exact PySem.W.ki_setBack m () (by rw[bf,<- g];exact h3) ()<|by rw[f];exact⟨_,B,q⟩
def EL(lo hi:bi)(n:Nat):(sliceBounds lo hi none n).1=((HT.pI n 0 lo:Nat):Int)/\(sliceBounds lo hi none n).2.1=((HT.pI n n hi:Nat):Int)/\(sliceBounds lo hi none n).2.2=1:=by
 refine⟨?_,?_,rfl⟩
 ·cases lo with
  | none=>simp[sliceBounds,HT.pI]
  | some i=>
   dsimp[sliceBounds,HT.pI,getD_none,show(1:Int)>0 by decide,dD];by_cases h:i<0
   ·dsimp[h,dD]<;>lia
   ·dsimp[h,cQ]<;>lia
 ·cases hi with
  | none=>simp[sliceBounds,HT.pI]
  | some i=>
   dsimp[sliceBounds,HT.pI,getD_none,show(1:Int)>0 by decide,dD];by_cases h:i<0
   ·dsimp[h,dD]<;>lia
   ·dsimp[h,cQ]<;>lia
def Ce(its:ba)(lo hi:bi):slicePick its.toArray lo hi none=((its.drop<|HT.pI its.length 0 lo).take<|HT.pI its.length its.length hi-HT.pI its.length 0 lo).toArray:=by
 obtain⟨h1,h2,h3⟩:=EL lo hi its.toArray.size;unfold slicePick;rw[h1,h2,h3];dsimp[sliceRange_one,pick_run,bf]<;>rfl
abbrev adx (K:au):V->bi->bi->Hp->VK->Prop:=λx lo hi H Q=>∃a xs,x=.ref a/\qX K H a xs/\∀p,H p=none->Q (.ref p) (upd H p<|.lst<|Ge xs lo hi)
def J9:SlR X (adx X.K):=by
 intro ai s σ H x v p C lo hi B Q I rx hs pl m h;obtain⟨a,xs,rfl,k,q⟩:=h
 cases rx
 obtain⟨j,r,f,g⟩:=I.list k;have d:=r.length;refine⟨"list",_,slot_list_getitem.lookup,f.isList.typeIs,?_⟩;refine wpAny_getItem_list_slice f.isList hs pl m .none (by simp) ?_ (by rw[bf]<;>lia);rw[Ce,<- d];refine⟨.ref s.heap.objs.size,_,I.laid (t':=s.toks) (o:=.lst<|Ge xs lo hi) (λb G q=>aN _ q) (aP _) ?_,rfl,q _<|I.hok.fresh<|aP _⟩;exact⟨bI (zq xs lo hi) g,_,0,(r.drop<|HT.pI xs.length 0 lo).take<|HT.pI xs.length xs.length hi-HT.pI xs.length 0 lo,bu _ rfl⟩
abbrev wO:V->Bool
 | .non=>true
 | .bl _=>true
 | .int _=>true
 | .str _=>true
 | _=>false
abbrev Ua:V->V->Bool
 | .non,.non=>true
 | .bl a,.bl b=>a == b
 | .bl a,.int b=>(if a then 1 else 0) == b
 | .int a,.bl b=>a == (if b then 1 else 0)
 | .int a,.int b=>a == b
 | .str a,.str b=>a == b
 | _,_=>false
def aaH{A:aA}{x:V}{v:af}(ry:RelV y u)(rx:RelV x v)(U:wO y=true)(J:wO x=true):SeqAt.EqAt A s u v (Ua y x):=by
 cases y with
 | non=>
  cases ry
  cases x with
  | non=>cases rx;exact SeqAt.EqAt.same _
  | bl b=>cases rx;exact SeqAt.EqAt.none_bool b
  | int b=>obtain⟨t,rfl⟩:=rx;exact SeqAt.EqAt.none_int b t
  | str b=>obtain⟨t,rfl⟩:=rx;exact SeqAt.EqAt.none_str b t
  | _=>exact absurd (show false=true from J) br
 | bl a=>
  cases ry
  cases x with
  | non=>cases rx;exact SeqAt.EqAt.bool_none a
  | bl b=>cases rx;exact SeqAt.EqAt.bool_bool a b
  | int b=>obtain⟨t,rfl⟩:=rx;exact SeqAt.EqAt.bool_int a b t
  | str b=>obtain⟨t,rfl⟩:=rx;exact SeqAt.EqAt.bool_str a b t
  | _=>exact absurd (show false=true from J) br
 | int a=>
  obtain⟨d,rfl⟩:=ry
  cases x with
  | non=>cases rx;exact SeqAt.EqAt.int_none a d
  | bl b=>cases rx;exact SeqAt.EqAt.int_bool a d b
  | int b=>obtain⟨t,rfl⟩:=rx;exact SeqAt.EqAt.int_int a d b t
  | str b=>obtain⟨t,rfl⟩:=rx;exact SeqAt.EqAt.int_str a d b t
  | _=>exact absurd (show false=true from J) br
 | str a=>
  obtain⟨d,rfl⟩:=ry
  cases x with
  | non=>cases rx;exact SeqAt.EqAt.str_none a d
  | bl b=>cases rx;exact SeqAt.EqAt.str_bool a d b
  | int b=>obtain⟨t,rfl⟩:=rx;exact SeqAt.EqAt.str_int a d b t
  | str b=>obtain⟨t,rfl⟩:=rx;exact SeqAt.EqAt.str_str a d b t
  | _=>exact absurd (show false=true from J) br
 | _=>exact absurd (show false=true from U) br
abbrev U7 (x:V)(u:af):Bool:=match u with
 | .none=>Ua .non x
 | .bool b=>Ua (.bl b) x
 | .int i _=>Ua (.int i) x
 | .str z _=>Ua (.str z) x
 | _=>false
def SM{x:V}(r:RelV y u)(f:wO y=true):U7 x u=Ua y x:=by
 cases y with
 | non=>cases r;rfl
 | bl b=>cases r;rfl
 | int i=>obtain⟨t,rfl⟩:=r;rfl
 | str z=>obtain⟨t,rfl⟩:=r;rfl
 | _=>exact absurd (show false=true from f) br
theorem Du{x:V}:∀{xs:List V}{us:ba},Vals xs us->xs.all wO=true->us.any (U7 x)=xs.any λy=>Ua y x
 | _,_,.nil,_=>rfl
 | y::xs,u::us,.cons r t,f=>by
  rw[iX,bZ]at f;rw[iY,iY,SM r f.1,Du t f.2]
theorem By{A:aA}{x:V}{v:af}(rx:RelV x v)(J:wO x=true):∀{xs:List V}{us:ba},Vals xs us->xs.all wO=true->∀u∈us,SeqAt.EqAt A s u v (U7 x u)
 | _,_,.nil,_=>λu d=>by cases d
 | y::xs,u::us,.cons r t,f=>λg d=>by
  rw[iX,bZ]at f
  rcases bG.mp d with rfl|d
  ·rw[SM r f.1];exact aaH r rx f.1 J
  ·exact By rx J t f.2 g d
abbrev inV (x:V)(xs:List V):Bool:=xs.any λy=>Ua y x
abbrev rIn (K:au)(J:Bool):R2:=λx y H Q=>∃p xs,y=.ref p/\(qX K H p xs\/qu K H p xs)/\wO x=true/\xs.all wO=true/\Q (.bl<|if J then !inV x xs else inV x xs) H
def ME:qx X (compareOp .In) (rIn X.K false):=by
 gn_on;obtain⟨p,xs,rfl,f,g,fs,q⟩:=h
 cases ry
 rcases f with f|f
 ·obtain⟨d,r,pl,j⟩:=I.list f;refine SeqAt.in_listAt (U7 x) pl.isList (λw hw=>By rx g r fs w<|by simpa using hw) ⟨.bl _,H,I,rfl,?_⟩;rw[show d.toArray.any (U7 x)=d.any (U7 x)by simp,Du r fs];exact q
 ·obtain⟨d,r,pl,j⟩:=I.tuple f;refine SeqAt.in_tupleAt (U7 x) pl (λw hw=>By rx g r fs w<|by simpa using hw) ⟨.bl _,H,I,rfl,?_⟩;rw[show d.toArray.any (U7 x)=d.any (U7 x)by simp,Du r fs];exact q
def ug:kR X (.type "list") (λxs H Q=>∃p ys,xs=[.ref p]/\(qX X.K H p ys\/qu X.K H p ys)/\∀l,H l=none->Q (.ref l) (upd H l<|.lst ys)):=by
 w_up;obtain⟨p,ys,rfl,j,q⟩:=h;kj_on
 cases rx
 have fin:∀(d:ba),Vals ys d->ys.length<=sizeLine->∀(h':aq) (f:Nat),(∀b o',s.heap.get? b=some o'->h'.get? b=some o') ->
   h'.get? s.heap.objs.size=some { cls:=.type "list",dict:=none,data:=.seq d.toArray f,slots:=#[]}->EP X ai σ Q (.ref s.heap.objs.size) { s with heap:=h' }:=λd g k h' f kp e=>
  ⟨.ref s.heap.objs.size,_,I.laid (t':=s.toks) kp (aP _)<|show mz X.prog X.w _ h' _ (.lst ys)from⟨k,d,f,g,e⟩,rfl,q _<|I.hok.fresh<|aP _⟩
 rcases j with j|j
 ·obtain⟨d,g,pl,k⟩:=I.list j;have m:=g.length;obtain⟨o,C,hc,n,B⟩:=pl.isList;exact call_list_seq p (.inl rfl) C hc B (λh' f kp e=>fin d g k h' f kp e) (by dsimp[bf]<;>lia)
 ·obtain⟨d,g,pl,k⟩:=I.tuple j;have m:=g.length;obtain⟨o,C,hc,n,B⟩:=pl;exact call_list_seq p (.inr rfl) C hc B (λh' f kp e=>fin d g k h' f kp e)<|by dsimp[bf]<;>lia
def sY:kR X (.type "tuple") (λxs H Q=>∃p ys,xs=[.ref p]/\((qX X.K H p ys/\∀l,H l=none->Q (.ref l) (upd H l<|.tup ys))\/(qu X.K H p ys/\Q (.ref p) H))):=by
 w_up;obtain⟨p,ys,rfl,h⟩:=h;kj_on
 cases rx
 rcases h with⟨f,q⟩|⟨f,q⟩
 ·obtain⟨d,g,pl,j⟩:=I.list f;have k:=g.length;refine call_tuple_list pl.isList (λh' kp=>?_) (by dsimp[bf]<;>lia);have m:Inv X ai σ H { s with heap:=h' }:=I.kept (t':=s.toks) kp;have B:Inv X ai σ (upd H h'.objs.size<|.tup ys) { s with heap:=h'.push { cls:=.type "tuple",data:=.seq d.toArray }}:=
   m.laid (t':=s.toks) (λb o e=>aN _ e) (aP _) (show mz X.prog X.w _ _ _ (.tup ys)from⟨j,d,g,qJ.new _ _⟩)
  exact⟨.ref h'.objs.size,_,B,rfl,q _<|m.hok.fresh<|aP _⟩
 ·obtain⟨d,g,pl,j⟩:=I.tuple f;exact call_tuple_same pl ⟨.ref p,H,I,rfl,q⟩
abbrev tyV (K:au)(T:String)(x:V)(H:Hp):Prop:=match x with
 | .str _=>T = "str"
 | .int _=>T = "int"
 | .ref p=>(T = "list" /\ ∃xs,qX K H p xs)\/(T = "tuple" /\ ∃o,K.lookup p=some o/\o.cls=.type "tuple" /\ o.dict=none) \/
   (T = "dict" /\ ((∃d,H p=some (.dK d))\/∃d,H p=some (.dT d)))\/(T = "set" /\ ∃S n,H p=some (.set S n))
 | _=>False
def N4{H:Hp}{s:aC}{x:V}{v:af}(I:Inv X ai σ H s)(r:RelV x v)(ty:tyV X.K T x H) :
  s.TypeIs v T/\∀a,v=.ref a->∃ob,s.heap.get? a=some ob/\ob.dict=none:=by
 cases x with
 | str z=>
  obtain⟨t,rfl⟩:=r
  cases(show T = "str" from ty)
  exact⟨typeIs_str s z t,nofun⟩
 | int i=>
  obtain⟨t,rfl⟩:=r
  cases(show T = "int" from ty)
  exact⟨typeIs_int s i t,nofun⟩
 | ref p=>
  cases r
  rcases ty with⟨rfl,xs,j⟩|⟨rfl,o,d,hc,g⟩|⟨rfl,d⟩|⟨rfl,S,n,d⟩
  ·obtain⟨k,_,pl,_⟩:=I.list j;refine⟨pl.isList.typeIs,λa e=>?_⟩
   cases e
   obtain⟨o,n,e,c,g,_⟩:=pl;exact⟨o,e,g⟩
  ·refine⟨⟨o,I.AH p o d,hc⟩,λa e=>?_⟩
   cases e
   exact⟨o,I.AH _ o d,g⟩
  ·have z:∃o,s.heap.get? p=some o/\o.ExactDict:=by
    rcases d with⟨f,d⟩|⟨f,d⟩
    ·obtain⟨_,_,_,_,o,_,_,e,ex,_⟩:=I.hok p _ d;exact⟨o,e,ex⟩
    ·obtain⟨_,_,_,_,o,_,_,e,ex,_⟩:=I.hok p _ d;exact⟨o,e,ex⟩
   obtain⟨o,e,ex⟩:=z;refine⟨⟨o,e,ex.1⟩,λa e2=>?_⟩
   cases e2
   exact⟨o,e,ex.2.1⟩
  ·obtain⟨o,_,_,_,e,ex,_⟩:=I.hok p _ d;refine⟨⟨o,e,ex.1⟩,λa e2=>?_⟩
   cases e2
   exact⟨o,e,ex.2.1⟩
 | _=>exact False.elim ty
abbrev ad2 (K:au)(T:String)(r:V->List V->Hp->VK->Prop)(to:TE):TE:=λσ H Q=>to σ H λx H1=>tyV K T x H1/\r x [] H1 Q
abbrev tBM (K:au)(T:String)(r:V->List V->Hp->VK->Prop)(to:TE)(t:TA):TE:=λσ H Q=>to σ H λx H1=>tyV K T x H1/\t σ H1 λxs H2=>r x xs H2 Q
variable {o e:aE}{es:List aE}{to:TE}{t:TA}{name:Str}{apos cpos:Pos}{T id:String}{r:V->List V->Hp->VK->Prop}
def YG(pa:PlainAttrs T)(slot:Slot T name id)(Z:typeOf (.builtin id)=pure (.type "method_descriptor"))(hm:Ot X id r)(ho:PE X o to)
  (J:attributeBase o name X.env (eval o X.env)=eval o X.env<|>ε) (U:(apos.endLine == cpos.line)=true<|>ε):PE X (.Call (.Attribute o name apos) [] [] cpos) (ad2 X.K T r to):=by
 kt_k;refine wpAny_Call_method0_late J U<|mR (ho ai s σ H _ I h) λv f ⟨x,H1,d,r1,ty,g⟩=>?_;obtain⟨h1,h2⟩:=N4 d r1 ty;exact⟨T,id,pa,slot,Z,h1,h2,iD rfl<|PySem.evalArgs_none<|hm ai f σ H1 x [] v [] Q d r1 .nil g⟩
def Pc(pa:PlainAttrs T)(slot:Slot T name id)(hty:typeOf (.builtin id)=pure (.type "method_descriptor"))(hm:Ot X id r)(ho:PE X o to)(ha:PA X (e::es) t)
  (U:attributeBase o name X.env (eval o X.env)=eval o X.env<|>ε)
  (hfew:(((backTo cpos<|starEach (e::es) X.env).all (λx=>!x.1) && (backToKw cpos<|keywordEach [] X.env).all (λx=>x.1.isSome)
   && decide ((e::es).length+([]:List Keyword).length+(if ([]:List Keyword).isEmpty then 0 else 1)<30))=true)<|>ε)
  (Z:(apos.endLine == cpos.line)=true<|>ε) (hs:starEach (e::es) X.env=(false,eval e X.env)::starEach es X.env<|>ε) (J:((backTo cpos<|starEach es X.env).any (·.1)=false)<|>ε) :
  PE X (.Call (.Attribute o name apos) (e::es) [] cpos) (tBM X.K T r to t):=by
 kt_k;refine wpAny_Call_method_late U hfew Z rfl<|mR (ho ai s σ H _ I h) λv g ⟨x,H1,f,r1,ty,k⟩=>?_;obtain⟨h1,h2⟩:=N4 f r1 ty;refine⟨T,id,pa,slot,hty,h1,h2,?_⟩;have d:=ha cpos ai g σ H1 _ f k;rw[hs]at d ⊢;refine iD (by show(false || (backTo cpos<|starEach es X.env).any (·.1))=false;rw[J]<;>rfl)<|Calls.evalArgs_plain ?_;exact mR d λus p ⟨vs,H2,m,r2,j⟩=>hm ai p σ H2 x vs v us Q m r1 r2 j
end
abbrev MtM (X:Cx)(id:String)(r:V->List V->Hp->VK->Prop):Prop:=
 ∀(ai:bp) (s:aC) (σ:St) (H:Hp) (x:V) (xs:List V) (v:af) (us:ba) (Q:VK),Inv X ai σ H s->RelV x v->Vals xs us->r x xs H Q ->
  wpAny (model X.prog X.w) X.A (call (.builtin id) (v::us)) (EP X ai σ Q) X.xe s
def Vals.one:∀{x:V}{us:ba},Vals [x] us->∃u,us=[u]/\RelV x u
 | _,_,.cons r .nil=>⟨_,rfl,r⟩
def Vals.zero:∀{us:ba},Vals [] us->us=[]
 | _,.nil=>rfl
def Vals.dropLast{xs:List V}{us:ba}(h:Vals xs us):Vals xs.dropLast us.dropLast:=by
 induction h with
 | nil=>exact .nil
 | cons r t d=>
  cases t with
  | nil=>exact .nil
  | cons q f=>exact .cons r d
theorem Vals.eraseIdx:∀{xs:List V}{us:ba}(i:Nat),Vals xs us->Vals (xs.eraseIdx i) (us.eraseIdx i)
 | _,_,_,.nil=>.nil
 | _,_,0,.cons _ t=>t
 | _,_,i+1,.cons r t=>.cons r<|Vals.eraseIdx i t
theorem Vals.rep(h:Vals xs us):∀k:Nat,Vals (List.replicate k xs).flatten (List.replicate k us).flatten
 | 0=>.nil
 | k+1=>by
  rw[dg,dg,d7,d7];exact Vals.append h<|Vals.rep h k
def HU{α:Type}(l:List α):l.eraseIdx (l.length-1)=l.dropLast:=by
 induction l with
 | nil=>rfl
 | cons a r d=>
  cases r with
  | nil=>rfl
  | cons b r=>
   have e:(a::b::r).length-1=((b::r).length-1)+1:=by
    have h1:(a::b::r).length=r.length+2:=rfl;have h2:(b::r).length=r.length+1:=rfl
    lia
   rw[e,List.eraseIdx_cons_succ,d]
   all_goals rfl
theorem CU{α:Type}:∀(l:List α) (i:Nat),(l.eraseIdx i).length<=l.length
 | [],_=>aP _
 | _::_,0=>Nat.le_succ _
 | _::r,i+1=>Nat.succ_le_succ<|CU r i
theorem foldl_rep(its:ba):∀(k:Nat) (acc:ba),
  List.foldl (λx1 x2=>x1++x2) acc.toArray (List.replicate k its.toArray)=(acc++(List.replicate k its).flatten).toArray
 | 0,acc=>by simp
 | k+1,acc=>by
  have e:acc.toArray++its.toArray=(acc++its).toArray:=by simp
  have e2:(acc++its)++(List.replicate k its).flatten=acc++(List.replicate (k+1) its).flatten:=by
   rw[dg,d7,bT]
  rw[<- e2,<- foldl_rep its k (acc++its),<- e,dg,e_]
section
variable {X:Cx}{ai:bp}{σ:St}{H:Hp}{s:aC}{l:ak}{xs ys:List V}
def Inv.Yw{its its':ba}{n:Nat}{f:Array af->Array af}{t':Nat}(I:Inv X ai σ H s)(J:H l=some (.lst xs))
  (e:s.heap.get? l=some { cls:=.type "list",data:=.seq its.toArray n }) (hf:f its.toArray=its'.toArray) (hv:Vals ys its') (U:ys.length<=sizeLine) :
  Inv X ai σ (upd H l<|.lst ys) { s with heap:=s.heap.update l<|Obj.mapSeq f,toks:=t' }:=by
 have q:=PySem.IsL.update e f;rw[hf]at q;refine I.write (x:=l) (e:=l) (by rw[J];exact trivial) (.inl rfl) (λg u hb d=>(fZ s.heap (Obj.mapSeq f)<|Ne.symm hb).trans d) ⟨_,q⟩ ?_;exact⟨U,its',_,hv,q⟩
def Inv.Ww{its:ba}{t':Nat}(I:Inv X ai σ H s)(hv:Vals ys its)(J:ys.length<=sizeLine) :
  Inv X ai σ (upd H s.heap.objs.size<|.lst ys) { s with heap:=s.heap.push { cls:=.type "list",data:=.seq its.toArray },toks:=t' }:=
 I.laid (λ_ _ q=>aN _ q) (aP _) ⟨J,its,0,hv,bu _ rfl⟩
def Inv.fresh(I:Inv X ai σ H s):H s.heap.objs.size=none:=I.hok.fresh<|aP _
def Inv.Nk(I:Inv X ai σ H s)(J:H l=some (.lst xs)):xs.length<=sizeLine/\∃(its:ba) (n:Nat),Vals xs its/\xs.length=its.length/\s.heap.get? l=some { cls:=.type "list",data:=.seq its.toArray n }:=by
 obtain⟨z,its,n,r,e⟩:=I.hok l _ J;exact⟨z,its,n,r,r.length,e⟩
def P4{n:Nat}(h:n<=sizeLine):Builtin.List.listTooLong n=false:=by
 unfold Builtin.List.listTooLong;exact bw ()
end
section
variable {X:Cx}
abbrev Wo:V->List V->Hp->VK->Prop:=λx vs H Q=>∃l xs y,x=.ref l/\vs=[y]/\H l=some (.lst xs)/\xs.length<sizeLine/\Q .non (upd H l<|.lst<|xs++[y])
theorem y_:MtM X "list.append" Wo:=by
 intro ai s σ H x vs v us Q I rx g h;obtain⟨l,xs,y,rfl,rfl,f,k,q⟩:=h
 cases rx
 obtain⟨u,rfl,j⟩:=g.one;obtain⟨z,d,n,r,m,e⟩:=I.Nk f;refine jm F.slot_list_append ⟨_,e,rfl⟩ F.entry_list_append (F.args_list_append_2 _ _) (PySem.list_append l d.toArray n u<|by rw[bf];lia) ⟨e,?_⟩;refine⟨.non,_,I.Yw (its':=d++[u]) f e (by simp) (r.append<|.cons j .nil) ?_,rfl,q⟩;rw[aV,iQ]
 lia
abbrev ad1:V->List V->Hp->VK->Prop:=λx vs H Q=>∃l xs y,x=.ref l/\vs=[]/\H l=some (.lst xs)/\xs[xs.length-1]?=some y/\Q y (upd H l<|.lst xs.dropLast)
def aaD:MtM X "list.pop" ad1:=by
 intro ai s σ H x vs v us Q I rx k h;obtain⟨l,xs,y,rfl,rfl,j,hy,q⟩:=h
 cases rx
 have f:=k.zero;subst f;obtain⟨z,d,n,r,p,e⟩:=I.Nk j;obtain⟨u,B,m⟩:=r.get hy;have g:d.toArray[d.toArray.size-1]?=some u:=by
  show d.toArray[d.length-1]?=some u;rw[<- dm,<- p];exact B
 refine jm F.slot_list_pop ⟨_,e,rfl⟩ F.entry_list_pop (F.args_list_pop_1 _) (MeetsSeq.list_pop_last l d.toArray n u g<|by rw[bf];lia) ⟨e,?_⟩;refine⟨y,_,I.Yw (its':=d.dropLast) j e ?_ r.dropLast ?_,m,q⟩
 ·skip
  rw[bf,fN,HU]
 ·rw[List.length_dropLast]
  lia
abbrev X8:V->List V->Hp->VK->Prop:=λx vs H Q=>∃l xs i k y,x=.ref l/\vs=[.int i]/\H l=some (.lst xs)/\-(2 ^ 63)<=i/\i<2 ^ 63/\seqIndex? i xs.length=some k/\xs[k]?=some y/\Q y (upd H l<|.lst<|xs.eraseIdx k)
def SY:MtM X "list.pop" X8:=by
 intro ai s σ H x vs v us Q I rx m h;obtain⟨l,xs,i,k,y,rfl,rfl,g,h1,h2,j,hy,q⟩:=h
 cases rx
 obtain⟨u,rfl,p⟩:=m.one;obtain⟨t,rfl⟩:=p;obtain⟨z,d,n,r,B,e⟩:=I.Nk g;obtain⟨w,hw,f⟩:=r.get hy;refine jm F.slot_list_pop ⟨_,e,rfl⟩ F.entry_list_pop (F.args_list_pop_2 _ _)
  (MeetsSeq.list_pop_at l d.toArray n i t k w (fitsIndex_both h1 h2) (by rw[bf,<- B];exact j) (by rw[<- dm];exact hw)<|by rw[bf];lia) ⟨e,?_⟩
 refine⟨y,_,I.Yw (its':=d.eraseIdx k) g e ?_ (r.eraseIdx k) ?_,f,q⟩
 ·skip
  rw[fN]
 ·have:=CU xs k
  lia
abbrev adg:R2:=λx y H Q=>∃l b xs zs,x=.ref l/\y=.ref b/\H l=some (.lst xs)/\H b=some (.lst zs)/\xs.length+zs.length<=sizeLine/\∀p,H p=none->Q (.ref p) (upd H p<|.lst<|xs++zs)
def Zp:qx X (binaryOp .Add) adg:=by
 gn_on;obtain⟨l,b,xs,zs,rfl,rfl,m,k,B,q⟩:=h
 cases rx
 cases ry
 obtain⟨z,f,n,r,G,e⟩:=I.Nk m;obtain⟨C,d,p,r2,g,e2⟩:=I.Nk k;refine PySem.P.add_list e e2 ?_ (by rw[bf,bf];lia);have j:f.toArray++d.toArray=(f++d).toArray:=by simp
 rw[j];exact⟨.ref _,_,I.Ww (t':=s.toks) (r.append r2)<|by rw[aV];lia,rfl,q _ I.fresh⟩
abbrev adA:R2:=λx y H Q=>∃l k xs,x=.ref l/\y=.int k/\H l=some (.lst xs)/\-(2 ^ 63)<=k/\k<2 ^ 63/\xs.length * k.toNat<=sizeLine /\
 ∀p,H p=none->Q (.ref p) (upd H p<|.lst (List.replicate k.toNat xs).flatten)
def len_rep{α:Type}(xs:List α)(k:Nat):(List.replicate k xs).flatten.length=k * xs.length:=by
 induction k with
 | zero=>simp
 | succ k d=>rw[dg,d7,aV,d,f6,Nat.add_comm]
def YF:qx X (binaryOp .Mult) adA:=by
 gn_on;obtain⟨l,k,xs,rfl,rfl,L,h1,h2,J,q⟩:=h
 cases rx
 obtain⟨t,rfl⟩:=ry;obtain⟨z,d,n,r,K,e⟩:=I.Nk L;have p:d.toArray.size * k.toNat<=sizeLine:=by rw[bf,<- K];exact J
 have g:¬d.toArray.size * k.toNat>(2 ^ 63-1) / 8:=by
  have:(sizeLine:Nat)<=(2 ^ 63-1) / 8:=by decide
  omega
 have B:¬(!Builtin.List.listFitsIndex k)=true:=by
  rw[fitsIndex_both h1 h2];exact br
 have f:¬Builtin.List.listTooLong (d.toArray.size * k.toNat)=true:=by
  rw[P4 p];exact br
 have j:List.foldl (λC G=>C++G) #[] (List.replicate (if d.toArray.isEmpty=true then 0 else k.toNat) d.toArray)=(List.replicate k.toNat d).flatten.toArray:=by
  have f0:∀m:Nat,List.foldl (λC G=>C++G) #[] (List.replicate m d.toArray)=(List.replicate m d).flatten.toArray:=λm=>by
   have:=foldl_rep d m [];rw[List.nil_append]at this;exact this
  rw[f0]
  cases d with
  | nil=>simp
  | cons a M=>rw[aM<|by simp]
 refine wpAny_binaryOp_repeat_ref (T := "list") (U := "int") ⋯ ⟨_,e,rfl⟩ (λs'=>typeIs_int s' k t) noFill_list_mul F.fills_int_mul F.slot_int_rmul repeat_list F.slot_int_index.lookup
  (jm F.slot_int_rmul (typeIs_int s k t) F.entry_int_rmul (F.args_int_rmul_2 _ _) (int___rmul___int_list k t l d.toArray n)
   ⟨e,rfl,⟨_,e,rfl⟩,jm F.slot_list_mul ⟨_,e,rfl⟩ F.entry_list_mul (F.args_list_mul_2 _ _) (AutoListH.list___mul___list_int_3 l d.toArray n k t B g f) ⟨e,?_⟩⟩)
 rw[j];exact⟨.ref _,_,I.Ww (t':=s.toks) (r.rep k.toNat)<|by rw[len_rep,mul_comm];exact J,rfl,q _ I.fresh⟩
end
end L2
namespace Att
open PySem PySem.W PySem.Calls PyProof.Rows
def zB{P:Params}:∀(ns:ag) (vs:ba),WellAll P h vs (ns.map WData.int)->IntsAre vs ns:=by
 intro ns
 induction ns with
 | nil=>
  intro vs w;rw[iC]at w
  cases w
  exact .nil
 | cons n ns d=>
  intro vs w;rw[bL]at w
  cases w with
  | cons a b=>
   cases a
   exact .cons _ _<|d _ b
def MD{l:OpenLaw}{n:Nat}(hn:l.most=some n){P:Params}{h:aq}
  (J:l.row.toRowW.claim.pre args=true) (U:WellAll P h vals args) :
  ∃a vs ns,vals=[Value.ref a]/\args=[WData.list<|ns.map WData.int]/\h.get? a=some { cls:=.type "list",data:=.seq vs.toArray }/\IntsAre vs ns/\ns.length<=n:=by
 have m:WShape.hasAll [] args [.list .int]=true:=(pre_splitW J).1;have hc:l.pre.holds [] { args:=args }=true:=(pre_splitW J).2;obtain⟨d,r,rfl,h1,h2⟩:=hasAllW_cons m;obtain rfl:=hasAllW_nil h2;obtain⟨xs,rfl,h3⟩:=hasW_list h1;obtain⟨ns,rfl⟩:=items_int h3;have g:ns.length<=n:=by
  unfold OpenLaw.pre at hc;have j:(WTm.not<|.lt (.lit<|.int (n:Int))<|.len<|.arg 0).holds [] { args:=[.list<|ns.map .int]}=true:=by
   have j:=(holds_andW hc).1;rw[hn]at j;exact j
  have k:=condW_of j<|w_not<|w_lt w_lit<|w_len_list<|w_arg rfl;rw[aK]at k;refine Nat.le_of_not_lt λq=>?_;have q':(n:Int)<((ns.length:Nat):Int):=by omega
  first
   | (rw[aX q']at k;exact absurd k ⋯)
   | (simp at k;omega)
 cases U with
 | cons p B=>
  cases B
  cases p with
  | list C f=>exact⟨_,_,ns,rfl,rfl,C,zB ns _ f,g⟩
def M8(l:OpenLaw)(args:List WData):l.row.toRowW.claim.post args (.bool true) args=true:=
 postW_of (r:=l.row.toRowW) (X:=(true == true))
  (show WShape.has [] (.bool true) .bool=true by first|rfl|decide|simp[WShape.has,WShape.arms,WShape.armsAll])
  (show(WTm.eq .res<|.lit<|.bool true).value [] { args:=args,res:=some<|.bool true,after:=args }=some (.bool<|true == true)from w_eq_bool (w_res rfl) w_lit) rfl
def F1{l:OpenLaw}{n:Nat}{q:aj}{XP:(Str->bd)->aq->Prop}{YP:ah->aq->Prop}{d:DefRec}
  (hn:l.most=some n) (Z:d.params.defaults=[])
  (call:∀(w:ah) (s₀ s₁:aC) (mg mb:Str->bd) (fa:ak) (o:Obj) (pm cd doc:af) (a:ak) (vs:ba) (ns:ag),
   Ground q loose [] XP w s₀ mg mb s₁.heap->YP w s₁.heap ->
   s₁.heap.get? fa=some o->o.data=.func (docDef d.name d.params d.body d.scope pm cd doc)->s₁.heap.CodeRec cd d.name->mg d.name=some (.ref fa) ->
   s₁.heap.get? a=some { cls:=.type "list",data:=.seq vs.toArray }->IntsAre vs ns->ns.length<=n->s₁.gens=#[] ->
   codeAny (model l.prog w) callerA (.call (.ref fa) ⟨[.ref a],[]⟩) (λr s'=>r=.ok (.ret<|.bool true)/\OldK s₁.heap s'.heap/\s'.os=s₁.os/\AllBare s'.gens) s₁) :
  WalkO q loose XP YP l.row.toRowW d [] (λf vs=>PySem.call f vs):=by
 intro w s₀ s₁ mg mb G Y fa o pm cd doc P kV W U hcd J p hg K C as m L T B N;obtain rfl:P=.none:=Dflts.none J Z;obtain rfl:kV=.none:=Dflts.noKw J;obtain⟨a,vs,ns,rfl,rfl,k,g,j⟩:=MD hn m B;refine enter_call<|iz (call w s₀ s₁ mg mb fa o pm cd doc a vs ns G Y W (fd_plain U) hcd p k g j hg) λr s' M=>?_;obtain⟨rfl,h2,h3,V⟩:=M;exact⟨.inl ⟨.bool true,.bool true,[],rfl,λ_=>rfl,.bool true,M8 l _,λ_=>⟨List.Pairwise.nil,λ_ O=>(nomatch O)⟩⟩,h2,h3,V⟩
end Att
namespace L2
open PySem PySem.Spec PyProof.Rows
theorem yL:∀{vs:ba}{ns:ag},IntsAre vs ns->Vals (ns.map V.int) vs
 | _,_,.nil=>.nil
 | _,_,.cons n t h=>.cons ⟨t,rfl⟩<|yL h
abbrev Vi (H:Hp):Prop:=∀b,H b=none\/∃o xs,H b=some (.frz o<|.lst xs)
def Rp{P:aj}{w:ah}{K:au}{mg mb:Str->bd}{CX:Si}{k:Nat}{fa a:ak}{fd:FuncData}{x:Str}{sp:Sp}{s₁:aC}{vs:ba}{ns:ag}
  (KX:K.In s₁.heap) (hns:s₁.heap.Ns mainGlobals mg) (hb:s₁.heap.Ns builtinsNs mb) (hbb:∀x:Str,x ≠ "__name__" -> mb x=bootBuiltins x) (hlim:s₁.heap.NoLimit) (hg:s₁.gens=#[])
  (ha:s₁.heap.get? a=some { cls:=.type "list",data:=.seq vs.toArray }) (hi:IntsAre vs ns) (hl:ns.length<=sizeLine) (hr:Room k callerA)
  (F:∀base:aq,K.In base->base.Ns mainGlobals mg->FnOk P w K mg base CX k fa fd [x] sp) (hbind:∀(s:aC) (u:af),BindsTo s fd ⟨[u],[]⟩ [(x,u)])
  (hsp:∀H:Hp,Vi H->qX K H a (ns.map V.int)->sp [.ref a] H (λv _=>v=.bl true) λ_ _ _=>False)
  (hCX:∀H e s',CX [] H s₁ (λ_ _ _=>False) e s'->False) :
  codeAny (model P w) callerA (.call (.ref fa) ⟨[.ref a],[]⟩) (λr s'=>r=.ok (.ret<|.bool true)/\OldK s₁.heap s'.heap/\s'.os=s₁.os/\AllBare s'.gens) s₁:=by
 have U:=yL hi;have G:=hi.length;have j:∀H:Hp,Vi H->qX K H a (ns.map V.int)->wC P w H s₁.heap->(∀b,H b≠none->b=a)->(H a≠none->K.lookup a=none) ->
   codeAny (model P w) callerA (.call (.ref fa) ⟨[.ref a],[]⟩) (λr s'=>r=.ok (.ret<|.bool true)/\OldK s₁.heap s'.heap/\s'.os=s₁.os/\AllBare s'.gens) s₁:=by
  intro H T hS L W hK;have f:∀{b:ak} {o:Obj},s₁.heap.get? b=some o->H b=none->(D_ s₁.heap H).get? b=some o:=λe n=>Sl e n;have O:∀{b:ak} {o:Obj} {es:Array DictEntry} {ep:Nat},s₁.heap.get? b=some o->o.data=.dict es ep->H b=none:=λ{b o es ep} e d=>by
   cases q:H b with
   | none=>rfl
   | some u=>
    have N:b=a:=W b (by rw[q];simp);subst N;rw[ha]at e;cases e;have Y:Data.seq vs.toArray _=Data.dict es ep:=d
    cases Y
  have g:∀{b:ak} {m:Str->bd},s₁.heap.Ns b m->(D_ s₁.heap H).Ns b m:=λ{b m} ⟨o,es,ep,e,d,r⟩=>⟨o,es,ep,f e<|O e d,d,r⟩;have p:K.In (D_ s₁.heap H):=λb o e=>f (KX b o e) (by
   cases q:H b with
   | none=>rfl
   | some u=>
    have N:b=a:=W b (by rw[q];simp);subst N;rw[hK<|by rw[q];simp]at e;cases e)
  have hM:Mod K mg (D_ s₁.heap H):=⟨p,g hns,⟨mb,g hb,hbb⟩,let⟨mc,h1,h2⟩:=hlim;⟨mc,g h1,h2⟩⟩;have e0:Env0 P w K mg (D_ s₁.heap H) callerA [] s₁ H:=⟨rfl,hM,λb o e=>VO e,Nat.le_of_eq<|Ni _ _,trivial,λb hb=>absurd (show b∈([]:bb)from hb)<|by simp,L,.of_eq hg⟩;refine iz ((F _ p<|g hns).run callerA [] s₁ H ⟨[.ref a],[]⟩ [.ref a] [.ref a] _ _ hr e0 (hbind s₁<|.ref a) (.cons rfl .nil)<|hsp H T hS) λr s' h=>?_
  cases r with
  | error e=>exact(hCX H e s' h).elim
  | ok fl=>
   cases fl with
   | next=>exact False.elim h
   | brk=>exact False.elim h
   | cont=>exact False.elim h
   | ret u=>
    obtain⟨v,H',os,C,un,J,r',q⟩:=h;have q':v=.bl true:=q;subst q';obtain rfl:u=Value.bool true:=r';refine⟨rfl,OldK.of_keep λb o e=>?_,os,C⟩
    cases q:H b with
    | none=>exact un.keep b o e q (by intro z;exact absurd (show b∈([]:bb)from z)<|by simp) (by simp)
    | some u=>
     rcases T b with z|⟨ob,xs,z⟩
     ·rw[q]at z;cases z
     ·have Z:=un.frzs b ob _ z;obtain⟨e1,_⟩:=L b _ z;obtain⟨e2,_⟩:=J b _ Z;rw[e]at e1;cases e1;exact e2
 cases M:K.lookup a with
 | some o=>
  have e:=KX a o M;rw[ha]at e
  cases e
  refine j (λ_=>none) (λ_=>.inl rfl) (.inr ⟨_,vs.toArray,_,M,rfl,rfl,rfl,by rw[bf,G];exact hl,by simpa using U⟩) (λb u z=>by have B:(none:Option HO)=some u:=z;cases B) (λb z=>absurd rfl z) λz=>absurd rfl z
 | none=>
  refine j (λb=>if b=a then some (.frz { cls:=.type "list",data:=.seq vs.toArray } (.lst<|ns.map V.int))else none) (λb=>?_) (.inl<|.inr ⟨{ cls:=.type "list",data:=.seq vs.toArray },aO rfl⟩) (λb u z=>?_) (λb z=>?_) λ_=>M
  ·by_cases hb:b=a
   ·exact .inr ⟨_,_,aO hb⟩
   ·exact .inl<|aM hb
  ·by_cases hb:b=a
   ·have B:=(aO hb).symm.trans z
    cases B
    subst hb;exact⟨ha,by rw[aK];exact hl,vs,_,U,ha⟩
   ·have B:=(aM hb).symm.trans z
    cases B
  ·by_cases hb:b=a
   ·exact hb
   ·exact absurd (aM hb) z
def Wk{l:PySem.W.OpenLaw}{n k:Nat}{q:aj}{XP:(Str->bd)->aq->Prop}{YP:ah->aq->Prop}{d:DefRec}{K:Params->au}{CX:ah->Si}{sp:ah->Sp}{x:Str}
  (hn:l.most=some n) (Z:n<=sizeLine) (hdf:d.params.defaults=[]) (hr:Room k callerA)
  (hY:∀(w:ah) (h:aq),YP w h->(K w.params).In h)
  (F:∀(w:ah) (mg:Str->bd) (fa:ak) (h:aq),(K w.params).In h->h.Ns mainGlobals mg->mg d.name=some (.ref fa) ->
   ∃fd:FuncData,(∀(s:aC) (u:af),BindsTo s fd ⟨[u],[]⟩ [(x,u)]) /\
    ∀base:aq,(K w.params).In base->base.Ns mainGlobals mg->FnOk l.prog w (K w.params) mg base (CX w) k fa fd [x] (sp w))
  (hsp:∀(w:ah) (H:Hp) (a:ak) (ns:ag),ns.length<=n->Vi H->qX (K w.params) H a (ns.map V.int)->sp w [.ref a] H (λv _=>v=.bl true) λ_ _ _=>False)
  (hCX:∀(w:ah) (H:Hp) (s:aC) (e:af) (s':aC),CX w [] H s (λ_ _ _=>False) e s'->False) :
  PySem.W.WalkO q loose XP YP l.row.toRowW d [] (λf vs=>PySem.call f vs):=by
 refine Att.F1 hn hdf λw L p mg O fa o pm cd doc a vs ns G Y U P hcd C B m j hg=>?_;have J:=hY w _ Y;obtain⟨fd,hb,N⟩:=F w mg fa _ J G.T.g C;exact Rp J G.T.g G.T.b G.T.builtins G.T.nolimit hg B m (bI j Z) hr N hb (λH M hS=>hsp w H a ns j M hS) λH e s'=>hCX w H p e s'
abbrev wz (s:aF):Arguments:=match s with
 | .FunctionDef _ a _ _ _ _ _ _ _ _=>a
 | _=>{ posonlyargs:=[],args:=[],vararg:=none,kwonlyargs:=[],kw_defaults:=[],kwarg:=none,defaults:=[]}
abbrev oW (s:aF):List aF:=match s with
 | .FunctionDef _ _ b _ _ _ _ _ _ _=>b
 | _=>[]
abbrev j_ (s:aF):Scope:=match s with
 | .FunctionDef _ _ _ _ _ _ d _ _ _=>d
 | _=>{ kind:=.function,names:=[],isGenerator:=false,isCoroutine:=false }
meta abbrev t8:Si:=λ_ _ _ _ _ _=>False
meta abbrev E0:XK:=λ_ _ _=>False
def abj{X:Cx}:Passes t8 X E0:=λ_ _ _ _ _ _ _ h=>h.elim
structure Fun (K:au)(x qual:Str)(st:aF)(f:ak)(fd:FuncData):Prop where
 ex:∃(oc:af) (od:Option ak) (kV doc pm:af) (an:Option ak) (cdv ct:af) (osl:Array<|bd),
  fd=PySem.W.fnOf x qual (wz st) (oW st) (j_ st) .none kV doc pm an cdv ct/\K.lookup f=some ⟨oc,od,.func fd,osl⟩/\PySem.W.codeIn K cdv qual=true
 kp:keepIn K (.ref f)=true
section
variable {P:aj}{w:ah}{K:au}{mg:Str->bd}{base:aq}
def Fun.ok{x:Str}{st:aF}{f:ak}{fd:FuncData}{N ps:ar}{k:Nat}{sp:Sp}(F:Fun K x qual st f fd)(S:FnScope N ps<|j_ st)(len:∀vs H Q E,sp vs H Q E->vs.length=ps.length)
  (J:∀(cdv:af) (A:aA) (outer:List Env) (s:aC) (H:Hp) (vs:List V) (Q:VK) (E:XK),Room k (A.deeper<|envOfC qual (j_ st) s.heap.objs.size f cdv)->sp vs H Q E ->
   ∃t,Cg (ye t8 P w K mg base N qual (j_ st) f cdv A outer s H E).nox (oW st) t/\t { nx:=λ_ H'=>Q .non H',rt:=Q } (start N vs) H):FnOk P w K mg base t8 (k+1) f fd ps sp:=by
 cb_eq;refine W_ lk hcd S len λA outer s H vs Q E g d=>?_;obtain⟨t,h,q⟩:=J cdv A outer s H vs Q E g d;exact⟨t,h.nox,q⟩
def Fun.binds{x:Str}{st:aF}{f:ak}{fd:FuncData}{ps:ar}(F:Fun K x qual st f fd)
  (h:∀(kV doc pm:af) (an:Option ak) (cdv ct:af) (us:ba),us.length=ps.length->bindArgs (PySem.W.fnOf x qual (wz st) (oW st) (j_ st) .none kV doc pm an cdv ct) ⟨us,[]⟩=pure (ps.zip us)):Binds K fd ps []:=by
 cb_eq;exact .all<|h kV doc pm an cdv ct
def Yt{x:Str}{st:aF}{f:ak}{kV pm ct:af}(l:K.lookup f=some ⟨oc,od,.func<|PySem.W.fnOf x qual (wz st) (oW st) (j_ st) .none kV doc pm an cdv ct,osl⟩)
  (c:PySem.W.codeIn K cdv qual=true) (k:keepIn K (.ref f)=true):Fun K x qual st f (PySem.W.fnOf x qual (wz st) (oW st) (j_ st) .none kV doc pm an cdv ct):=⟨⟨oc,od,kV,doc,pm,an,cdv,ct,osl,rfl,l,c⟩,k⟩
end
section
variable {X:Cx}
def pv(i:Nat){x:Str}(J:X.N[i]?=some x<|>ε)(hv:Vis X.env.scope x:=by first|exact Or.inl rfl|exact Or.inr (Or.inl rfl)|exact Or.inr<|Or.inr rfl)(U:(x == ("__debug__" : Str))=false:=by decide)
  (hcd:(x == ("__classdict__" : Str))=false:=by decide):PE X (.Name x pos) (abn i):=Pb J hv U hcd
end
set_option maxHeartbeats 4000000
abbrev Vq (σ:St):bo->Option V
 | some j=>(σ[j]?).getD none
 | none=>none
abbrev zy (env:Env):List (Str×NameKind)->List (Str×ak)->List (Str×ak)
 | [],cs=>cs
 | (n,k)::r,cs=>zy env r (if k == .free then(n,(env.cells.lookup n).getD 0)::cs else cs)
def BQ{scope:Scope}{env:Env}(h:∀y∈scope.names,y.2=.free->∃c,env.cells.lookup y.1=some c):closureFor scope env=pure (zy env scope.names []):=by
 have g:∀(l:List<|Str×NameKind) (cs:List<|Str×ak),(∀y∈l,y.2=.free->∃c,env.cells.lookup y.1=some c) ->
   (forIn l cs (λ(x:Str×NameKind) (r:List<|Str×ak)=>(match x with
    | (name,kind)=>if (kind == NameKind.free)=true then(do let c <- cellOf env name;pure (ForInStep.yield ((name,c)::r)))else pure (ForInStep.yield r):Sem<|ForInStep<|List<|Str×ak)))=(pure (zy env l cs):Sem<|List<|Str×ak):=by
  intro l
  induction l with
  | nil=>intro cs _;rfl
  | cons y r m=>
   intro cs f;obtain⟨n,k⟩:=y;rw[jP];by_cases j:k=.free
   ·subst j;obtain⟨c,hc⟩:=f (n,.free) aR rfl;have e1:cellOf env n=pure c:=by
     unfold cellOf;rw[hc]
    dsimp[b9,dD,e1,pure_bind];rw[m _ λz d=>f z<|aS _ d];dsimp[zy,b9,dD,hc,gD]
   ·have hb:(k == NameKind.free)=false:=by simpa using j
    dsimp[hb,bK,cQ,pure_bind];rw[m _ λz d=>f z<|aS _ d];dsimp[zy,hb,bK,cQ]
 have:=g scope.names [] h;exact(dG (λz=>z >>= λcs=>(pure cs:Sem<|List<|Str×ak)) this).trans (pure_bind _ _)
theorem A_:∀{l:List<|Str×NameKind}{x:Str}{k:NameKind},l.lookup x=some k->(x,k)∈l
 | [],_,_,h=>nomatch h
 | (n,k')::r,x,k,h=>by
  rw[dR]at h
  cases d:x == n with
  | true=>
   rw[d]at h;have e:x=n:=by simpa using d
   subst e
   cases h
   exact aR
  | false=>rw[d]at h;exact aS _<|A_ h
theorem CZ{env:Env}{x:Str}{c:ak}:∀{l:List<|Str×NameKind}{cs:List<|Str×ak},(∀y∈l,y.2=.free->∃c,env.cells.lookup y.1=some c)->(zy env l cs).lookup x=some c->env.cells.lookup x=some c\/cs.lookup x=some c
 | [],cs,_,h=>.inr h
 | (n,k)::r,cs,hl,h=>by
  have h':=CZ (l:=r) (λz g=>hl z<|aS _ g) h
  rcases h' with h'|h'
  ·exact .inl h'
  ·by_cases f:k=.free
   ·subst f;dsimp[b9,dD]at h';obtain⟨j,hc⟩:=hl (n,.free) aR rfl;rw[hc,gD,dR]at h'
    cases d:x == n with
    | true=>
     rw[d]at h';have e:x=n:=by simpa using d
     subst e;left;rw[hc];exact h'
    | false=>rw[d]at h';exact .inr h'
   ·have hb:(k == NameKind.free)=false:=by simpa using f
    dsimp[hb,bK,cQ]at h';exact .inr h'
theorem C8{env:Env}{x:Str}:∀{l:List<|Str×NameKind}{cs:List<|Str×ak},(cs.lookup x).isSome=true->((zy env l cs).lookup x).isSome=true
 | [],cs,h=>h
 | (n,k)::r,cs,h=>by
  skip
  refine C8 (l:=r) ?_;by_cases d:(k == NameKind.free)=true
  ·rw[aO d,dR]
   cases f:x == n with
   | true=>rfl
   | false=>exact h
  ·rw[aM d];exact h
theorem BK{env:Env}{x:Str}:∀{l:List<|Str×NameKind}{cs:List<|Str×ak},(x,NameKind.free)∈l->((zy env l cs).lookup x).isSome=true
 | [],_,h=>nomatch h
 | (n,k)::r,cs,h=>by
  rcases bG.mp h with e|h
  ·cases e
   skip
   refine C8 (l:=r) ?_;rw[aO<|by rfl,dR];simp
  ·exact BK (l:=r) h
abbrev mG (X:Cx)(scope:Scope)(N:ar)(C:ak)(s₀:aC)(H₀:Hp)(ex:bb):Cx where
 prog:=X.prog
 w:=X.w
 K:=X.K
 mg:=X.mg
 base:=X.base
 A:=X.A
 N:=N
 s₀:=s₀
 H₀:=H₀
 env:=compEnvC scope (zy X.env scope.names []) C X.env
 outer:=X.stack
 stack:=X.stack
 ex:=ex
 fn:=λ_=>false
 calm:=X.calm
 pn:=[]
 xe:=λ_ _=>False
structure CpScope (X:Cx)(scope:Scope)(N:ar)(cap:List (bo)):Prop where
 kind:scope.kind=.function
 nocell:∀y∈scope.names,y.2≠.cell
 nm:∀y∈scope.names,y.2=.local->scope.names.lookup y.1=some .local
 fr:∀y∈scope.names,y.2=.free->X.env.kindOf y.1=some .cell\/X.env.kindOf y.1=some .free
 rl:∀y,((relabel scope X.env).names.lookup y=some .cell\/(relabel scope X.env).names.lookup y=some .free)->(y,NameKind.free)∈scope.names
 len:cap.length=N.length
 nolf:∀x,(x,NameKind.free)∈scope.names->scope.names.lookup x≠some .local
 cp:∀(i j:Nat) (x:Str),N[i]?=some x->cap[i]?=some (some j)->X.N[j]?=some x/\(x,NameKind.free)∈scope.names
def Pk{X:Cx}{N:ar}{cap:List<|bo}{H:Hp}{s:aC}{fp:bb}{h₁:aq}{m:Str->bd}{tk:Nat}(S:CpScope X scope N cap)(I:Inv X ai σ H s)
  (hf:∀b∈fp,vc X ai H b) (ho:∀b∈fp,∃o,s.heap.get? b=some o) (hn:h₁.Ns s.heap.objs.size m) (hk:∀b o,s.heap.get? b=some o->h₁.get? b=some o) :
  Inv (mG X scope N s.heap.objs.size s H fp) [] (cap.map<|Vq σ) H { s with heap:=h₁,toks:=tk }:=by
 kpc_g;have lk:∀x c,(zy X.env scope.names []).lookup x=some c->X.env.cells.lookup x=some c:=λx c e=>by
  rcases CZ hfree e with z|z
  ·exact z
  ·cases z
 have lt:∀b o,s.heap.get? b=some o->b≠s.heap.objs.size:=λb o e=>bD<|a_ e;refine⟨⟨I.ok.mod,?_,I.ok.glob,I.ok.blt,aP _,?_,?_,?_,I.ok.hd,I.ok.frames,.inl rfl,?_,I.bs,bI I.ok.bsz I.sz,?_,?_,I.stack,I.zW⟩,rfl,I.bare,Un.kept hk,?_,?_,I.hok.fresh<|aP _,?_,?_,I.hok.kept hk,?_⟩
 ·exact S.kind
 ·intro x y c e1 e2;exact I.ok.inj x y c (lk x c e1) (lk y c e2)
 ·intro x e;have G:=S.rl x e;have:=BK (env:=X.env) (cs:=[]) G;exact fF.mp this
 ·intro x c e _;exact absurd e (by simp[mG])
 ·intro b hb;obtain⟨o,e⟩:=ho b hb;refine⟨lt b o e,λx c e2=>(hf b hb).2.2.2.2.1 x c<|lk x c e2⟩
 ·intro b o e hb;obtain⟨_,_,_,h3,_⟩:=hf b hb
  rcases h3 with z|z
  ·exact I.ok.noex b o e z
  ·exact absurd (bO (a_ (I.ok.bs b o e).1) z)<|eG _
 ·intro b hb T;obtain⟨_,h1,h2,_⟩:=hf b hb
  rcases bG.mp (I.AU b T)with z|z
  ·exact h1 z
  ·exact h2 z
 ·refine⟨m,hn,λi x v e1 e2 e3=>?_⟩;rw[aQ]at e2
  cases hc:cap[i]? with
  | none=>rw[hc]at e2;cases e2
  | some Z=>
   rw[hc]at e2
   cases Z with
   | none=>cases e2
   | some j=>
    have d:(σ[j]?).getD none=some v:=bB e2;obtain⟨hj,G⟩:=S.cp i j x e1 hc;obtain⟨m0,V,M⟩:=I.loc;have P:σ[j]?=some (some v):=by
     cases h:σ[j]? with
     | none=>rw[h]at d;cases d
     | some z=>rw[h,gD]at d;rw[d]
    have B:=S.fr (x,.free) G rfl;have hv:Vis X.env.scope x:=.inr B;obtain⟨u,W,lo⟩:=M j x v hj P hv;refine⟨u,W,?_⟩
    rcases lo with⟨lo,_⟩|⟨_,c,U,Y⟩
    ·rcases B with z|z<;>(rw[z]at lo;cases lo)
    ·have h2:=BK (env:=X.env) (cs:=[]) G;obtain⟨K,q⟩:=fF.mp h2;have:K=c:=bB<|(lk x K q).symm.trans U;subst this;refine .inr ⟨?_,K,q,?_⟩
     ·rcases e3 with z|z|z
      ·exfalso;have:(relabel scope X.env).names.lookup x=some .local:=z;have J:scope.names.lookup x=some .local:=by
        have C:∃k,(x,k)∈(relabel scope X.env).names/\k=.local:=by
         clear q h2;have:=A_ this;exact⟨_,this,rfl⟩
        obtain⟨k,O,rfl⟩:=C;obtain⟨⟨n',k'⟩,L,f⟩:=bC.mp O;dsimp only at f;split at f
        ·cases f
        ·cases f
         exact S.nm (x,.local) L rfl
       exact False.elim<|S.nolf x G J
      ·exact .inl z
      ·exact .inr z
     ·obtain⟨o,g,hd⟩:=Y;exact⟨o,hk _ _ g,hd⟩
 ·intro x c e;obtain⟨v,o,g,hd⟩:=I.cell x c<|lk x c e;exact⟨v,o,hk _ _ g,hd⟩
 ·intro x c e;exact I.freeC x c (lk x c e)
 ·intro p hp
  cases hp
 ·rw[aK,S.len];rfl
abbrev T_ (X:Cx)(ifs:List aE)(t:TT):Prop:=
 ∀(ai:bp) (s:aC) (σ:St) (H:Hp) (Q:Bool->Hp->Prop),Inv X ai σ H s->t σ H Q ->
  wpAny (model X.prog X.w) X.A (forIn ifs true λc r=>if r=true then do let ok <- isTrue c X.env (eval c X.env);pure (ForInStep.yield ok)else pure (ForInStep.yield r)) (TP X ai σ Q) X.xe s
abbrev ad8:TT:=λ_ H Q=>Q true H
def U4{X:Cx}:T_ X [] ad8:=λ_ _ _ H _ I h=>wpAny_tests_nil ⟨H,I,h⟩
def VC{X:Cx}{c:aE}{t:TT}(h:PT X c t):T_ X [c] t:=λai s σ H Q I q=>wpAny_tests_one<|h ai s σ H Q I q
abbrev Zr (cap:List<|bo)(g:TG)(tc:TT)(te:TE)(σ:St)(Q:VK)(J:It)(H1:Hp):Prop:=∀D,H1 D=none ->
 ∃W:Nat->Nat->St->Hp->Prop,(∃m,W 0 m (cap.map<|Vq σ)<|upd H1 D<|.lst [])/\∀i m f H',W i m f H' ->
  (J.stop i H'/\Q (.ref D) H')\/(J.go i H'/\∀x H2,J.yld i H' x H2->g x f H2 λd H3=>tc d H3 λb p=>
   if b=true then te d p λy k=>∃ys,k D=some (.lst ys)/\ys.length<sizeLine/\∃j,j<m/\W (i+1) j d (upd k D<|.lst<|ys++[y])
   else ∃j,j<m/\W (i+1) j d p)
abbrev tLC (cap:List<|bo)(J:TI)(g:TG)(tc:TT)(te:TE):TE:=λσ H Q=>J σ H<|Zr cap g tc te σ Q
def El{α:Type}{t:Sem α}{Q Q':α->aC->Prop}{A:aA}{E:af->aC->Prop}(h:wpAny M A t Q (λ_ _=>False) s)(J:∀a s,Q a s->Q' a s):wpAny M A t Q' E s:=
 c5 h J λ_ _ f=>f.elim
structure TurnG (ok:Cx->Prop)(P:aj)(w:ah)(K:au)(tg:aE)(J:It)(fp:bb)(it:ak)(tn:Nat->aq->Prop):Prop where
 obj:∀i h,tn i h->∀b∈fp,∃o,h.get? b=some o/\∀v,o.data≠.cell v
 keep:∀i h h',tn i h->(∀b∈fp,∀o,h.get? b=some o->h'.get? b=some o)->tn i h'
 item:∀(X:Cx),X.prog=P->X.w=w->X.K=K->ok X->∀(i:Nat) (ai:bp) (s:aC) (σ:St) (H:Hp) (E:af->aC->Prop),Inv X ai σ H s->(∀b∈fp,vc X ai H b)->tn i s.heap->J.go i H ->
  wpAny (model P w) X.A (pyNext<|.ref it) (λr s1=>∃u,r=some u /\
   wpAny (model P w) X.A (letOwnedTupleGo tg (.ref it) u) (λ_ s2=>∃x H',Inv X ai σ H' s2/\RelV x u/\J.yld i H x H'/\tn (i+1) s2.heap/\∀b∈fp,H' b=none) E s1) E s
 done:∀(X:Cx),X.prog=P->X.w=w->X.K=K->ok X->∀(i:Nat) (ai:bp) (s:aC) (σ:St) (H:Hp) (E:af->aC->Prop),Inv X ai σ H s->(∀b∈fp,vc X ai H b)->tn i s.heap->J.stop i H ->
  wpAny (model P w) X.A (pyNext<|.ref it) (λr s1=>r=none/\Inv X ai σ H s1) E s
 self:∀(A:aA) (i:Nat) (s:aC) (Q:af->aC->Prop) (E:af->aC->Prop),tn i s.heap->Q (.ref it) s->wpAny (model P w) A (pyIter<|.ref it) Q E s
abbrev adV (ok:Cx->Prop)(X:Cx)(ai:bp)(σ:St)(tg:aE)(R:It->Hp->Prop)(U:af)(Z:aC):Prop:=
 ∃(it:ak) (fp:bb) (d:Nat->aq->Prop) (J:It) (H':Hp),U=.ref it/\Inv X ai σ H' Z/\TurnG ok X.prog X.w X.K tg J fp it d/\d 0 Z.heap/\(∀b∈fp,vc X ai H' b)/\R J H'
abbrev ZN (ok:Cx->Prop)(X:Cx)(tg iter:aE)(J:TI):Prop:=
 ∀(ai:bp) (s:aC) (σ:St) (H:Hp) (R:It->Hp->Prop),Inv X ai σ H s->J σ H R ->
  wpAny (model X.prog X.w) X.A (eval iter X.env) (λv d=>wpAny (model X.prog X.w) X.A (pyIter v) (adV ok X ai σ tg R) X.xe d) X.xe s
def PI.g{X:Cx}{iter:aE}{U:TI}(h:PI X tg iter U):ZN (λY=>Y.calm=true) X tg iter U:=λai s σ H R I q=>
 mR (h ai s σ H R I q) λv k h1=>mR h1 λf m ⟨it,fp,j,J,H',e,d,T,a,b,c⟩=>⟨it,fp,j,J,H',e,d,⟨T.obj,T.keep,T.item,T.done,T.self⟩,a,b,c⟩
def JP{ok:Cx->Prop}{X:Cx}{use:Option<|af->Sem Unit}{Q':af->aC->Prop}{iter:aE}{N:ar}{wi:TI}{g:TG}{tc:TT}{te:TE}(S:CpScope X scope N cap)(hok:∀C s₀ H₀ ex,(∀a o u,X.H₀ a=some (.frz o u)->H₀ a=some (.frz o u))->ok (mG X scope N C s₀ H₀ ex))(hi:ZN ok X tg iter wi)
  (hg:∀C s₀ H₀ ex,PG (mG X scope N C s₀ H₀ ex) tg g) (ht:∀C s₀ H₀ ex,T_ (mG X scope N C s₀ H₀ ex) ifs tc) (he:∀C s₀ H₀ ex,PE (mG X scope N C s₀ H₀ ex) elt te)
  (hs:(∀x,foldedSetIterable iter X.env x=pure x)<|>η):∀(ai:bp) (s:aC) (σ:St) (H:Hp) (Q:VK),Inv X ai σ H s->tLC cap wi g tc te σ H Q ->
  (∀(s6:aC) (C D:ak) (H5:Hp) (m:Str->bd),s6.heap.Ns C m->vc X ai H5 C->(∀h',Heap.SameBut C s6.heap h'->Inv X ai σ H5 { s6 with heap:=h' })->Q (.ref D) H5->∀v,compPost (model X.prog X.w) X.A X.xe use Q' (.ref D) C (.ok v) s6) ->
  wpAny (model X.prog X.w) X.A (comprehension (.ListComp elt [⟨tg,iter,ifs,0⟩] scope pos) scope X.env (firstIterPos [⟨tg,iter,ifs,0⟩] pos) (newList []) (firstAsync [⟨tg,iter,ifs,0⟩]) (firstIter [⟨tg,iter,ifs,0⟩] X.env) use) Q' X.xe s:=by
 intro ai s σ H Q I h hfin;kpc_g;refine wpAny_comprehension_free (use:=use) rfl hs (BQ hfree) S.kind S.nm<|mR (hi ai s σ H _ I h) λxv s1 h1=>mR h1 λitv f h2=>?_;obtain⟨it,fp,tn,J,H2,rfl,I2,T,st2,f2,h2⟩:=h2;refine bY (wpAny_newFunctionEnv S.nocell (by intro y hy;simp at hy) (λL B k=>?_) S.kind);obtain⟨W,⟨m0,w0⟩,turn⟩:=h2 f.heap.objs.size I2.fresh;dsimp only at B k ⊢;have I3:Inv X ai σ (upd H2 f.heap.objs.size<|.lst []) { f with heap:=f.heap.push {}}:=I2.Ww (t':=f.toks) (its:=[]) .nil<|b7 _;have hfp:∀b∈fp,∃o,f.heap.get? b=some o:=λb hb=>by
  obtain⟨o,e,_⟩:=T.obj 0 _ st2 b hb;exact⟨o,e⟩
 have neD:∀b∈fp,b≠f.heap.objs.size:=λb hb=>by
  obtain⟨o,e⟩:=hfp b hb;exact bD<|a_ e
 have f3:∀b∈fp,vc X ai (upd H2 f.heap.objs.size<|.lst []) b:=λb hb=>⟨by rw[j8<|neD b hb];exact(f2 b hb).1,(f2 b hb).2⟩;have hDC:f.heap.objs.size≠(f.heap.push {}).objs.size:=by rw[dN];exact bD (c9 _)
 have old:∀b o,(f.heap.push {}).get? b=some o->L.get? b=some o:=λb o e=>k.extBut b o (bD<|a_ e)<|aN _ e;have I4:=Pk (tk:=f.toks+([]:List<|Str×af).length) (fp:=fp) S I3 f3 (λb hb=>by
  obtain⟨o,e⟩:=hfp b hb;exact⟨o,aN _ e⟩) B old
 have st4:tn 0 L:=T.keep _ _ _ st2 λb hb o e=>old b o<|aN _ e;have hc:=hok (f.heap.push {}).objs.size { f with heap:=f.heap.push {}} (upd H2 f.heap.objs.size<|.lst []) fp λa o u e=>by
  have z:=I2.base.frzs a o u e;rw[j8 λq=>by rw[q,I2.fresh]at z;cases z];exact z
 have P:∀{H':Hp},(∀b∈fp,H' b=none)->∀b∈fp,vc (mG X scope N (f.heap.push {}).objs.size { f with heap:=f.heap.push {}} (upd H2 f.heap.objs.size<|.lst []) fp) [] H' b:=λhn b hb=>by
  have ok:=I4.ok;refine⟨hn b hb,(ok.exf b hb).1,ok.exfs b hb,.inl hb,λx c e=>(ok.exf b hb).2 x c e,λp hp=>nomatch hp⟩
 have V:∀s4:aC,s4={ f with heap:=L,toks:=f.toks+([]:List<|Str×af).length } ->
   codeAny (model X.prog X.w) X.A (.compLoop (.ListComp elt [⟨tg,iter,ifs,0⟩] scope pos) 0 (.ref it) (.ref f.heap.objs.size)<|compEnvC scope (zy X.env scope.names []) (f.heap.push {}).objs.size X.env)
    (compPost (model X.prog X.w) X.A X.xe use Q' (.ref f.heap.objs.size) (f.heap.push {}).objs.size) s4:=by
  rintro s4 rfl;refine codeAny_loop rfl (λn s'=>∃i M H',Inv (mG X scope N (f.heap.push {}).objs.size { f with heap:=f.heap.push {}} (upd H2 f.heap.objs.size<|.lst []) fp) [] M H' s'/\tn i s'.heap/\(∀b∈fp,H' b=none)/\W i n M H') (λn s5 hI=>?_) m0 ⟨0,_,_,I4,st4,λb hb=>(f3 b hb).1,w0⟩;obtain⟨i,U,H5,I5,st5,fr5,w5⟩:=hI
  skip
  refine wpAny_noted ?_;rw[compTurn_list];refine aG (fC<|aG ?_)
  rcases turn i n U H5 w5 with⟨stop,q⟩|⟨go,step⟩
  ·refine mR (T.done (mG X scope N (f.heap.push {}).objs.size { f with heap:=f.heap.push {}} (upd H2 f.heap.objs.size<|.lst []) fp) rfl rfl rfl hc i [] s5 U H5 _ I5 (P fr5) st5 stop) λr s6 h9=>?_;obtain⟨hr,Z⟩:=h9;subst hr;obtain⟨m6,hn6,_⟩:=Z.loc;refine aL<|hfin s6 _ _ H5 m6 hn6 (I3.Il (aP _) Z.free) (λh' sb=>?_) q _;have u6:=Z.base;have nC:∀b o,(f.heap.push {}).get? b=some o->b≠(f.heap.push {}).objs.size:=λb o e=>bD<|a_ e;refine I3.Qo (ch:=fp) Z.os ⟨λb o e n hb hx=>?_,λb o e n hb hx=>?_,λb o e n hx=>?_,λb o e hx=>?_,u6.tups,u6.frzs,u6.tbls⟩ ?_ Z.bare ?_
   ·exact sb.extBut b o (nC b o e) (u6.keep b o e n hb hx)
   ·obtain⟨sl,z⟩:=u6.slot b o e n hb hx;exact⟨sl,sb.extBut b _ (nC b o e) z⟩
   ·exact u6.free b o e n hx
   ·obtain⟨o',z⟩:=u6.there b o e hx;exact⟨o',sb.extBut b _ (nC b o e) z⟩
   ·intro b o e;have hb:∀c v,H5 c=some v->c≠(f.heap.push {}).objs.size:=λc v e z=>by
     rw[z]at e;have:=Z.free;rw[show H5 (f.heap.push {}).objs.size=none from this]at e
     cases e
    refine(Z.hok b o e).stay (λc v hc q=>sb.extBut c v ?_ q) (λ_ q=>q) λ_ _ q=>q
    rcases hc with z|z
    ·rw[z];exact hb b o e
    ·exact hb c _ z
   ·intro b hb;obtain⟨_,z1,_,z3,z4,z5⟩:=f3 b hb;exact⟨z3,z1,z4,z5⟩
  ·refine mR (T.item (mG X scope N (f.heap.push {}).objs.size { f with heap:=f.heap.push {}} (upd H2 f.heap.objs.size<|.lst []) fp) rfl rfl rfl hc i [] s5 U H5 _ I5 (P fr5) st5 go) λr s6 h9=>?_;obtain⟨u,hr,h6⟩:=h9;subst hr;refine aG<|mR h6 λ_ s7 ⟨x,H7,I7,r7,y7,Y,fr7⟩=>?_;have I7':=I7.pinned (P fr7)<|T.obj _ _ Y;refine aG<|El (hg _ _ _ fp _ s7 U H7 x u _ I7' r7<|step x H7 y7) λ_ s8 ⟨K,H8,I8,q8⟩=>?_;refine aG<|El (ht _ _ _ fp _ s8 K H8 _ I8 q8) λok s9 ⟨H9,I9,q9⟩=>?_;have again:∀{G:aC} {j:Hp},Inv (mG X scope N (f.heap.push {}).objs.size { f with heap:=f.heap.push {}} (upd H2 f.heap.objs.size<|.lst []) fp) ([]++xD fp s7.heap) K j G->(∃m',m'<n/\W (i+1) m' K j) ->
     ∃m,m<n/\∃i M H',Inv (mG X scope N (f.heap.push {}).objs.size { f with heap:=f.heap.push {}} (upd H2 f.heap.objs.size<|.lst []) fp) [] M H' G/\tn i G.heap/\(∀b∈fp,H' b=none)/\W i m M H':=λ{G j} O h9=>by
    obtain⟨m',hm,w10⟩:=h9;refine⟨m',hm,i+1,K,j,O.rG,T.keep _ _ _ Y λb hb o e=>(O.pin (b,o)<|bA _<|bA _<|nu hb e).1,λb hb=>?_,w10⟩;obtain⟨o,e,d⟩:=T.obj _ _ Y b hb;exact(O.pin (b,o)<|bA _<|bA _<|nu hb e).2.1
   cases ok with
   | false=>
    rw[aM br]at q9;exact aL ⟨rfl,again I9 q9⟩
   | true=>
    rw[aO rfl]at q9;refine aG<|aG<|El (he _ _ _ fp _ s9 K H9 _ I9 q9) λy G ⟨v10,j,O,r10,ys,hD,hz,w10⟩=>?_;refine aG<|El (y_ _ G K j (.ref f.heap.objs.size) [v10] _ [y] (λ_ H'=>H'=upd j f.heap.objs.size (.lst<|ys++[v10])) O rfl (.cons r10 .nil) ⟨_,ys,v10,rfl,rfl,hD,hz,rfl⟩) λ_ s11 ⟨_,H11,I11,_,e11⟩=>?_;subst e11;exact aL<|aL ⟨rfl,again I11 w10⟩
 exact codeAny_compStart_list (V _ rfl)<|T.self _ 0 _ _ _ st4<|V _ rfl
def YD{ok:Cx->Prop}{X:Cx}{iter:aE}{N:ar}{U:TI}{g:TG}{tc:TT}{te:TE}(S:CpScope X scope N cap)(J:∀C s₀ H₀ ex,(∀a o u,X.H₀ a=some (.frz o u)->H₀ a=some (.frz o u))->ok (mG X scope N C s₀ H₀ ex))(hi:ZN ok X tg iter U)
  (hg:∀C s₀ H₀ ex,PG (mG X scope N C s₀ H₀ ex) tg g) (Z:∀C s₀ H₀ ex,T_ (mG X scope N C s₀ H₀ ex) ifs tc) (he:∀C s₀ H₀ ex,PE (mG X scope N C s₀ H₀ ex) elt te)
  (hs:(∀x,foldedSetIterable iter X.env x=pure x)<|>η):PE X (.ListComp elt [⟨tg,iter,ifs,0⟩] scope pos) (tLC cap U g tc te):=by
 kt_k;rw[eval_ListComp];exact JP (use:=none) (Q':=EP X ai σ Q) S J hi hg Z he hs ai s σ H Q I h λj C D d m hn k inv q v=>⟨m,hn,λh' f=>⟨.ref D,d,inv h' f,rfl,q⟩⟩
def aa8{X:Cx}{iter:aE}{N:ar}{J:TI}{g:TG}{tc:TT}{te:TE}(hc:X.calm=true)(S:CpScope X scope N cap)(hi:PI X tg iter J)
  (hg:∀C s₀ H₀ ex,PG (mG X scope N C s₀ H₀ ex) tg g) (U:∀C s₀ H₀ ex,T_ (mG X scope N C s₀ H₀ ex) ifs tc) (Z:∀C s₀ H₀ ex,PE (mG X scope N C s₀ H₀ ex) elt te)
  (hs:(∀x,foldedSetIterable iter X.env x=pure x)<|>η):PE X (.ListComp elt [⟨tg,iter,ifs,0⟩] scope pos) (tLC cap J g tc te):=
 YD S (λ_ _ _ _ _=>hc) hi.g hg U Z hs
section
variable {X:Cx}
def Oo{bs:List Bool}:∀{us:ba},Vals (bs.map V.bl) us->LSm.BoolsAre us bs:=by
 induction bs with
 | nil=>intro us r;cases r;exact .nil
 | cons b bs d=>
  intro us r
  cases r with
  | cons h t=>
   have e:_=Value.bool b:=h;subst e;exact .cons b<|d t
def Mq(hc:X.calm=true):kR X (.builtin "any") (λxs H Q=>∃(p:ak) (bs:List Bool),xs=[.ref p]/\qX X.K H p (bs.map V.bl)/\Q (.bl<|bs.any id) H):=by
 w_up;obtain⟨p,bs,rfl,k,q⟩:=h;kj_on
 cases rx
 obtain⟨d,B,pl,G⟩:=I.list k;have hb:=Oo B;have f:=pl.isList;have g:p<s.heap.objs.size:=by obtain⟨_,e,_⟩:=f;exact a_ e
 refine call_any_walk<|jw f ?_;refine⟨s.heap.objs.size,[s.heap.objs.size,p],[s.heap.objs.size],d.toArray.size,_,_,λi=>(bs[i]?).getD false,rfl,Walks.list (A:=X.A.in1) (I.ok.hd hc) _ p (bD g) d.toArray,
  ⟨⟨_,bu _ rfl,rfl,rfl⟩,f.push _⟩,λi v s' L J hP j=>?_,λh' C m=>?_⟩
 ·obtain⟨b,e,rfl⟩:=hb.get i v (by simpa using hP);dsimp[e,gD]at j;exact dZ j
 ·have e:((List.range d.toArray.size).any λi=>(bs[i]?).getD false)=bs.any id:=by
   rw[bf,hb.length];exact LSm.range_any bs
  rw[e];exact⟨.bl _,H,I.kept<|LSm.kept_iter m,rfl,q⟩
def DH:kR X (.builtin "sorted") (λxs H Q=>∃(p:ak) (ns:ag),xs=[.ref p]/\(qX X.K H p (ns.map V.int)\/qu X.K H p (ns.map V.int))/\ns.length<64 /\
  ∀l (ns':ag),H l=none->ns'.Perm ns->ns'.Pairwise (·<=·)->Q (.ref l) (upd H l<|.lst<|ns'.map V.int)):=by
 w_up;obtain⟨p,ns,rfl,k,U,q⟩:=h;kj_on
 cases rx
 have N:∀(d:ba) (T:String) (o:Obj) (n:Nat),(T = "list" \/ T = "tuple")->s.heap.get? p=some o->o.cls=.type T->o.data=.seq d.toArray n->Vals (ns.map V.int) d ->
   wpAny (model X.prog X.w) X.A (call (.builtin "sorted") [.ref p]) (EP X ai σ Q) X.xe s:=by
  intro d T o n Y G f C j;have hI:=intsAre_of j;have B:d.length=ns.length:=by have:=j.length;rw[aK]at this;exact this.symm
  kst_p;unfold Builtin.«sorted»;refine aG (m:=checkCount "sorted" 1 1 _)<|aL ?_;refine aG (wpAny_collect_seq p Y G f C (λh' W=>?_)<|by rw[bf,B,dh];lia);refine aG<|jD ?_;have g:(h'.push<|seqObj "list" d.toArray 0).get? h'.objs.size=some (seqObj "list" d.toArray 0):=bu _ rfl
  skip
  refine aG<|cH<|cD slot_list_sort ⟨_,g,rfl⟩ entry_list_sort (list_sort_tree g hI () λout ns' Z O a3=>⟨_,rfl,?_⟩)<|args_list_sort _;obtain⟨e,he⟩:=sortedHeap_at (out:=out) g;have J:ns'.length=ns.length:=O.length_eq;have P:Inv X ai σ H { s with heap:=h' }:=I.kept (t':=s.toks) W;have old:∀b M,h'.get? b=some M->(sortedHeap (h'.push<|seqObj "list" d.toArray 0) h'.objs.size d out).get? b=some M:=λb M L=>by
   rw[sortedHeap_old (bD<|a_ L)<|by rw[dN];exact fj<|a_ L];exact aN _ L
  refine aL ⟨_,rfl,.ref h'.objs.size,_,P.laid (t':=s.toks) (o:=.lst<|ns'.map V.int) old (aP _) ?_,rfl,q _ ns' (P.hok.fresh<|aP _) O a3⟩;refine⟨by rw[aK,J,dh];lia,out.toList,e,yL Z,?_⟩;rw[he]
 rcases k with k|k
 ·obtain⟨d,j,pl,hz⟩:=I.list k;obtain⟨o,G,f,n,C⟩:=pl.isList;exact N d "list" o n (.inl rfl) G f C j
 ·obtain⟨d,j,pl,hz⟩:=I.tuple k;obtain⟨o,G,f,n,C⟩:=pl;exact N d "tuple" o n (.inr rfl) G f C j
def aaA:qx X (compareOp .Is) (λx y H Q=>∃a b,x=.bl a/\y=.bl b/\Q (.bl<|a == b) H):=by
 gn_on;obtain⟨a,b,rfl,rfl,q⟩:=h
 cases rx;cases ry
 exact is_bool ⟨.bl _,H,I,rfl,q⟩
def DF:kR X (.type "range") (λxs H Q=>∃i j,xs=[.int i,.int j]/\∀p,H p=none->Q (.ref p) (upd H p<|.rng i j)):=by
 w_up;obtain⟨i,j,rfl,q⟩:=h;obtain⟨u,f,rfl,⟨t,rfl⟩,⟨d,rfl⟩⟩:=vals2 r;refine call_range_2 ⟨.ref s.heap.objs.size,_,I.laid (o:=.rng i j) (λb o e=>aN _ e) (aP _) ?_,rfl,q _ I.fresh⟩;exact⟨t,d,s.toks,bu _ rfl⟩
abbrev lE (i j:Int):ag:=(List.range (j-i).toNat).map λk:Nat=>i+(k:Int)
def nR(i j:Int):(lE i j).length=(j-i).toNat:=by unfold lE;rw[aK,cF]
def AZ{i:Int}{n:Nat}{acc:Array af}(h:ItemsOf (λk v=>∃t,v=Value.int (i+(k:Int) * 1) t) acc n):Vals (((List.range n).map λk:Nat=>i+(k:Int)).map V.int) acc.toList:=by
 obtain⟨hs,hv⟩:=h;have d:∀(l:ba) (b:Nat),(∀j v,l[j]?=some v->∃t,v=Value.int (i+((b+j:Nat):Int)) t)->Vals (((List.range' b l.length).map λk:Nat=>i+(k:Int)).map V.int) l:=by
  intro l
  induction l with
  | nil=>intro b _;exact .nil
  | cons v l g=>
   intro b hb;rw[bH,gE,bL,bL];refine .cons ?_ ?_
   ·obtain⟨t,e⟩:=hb 0 v rfl;exact⟨t,by rw[e];simp⟩
   ·refine g (b+1) λj w hw=>?_;obtain⟨t,e⟩:=hb (j+1) w hw;exact⟨t,by rw[e,show b+(j+1)=b+1+j by lia]⟩
 have:=d acc.toList 0 λj v f=>by
  obtain⟨t,e⟩:=hv j v (by simpa using f);exact⟨t,by rw[e,cG,mul_one]⟩
 rw[cJ,hs,<- cu]at this;exact this
def O0{i j:Int}:Builtin.Range.rangeSize i j 1=(((j-i).toNat:Nat):Int):=by rw[rangeSize_one];split<;>omega
def Cj(hc:X.calm=true):kR X (.type "list") (λxs H Q=>∃p i j,xs=[.ref p]/\H p=some (.rng i j)/\(-(2 ^ 62)<=i/\i<2 ^ 62/\-(2 ^ 62)<=j/\j<2 ^ 62)/\(j-i).toNat<=1000/\∀l,H l=none->Q (.ref l) (upd H l<|.lst<|(lE i j).map V.int)):=by
 w_up;obtain⟨p,i,j,rfl,hp,⟨G,m,g,B⟩,hn,q⟩:=h;kj_on
 cases rx
 obtain⟨t,K,v,e⟩:=I.hok p _ hp;refine call_list_range (n:=(j-i).toNat) (I.ok.hd hc) e (small_one G m g B) O0 () λh' J f C k hS d=>?_;refine⟨.ref s.heap.objs.size,_,I.laid (o:=.lst<|(lE i j).map V.int) k (aP _) ⟨?_,f.toList,C,AZ d,by rw[hS]⟩,rfl,q _ I.fresh⟩;rw[aK,nR,dh];lia
end
section
variable {X:Cx}
def GG{prog:aj}{w:ah}{A:aA}{E:af->aC->Prop}{s:aC}{Q:ba->aC->Prop}{r:ak}{a b c:Int}{t v:Tok}{n:Nat}(hh:A.handled=none)(Z:IsRange s.heap r a b c t u v)(J:Builtin.Range.small a b c=true)
  (hn:Builtin.Range.rangeSize a b c=n) (U:n<=2 ^ 24)
  (hQ:∀h' tk (acc':Array af),(∀b o,s.heap.get? b=some o->h'.get? b=some o)->ItemsOf (λi v=>∃t,v=.int (a+i * c) t) acc' n->Q acc'.toList { s with heap:=h',toks:=tk }) :
  wpAny (model prog w) A (collect<|.ref r) Q E s:=by
 unfold collect;refine aG<|wpAny_runValue<|gV F.entry_proto_collect ?_;rw[gv F.plain_proto_collect _]
 skip
 refine aG<|bY ?_;refine aL ⟨plainId_quiet F.plain_list_iadd _,gV F.entry_list_iadd ?_⟩;rw[gv F.plain_list_iadd _]
 skip
 have hS:(s.heap.push {}).get? s.heap.objs.size=some { cls:=.type "list",data:=.seq #[] 0 }:=bu _ rfl;have k:∀(h':aq) (tk:Nat) (acc':Array af) (j:Nat),(∀b o,b≠s.heap.objs.size->(s.heap.push {}).get? b=some o->h'.get? b=some o) ->
   h'.get? s.heap.objs.size=some { cls:=.type "list",dict:=none,data:=.seq acc' j,slots:=#[]}->ItemsOf (λi v=>∃t,v=.int (a+i * c) t) acc' n ->
   wpAny (model prog w) A (match Value.ref s.heap.objs.size with
   | Value.ref a=>do
    match (<- load a).data with
     | Data.seq xs _=>pure xs.toList
     | _=>unsupported "internal:collect"
   | _=>unsupported "internal:collect") Q E { s with heap:=h',toks:=tk }:=by
  intro h' tk acc' j m g d
  skip
  refine aG<|wpAny_load g ?_;refine aL ?_;exact hQ h' tk acc' (λb o e=>m b o (bD<|a_ e)<|aN _ e) d
 refine c5 (wpAny_extend_range (A:=A) (R:=λp s'=>p=.ok (.ret<|.ref s.heap.objs.size)/\∃h' tk acc' j,s'={ s with heap:=h',toks:=tk }/\(∀b o,b≠s.heap.objs.size->(s.heap.push {}).get? b=some o->h'.get? b=some o) /\
   h'.get? s.heap.objs.size=some { cls:=.type "list",dict:=none,data:=.seq acc' j,slots:=#[]}/\ItemsOf (λi v=>∃t,v=.int (a+i * c) t) acc' n)
  (s:={ s with heap:=s.heap.push {}}) hh (aN _ Z) J hn U s.heap.objs.size (.ref s.heap.objs.size) 0 hS
  (λh' tk acc' j m g d=>⟨rfl,h',tk,acc',j,rfl,m,g,d⟩)) (λfin s' h=>?_) λe s' h=>?_
 ·cases fin with
  | done f=>
   obtain⟨e,h',tk,acc',j,rfl,m,g,d⟩:=h
   cases e
   exact k h' tk acc' j m g d
  | again j=>exact⟨h.1,iz h.2 λr q Z=>by
    obtain⟨rfl,h',tk,acc',j,rfl,m,g,d⟩:=Z;exact k h' tk acc' j m g d⟩
 ·exact absurd h.1<|by simp
def wD(l:ak){a b:Int}{t v:Tok}{n:Nat}(U:Builtin.Range.small a b 1=true)
  (hn:Builtin.Range.rangeSize a b 1=n) (Z:n<=1000) :
  Meets (Builtin.«tuple.__new__» ⟨[.type "tuple",.ref l],[]⟩)
   (λA R s=>A.handled=none/\IsRange s.heap l a b 1 t u v/\∀(h':aq) (tk:Nat) (acc':Array af),(∀b o',s.heap.get? b=some o'->h'.get? b=some o')->ItemsOf (λi v=>∃t,v=.int (a+i * 1) t) acc' n->R (.ok<|.ret<|.ref h'.objs.size) { s with heap:=h'.push { cls:=.type "tuple",data:=.seq acc' },toks:=tk }):=
 .of_wp λprog w A R s h=>by
  obtain⟨hp,g,d,tk,os⟩:=s;obtain⟨G,j,h⟩:=h;have q:=sub_tuple_self;have k:=init_tuple_lookup;have J:=madeHere_tuple;have C:Shared.TypeIs ⟨hp,g,d,tk,os⟩ (.ref l) "range" := ⟨_,j,rfl⟩;have p:A.in1.handled=none:=G
  wp_walk using AutoSeq1.wpAny_loadPart' j,jl C,GG (A:=A.in1) p j U hn (by omega)
  intro h' m acc' B f;show wpAny _ _ (Builtin.Tuple.tupleExact acc'.toList.toArray >>= λv=>ret v) _ _ _;unfold Builtin.Tuple.tupleExact;have e:acc'.toList.toArray=acc':=by simp
  refine aG (bY ?_<|by show acc'.toList.toArray.size<=sizeLine;rw[e,f.1,dh];omega);refine aL ⟨_,rfl,?_⟩;rw[e];exact h h' m acc' B f
def BI(hc:X.calm=true):kR X (.type "tuple") (λxs H Q=>∃p i j,xs=[.ref p]/\H p=some (.rng i j)/\(-(2 ^ 62)<=i/\i<2 ^ 62/\-(2 ^ 62)<=j/\j<2 ^ 62)/\(j-i).toNat<=1000/\∀l,H l=none->Q (.ref l) (upd H l<|.tup<|(lE i j).map V.int)):=by
 w_up;obtain⟨p,i,j,rfl,hp,⟨K,G,B,J⟩,hn,q⟩:=h;kj_on
 cases rx
 obtain⟨t,L,v,e⟩:=I.hok p _ hp;refine callType_new F.called_tuple ⋯ (F.typeCall_tuple_1 _) (F.newCall_tuple_1 _) (λg=>F.args_object_init_2 g _) F.entry_tuple_new
  (wD (n:=(j-i).toNat) p (small_one K G B J) O0 hn) ⟨I.ok.hd hc,e,λh' k d C f=>⟨⟨_,bu _ rfl,rfl⟩,?_⟩⟩
 have m:Inv X ai σ H { s with heap:=h',toks:=k }:=I.kept C;refine⟨.ref h'.objs.size,_,m.laid (t':=k) (o:=.tup<|(lE i j).map V.int) (λb o e=>aN _ e) (aP _) ⟨?_,d.toList,AZ f,?_⟩,rfl,q _<|m.hok.fresh<|aP _⟩
 ·rw[aK,nR,dh];lia
 ·have e:d.toList.toArray=d:=by simp
  rw[e];exact qJ.new _ _
def G7{c:String}:kR X (.builtin "isinstance") (λxs H Q=>∃x t b,xs=[x,.ty c]/\TyOf X.K H x t/\kitOne X.K t (.type c)=some b/\Q (.bl b) H):=by
 w_up;obtain⟨x,t,b,rfl,ty,e,q⟩:=h;obtain⟨u,g,rfl,rx,d⟩:=vals2 r
 cases d
 exact MO I rx ty e λf=>⟨.bl b,H,I.tok f,rfl,q⟩
abbrev aas (K:au):R2:=λx y H Q=>∃a b ys,x=.ref a/\y=.ref b/\qu K H a []/\qu K H b ys/\Q (.ref b) H
def NX:qx X (binaryOp .Add) (aas X.K):=by
 gn_on;obtain⟨a,b,ys,rfl,rfl,h1,h2,q⟩:=h
 cases rx
 cases ry
 obtain⟨us,r1,p1,_⟩:=I.tuple h1;obtain⟨G,r2,p2,_⟩:=I.tuple h2
 cases r1
 obtain⟨⟨cls,dd,data,L⟩,C,hc,n,B⟩:=id p1;obtain⟨⟨p,m,j,k⟩,f,d,J,g⟩:=id p2;simp only at hc B d g;subst hc B d g;exact concat_meets ⟨_,C,rfl⟩ ⟨_,f,rfl⟩ noFill_tuple_add seq_tuple_add iB ig (gM _ _)
   (tuple_addW0 a b _ G.toArray n J dd m L k<|by simp) ⟨C,f,⟨.ref b,H,I,rfl,q⟩⟩
end
def l7:bootBuiltins "len" = some (.builtin "len"):=by decide +kernel
def ZM:bootBuiltins "abs" = some (.builtin "abs"):=by decide +kernel
def Z9:bootBuiltins "any" = some (.builtin "any"):=by decide +kernel
def Jb:bootBuiltins "max" = some (.builtin "max"):=by decide +kernel
def RV:bootBuiltins "min" = some (.builtin "min"):=by decide +kernel
def v_:bootBuiltins "sorted" = some (.builtin "sorted"):=by decide +kernel
def tu:bootBuiltins "isinstance" = some (.builtin "isinstance"):=by decide +kernel
def Iw:bootBuiltins "int" = some (.type "int"):=by decide +kernel
def VL:bootBuiltins "bool" = some (.type "bool"):=by decide +kernel
def DQ:bootBuiltins "list" = some (.type "list"):=by decide +kernel
def Av:bootBuiltins "tuple" = some (.type "tuple"):=by decide +kernel
def F7:bootBuiltins "range" = some (.type "range"):=by decide +kernel
def Mc:∀{a b:ag},a.Perm b->a.Pairwise (·<=·)->b.Pairwise (·<=·)->a=b:=λp ha hb=>
 fG (λx y _ _ h1 h2=>jQ h1 h2) ha hb p
def KH(i j:Int):(lE i j).Pairwise (·<=·):=by
 unfold lE;rw[cT];exact iE.imp λh=>()
def rj(i j:Int):(lE i j).Nodup:=by
 unfold lE;rw[List.Nodup,cT];exact iE.imp λh=>()
def qt{i j k:Int}:k∈lE i j ↔ i<=k/\k<j:=by
 unfold lE;rw[bC];constructor
 ·rintro⟨a,ha,rfl⟩;have:=cE.mp ha;omega
 ·rintro⟨h1,h2⟩;exact⟨(k-i).toNat,cE.mpr<|by omega,by omega⟩
theorem ze:∀{l m:ag},l.Nodup->(∀x∈l,x∈m)->m.length<=l.length->l.Perm m
 | [],m,_,_,h=>by
  have:m=[]:=dI.mp<|Nat.le_zero.mp h;rw[this]
 | a::l,m,nd,hs,hl=>by
  have ha:a∈m:=hs a aR;have d:=dB.mp nd;have pm:m.Perm (a::m.erase a):=List.perm_cons_erase ha;have j:=ze (l:=l) (m:=m.erase a) d.2 (λx g=>by
   have f:x≠a:=λe=>d.1<|e ▸ g;exact(List.mem_erase_of_ne f).mpr (hs x<|aS _ g)) (by
   rw[gO ha];dsimp[bH]at hl;omega)
  exact(List.Perm.cons a j).trans pm.symm
abbrev Kn (P:aj)(w:ah)(K:au)(mg:Str->bd)(base:aq)(k:Nat)(x:Str)(ps:ar)(sp:Sp):Prop:=
 ∃(f:ak) (fd:FuncData),FnOk P w K mg base t8 k f fd ps sp/\mg x=some (.ref f)/\keepIn K (.ref f)=true/\Binds K fd ps []
def abB{X:Cx}{k:Nat}{x:Str}{sp:Sp}{e:aE}{t:TA}{p:Pos}(G:Kn X.prog X.w X.K X.mg X.base k x ps sp)(Z:Room k X.A)(ha:PA X (e::es) t)(hg:Gl X x<|>ε)
  (U:(x == ("__debug__" : Str))=false<|>δ) (hs:starEach (e::es) X.env=(false,eval e X.env)::starEach es X.env<|>ε) (J:((backTo pos<|starEach es X.env).any (·.1)=false)<|>ε) :
  PE X (.Call (.Name x p) (e::es) [] pos) (TQ sp [] E0 t):=by
 obtain⟨f,fd,F,g,d,hb⟩:=G;exact Jf F Z hg g d hb .nil abj ha U hs J
abbrev Bo (J fs:ar):ar->List (bo)->Prop
 | [],[]=>True
 | _::N,none::c=>Bo J fs N c
 | x::N,some j::c=>J[j]?=some x/\x∈fs/\Bo J fs N c
 | _,_=>False
theorem Bo.len{fs:ar}:∀{N:ar}{c:List<|bo},Bo XN fs N c->c.length=N.length
 | [],[],_=>rfl
 | _::N,none::c,h=>dG (·+1) (Bo.len (N:=N) (c:=c) h)
 | _::N,some j::c,h=>dG (·+1) (Bo.len (N:=N) (c:=c) h.2.2)
 | [],_::_,h=>h.elim
 | _::_,[],h=>h.elim
theorem Bo.cp{fs:ar}:∀{N:ar}{c:List<|bo},Bo XN fs N c->∀(i j:Nat) (x:Str),N[i]?=some x->c[i]?=some (some j)->XN[j]?=some x/\x∈fs
 | [],[],_,i,j,x,h1,_=>by simp at h1
 | y::N,none::c,h,i,j,x,h1,h2=>by
  cases i with
  | zero=>simp at h2
  | succ i=>exact Bo.cp (N:=N) (c:=c) h i j x (by simpa using h1)<|by simpa using h2
 | y::N,some k::c,h,i,j,x,h1,h2=>by
  cases i with
  | zero=>
   simp at h1 h2;subst h1 h2;exact⟨h.1,h.2.1⟩
  | succ i=>exact Bo.cp (N:=N) (c:=c) h.2.2 i j x (by simpa using h1)<|by simpa using h2
 | [],_::_,h,_,_,_,_,_=>h.elim
 | _::_,[],h,_,_,_,_,_=>h.elim
def wL{X:Cx}{scope:Scope}{N:ar}(fs:ar)(kind:scope.kind=.function<|>ε)(nocell:∀y∈scope.names,y.2≠.cell:=by decide +kernel)(nm:∀y∈scope.names,y.2=.local->scope.names.lookup y.1=some .local:=by decide +kernel)
  (nolf:∀y∈scope.names,y.2=.free->scope.names.lookup y.1≠some .local:=by decide +kernel) (hf:∀y∈scope.names,y.2=.free->y.1∈fs:=by decide +kernel) (J:∀x∈fs,(x,NameKind.free)∈scope.names:=by decide +kernel) (U:∀x∈fs,X.env.kindOf x=some .cell\/X.env.kindOf x=some .free:=by repeat' first|refine aZ.mpr ⟨by first|exact Or.inl rfl|exact Or.inr rfl,?_⟩|exact nofun) (cp:Bo X.N fs N cap:=by repeat' first|exact trivial|refine⟨rfl,by decide +kernel,?_⟩):CpScope X scope N cap where
 kind:=kind
 nocell:=nocell
 nm:=nm
 fr:=λy hy e=>U _ (hf y hy e)
 rl:=λy h=>by
  have g:∀k,(k=NameKind.cell\/k=NameKind.free)->(relabel scope X.env).names.lookup y=some k->(y,NameKind.free)∈scope.names:=λk U e=>by
   obtain⟨⟨q,m⟩,f,d⟩:=bC.mp<|A_ e;dsimp only at d;split at d
   ·rename_i hc
    cases d
    have:m=.free:=by
     dsimp[bZ]at hc;simpa using hc.1.1
    subst this;exact f
   ·cases d
    rcases U with rfl|rfl
    ·exact absurd rfl (nocell _ f)
    ·exact f
  rcases h with h|h
  ·exact g _ (.inl rfl) h
  ·exact g _ (.inr rfl) h
 len:=cp.len
 nolf:=λx p=>nolf (x,.free) p rfl
 cp:=λi j x h1 h2=>by
  obtain⟨a,b⟩:=cp.cp i j x h1 h2;exact⟨a,J x b⟩
inductive Kd where
 | non|bl|int|str|lst|tup
 deriving DecidableEq
abbrev Kd.ty:Kd->af
 | .non=>.type "NoneType" | .bl=>.type "bool" | .int=>.type "int" | .str=>.type "str" | .lst=>.type "list" | .tup=>.type "tuple"
abbrev X5 (H:Hp)(x:V):Kd->Prop
 | .non=>x=.non
 | .bl=>∃b,x=.bl b
 | .int=>∃i,x=.int i
 | .str=>∃s,x=.str s
 | .lst=>∃a xs,x=.ref a/\H a=some (.lst xs)
 | .tup=>∃a xs,x=.ref a/\H a=some (.tup xs)
def X5.ac_{K:au}{H:Hp}{x:V}{k:Kd}(h:X5 H x k):TyOf K H x k.ty:=by
 cases k with
 | non=>cases h;exact .non
 | bl=>obtain⟨b,rfl⟩:=h;exact .bl b
 | int=>obtain⟨b,rfl⟩:=h;exact .int b
 | str=>obtain⟨b,rfl⟩:=h;exact .str b
 | lst=>obtain⟨a,xs,rfl,e⟩:=h;exact .lst e
 | tup=>obtain⟨a,xs,rfl,e⟩:=h;exact .tup e
def VY{K:au}(k:Kd):kitOne K k.ty (.type "int")=some (decide<|k=.int\/k=.bl):=by cases k<;>rfl
def P5{K:au}(k:Kd):kitOne K k.ty (.type "bool")=some (decide<|k=.bl):=by cases k<;>rfl
def kit_tuple{K:au}(k:Kd):kitOne K k.ty (.type "tuple")=some (decide<|k=.tup):=by cases k<;>rfl
def Pe{K:au}(k:Kd):kitOne K k.ty (.type "list")=some (decide<|k=.lst):=by cases k<;>rfl
section
variable {X:Cx}
def MZ(hc:X.calm=true):kR X (.builtin "max") (λxs H Q=>∃(p:ak) (ns:ag),xs=[.ref p]/\qX X.K H p (ns.map V.int)/\0<ns.length/\∀M,M∈ns->(∀a∈ns,a<=M)->Q (.int M) H):=by
 w_up;obtain⟨p,ns,rfl,m,g,q⟩:=h;kj_on
 cases rx
 obtain⟨C,G,pl,N⟩:=I.list m;have hi:=intsAre_of G;have k:=pl.isList;obtain⟨ys,e⟩:=hi.allInts.items;have d:ns=ys.toList.map (·.1):=by
  rw[<- hi.numsOf,<- nums_intItems,<- e]
 have f:0<ys.size:=by
  have h3:=g;rw[d,aK,cJ]at h3;exact h3
 rw[e]at k;refine max_intList (I.ok.hd hc) k f λv h' L hv B=>?_;obtain⟨t,rfl⟩:=intItems_at hv;obtain⟨h1,h2⟩:=argBest_gt (numAt ys)<|ys.size-1;refine⟨.int _,H,I.kept B,⟨t,rfl⟩,q _ ?_ λa ha=>?_⟩
 ·rw[d,numAt_eq];exact getD_mem (by rw[aK,cJ];lia)
 ·rw[d]at ha;obtain⟨j,J,rfl⟩:=mem_getD ha;rw[aK,cJ]at J;rw[<- numAt_eq];exact h2 j ()
end
section
variable {X:Cx}
abbrev abc (K:au):V->V->Hp->VK->Prop:=λo i H Q=>∃p xs k v,o=.ref p/\i=.int k/\qX K H p xs/\0<=k/\xs[k.toNat]?=some v/\Q v H
def PL:aaI X (abc X.K):=by
 intro ai s σ H o i L iv Q I d j h;obtain⟨p,xs,k,v,rfl,rfl,f,h0,hv,q⟩:=h
 cases d
 obtain⟨t,rfl⟩:=j;obtain⟨g,r,pl,G⟩:=I.list f;obtain⟨u,B,m⟩:=r.get hv;have J:=r.length;have hn:=xm;have C:k.toNat<xs.length:=(aJ.mp hv).1;exact wpAny_getItem_list pl.isList h0 () (by simpa using B) ⟨v,H,I,m,q⟩
end
def EK(elt t1 i1 t2 i2:aE)(f1 f2:List aE)(scope:Scope)(pos:Pos)(it acc:af)(env:Env) :
  compTurn (.ListComp elt [⟨t1,i1,f1,0⟩,⟨t2,i2,f2,0⟩] scope pos) 0 it acc env=(do
   standAt i1.pos
   match <- pyNext it with
   | none=>pure (.done .next)
   | some v=>
    letOwnedTupleGo t1 it v
    assign t1 env v
    let mut ok:=true
    for c in f1 do
     if ok then ok <- isTrue c env (eval c env)
    if ok then
     let x <- eval i2 env
     standAt i2.pos
     let x <- foldedSetIterable i2 env x
     let _ <- runOwn (.compStart (.ListComp elt [⟨t1,i1,f1,0⟩,⟨t2,i2,f2,0⟩] scope pos) 1 (<- holding [x] (pyIter x)) acc env) env
    again (.compLoop (.ListComp elt [⟨t1,i1,f1,0⟩,⟨t2,i2,f2,0⟩] scope pos) 0 it acc env)):=by rfl
def EJ(elt t1 i1 t2 i2:aE)(f1 f2:List aE)(scope:Scope)(pos:Pos)(it acc:af)(env:Env) :
  compTurn (.ListComp elt [⟨t1,i1,f1,0⟩,⟨t2,i2,f2,0⟩] scope pos) 1 it acc env=(do
   standAt i2.pos
   match <- pyNext it with
   | none=>pure (.done .next)
   | some v=>
    letOwnedTupleGo t2 it v
    assign t2 env v
    let mut ok:=true
    for c in f2 do
     if ok then ok <- isTrue c env (eval c env)
    if ok then
     (do let _ <- call (.builtin "list.append") [acc,<- eval elt env])
    again (.compLoop (.ListComp elt [⟨t1,i1,f1,0⟩,⟨t2,i2,f2,0⟩] scope pos) 1 it acc env)):=by rfl
section
variable {prog:aj}{w:ah}{A:aA}{R:Result->aC->Prop}{s:aC}
def uO{f1 f2:List aE}{acc:af}{env:Env}
  (h0:codeAny (model prog w) A (.compLoop (.ListComp elt [⟨t1,i1,f1,0⟩,⟨t2,i2,f2,0⟩] scope pos) 1 it acc env) R s)
  (h:wpAny (model prog w) A (pyIter it) (λit' s'=>codeAny (model prog w) A (.compLoop (.ListComp elt [⟨t1,i1,f1,0⟩,⟨t2,i2,f2,0⟩] scope pos) 1 it' acc env) R s')
   (notedBy (model prog w) A env λx s'=>R (.error x) s') s) :
  codeAny (model prog w) A (.compStart (.ListComp elt [⟨t1,i1,f1,0⟩,⟨t2,i2,f2,0⟩] scope pos) 1 it acc env) R s:=by
 refine codeAny_of_tree ?_
 skip
 refine wpAny_notedAt ?_;unfold compStart
 skip
 refine aG<|wpAny_askSetting<|wpAny_ite ?_;split
 ·first
   | exact aG (aL<|aL<|anI rfl h0)
   | exact aL<|anI rfl h0
 ·first
   | exact aG (fH<|aG<|fC<|aG<|c5 h (λit' s' h'=>aL<|anI rfl h') λ_ _ x=>x)
   | (refine aG<|fH ?_;show wpAny _ _ (standAt i2.pos >>= _) _ _ s;exact aG<|fC<|aG<|c5 h (λit' s' h'=>aL<|anI rfl h') λ_ _ x=>x)
end
abbrev QU (g:TG)(tc:TT)(te:TE)(D:ak)(U:L2.St->Hp->Prop)(σ:L2.St)(J:It)(H1:Hp):Prop:=
 ∃V:Nat->Nat->L2.St->Hp->Prop,(∃m,V 0 m σ H1)/\∀i m f H',V i m f H' ->
  (J.stop i H'/\U f H')\/(J.go i H'/\∀x H2,J.yld i H' x H2->g x f H2 λd H3=>tc d H3 λb p=>
   if b=true then te d p λy k=>∃ys,k D=some (.lst ys)/\ys.length<sizeLine/\∃j,j<m/\V (i+1) j d (upd k D<|.lst<|ys++[y])
   else ∃j,j<m/\V (i+1) j d p)
def HS{Z:Cx}{f1:List aE}{fp:bb}{D:ak}{tn:Nat->aq->Prop}{H:Hp}{s:aC}{g:TG}{tc:TT}{te:TE}{Nn:L2.St->Hp->Prop}
  (hc:Z.calm=true) (hxe:Z.xe=λ_ _=>False) (T:Turn Z.prog Z.w Z.K tg J fp it tn) (I:Inv Z ai σ H s) (st:tn 0 s.heap) (hf:∀b∈fp,vc Z ai H b) (hg:PG Z tg g) (ht:T_ Z ifs tc) (he:PE Z elt te) (goal:QU g tc te D Nn σ J H) :
  codeAny (model Z.prog Z.w) Z.A (.compLoop (.ListComp elt [⟨t1,i1,f1,0⟩,⟨tg,i2,ifs,0⟩] scope pos) 1 (.ref it) (.ref D) Z.env) (λr s'=>r=.ok .next/\∃σ' H',Inv Z ai σ' H' s'/\Nn σ' H') s:=by
 obtain⟨V,⟨m0,v0⟩,turn⟩:=goal;have C:∀{H':Hp},(∀b∈fp,H' b=none)->∀b∈fp,vc Z ai H' b:=λhn b hb=>⟨hn b hb,(hf b hb).2⟩;refine codeAny_loop rfl (λn s'=>∃i σ' H',Inv Z ai σ' H' s'/\tn i s'.heap/\(∀b∈fp,H' b=none)/\V i n σ' H') (λn s5 hI=>?_) m0 ⟨0,σ,H,I,st,λb hb=>(hf b hb).1,v0⟩;obtain⟨i,p,Y,I5,O,P,w5⟩:=hI
 skip
 refine wpAny_noted ?_;rw[EJ];refine aG (fC<|aG ?_)
 rcases turn i n p Y w5 with⟨U,q⟩|⟨go,step⟩
 ·refine mR (T.done Z rfl rfl rfl hc i ai s5 p Y _ I5 (C P) O U) λr s6 h9=>?_;obtain⟨hr,I6⟩:=h9;subst hr;exact aL ⟨rfl,p,Y,I6,q⟩
 ·refine mR (T.item Z rfl rfl rfl hc i ai s5 p Y _ I5 (C P) O go) λr s6 h9=>?_;obtain⟨u,hr,h6⟩:=h9;subst hr;refine aG<|mR h6 λ_ s7 ⟨x,H7,I7,r7,y7,L,fr7⟩=>?_;have I7':=I7.pinned (C fr7)<|T.obj _ _ L;have G:∀{α:Type} {t:Sem α} {Q Q':α->aC->Prop} {E:af->aC->Prop} {s:aC},wpAny (model Z.prog Z.w) Z.A t Q Z.xe s->(∀a s,Q a s->Q' a s)->wpAny (model Z.prog Z.w) Z.A t Q' E s:=λh hQ=>by
   rw[hxe]at h;exact El h hQ
  refine aG<|G (hg _ s7 p H7 x u _ I7' r7<|step x H7 y7) λ_ s8 ⟨k,H8,I8,q8⟩=>?_;refine aG<|G (ht _ s8 k H8 _ I8 q8) λok s9 ⟨H9,I9,q9⟩=>?_;have again:∀{j:aC} {f:Hp},Inv Z (ai++xD fp s7.heap) k f j->(∃W,W<n/\V (i+1) W k f) ->
    ∃m,m<n/\∃i σ' H',Inv Z ai σ' H' j/\tn i j.heap/\(∀b∈fp,H' b=none)/\V i m σ' H':=λ{j f} B h9=>by
   obtain⟨W,hm,M⟩:=h9;refine⟨W,hm,i+1,k,f,B.rG,T.keep _ _ _ L λb hb o e=>(B.pin (b,o)<|bA _<|bA _<|nu hb e).1,λb hb=>?_,M⟩;obtain⟨o,e,d⟩:=T.obj _ _ L b hb;exact(B.pin (b,o)<|bA _<|bA _<|nu hb e).2.1
  cases ok with
  | false=>
   rw[aM br]at q9;exact aL ⟨rfl,again I9 q9⟩
  | true=>
   rw[aO rfl]at q9;refine aG<|aG<|G (he _ s9 k H9 _ I9 q9) λy j ⟨N,f,B,r10,ys,hD,hz,M⟩=>?_;refine aG<|G (y_ _ j k f (.ref D) [N] _ [y] (λ_ H'=>H'=upd f D (.lst<|ys++[N])) B rfl (.cons r10 .nil) ⟨_,ys,N,rfl,rfl,hD,hz,rfl⟩) λ_ s11 ⟨_,H11,I11,_,e11⟩=>?_;subst e11;exact aL<|aL ⟨rfl,again I11 M⟩
abbrev VP (cap:List<|bo)(g:TG)(tc:TT)(wi2:TI)(g2:TG)(tc2:TT)(te:TE)(σ:L2.St)(Q:VK)(J:It)(H1:Hp):Prop:=∀D,H1 D=none ->
 ∃W:Nat->Nat->L2.St->Hp->Prop,(∃m,W 0 m (cap.map<|Vq σ)<|upd H1 D<|.lst [])/\∀i m f H',W i m f H' ->
  (J.stop i H'/\Q (.ref D) H')\/(J.go i H'/\∀x H2,J.yld i H' x H2->g x f H2 λd H3=>tc d H3 λb p=>
   if b=true then wi2 d p (QU g2 tc2 te D (λk q=>∃j,j<m/\W (i+1) j k q) d)
   else ∃j,j<m/\W (i+1) j d p)
abbrev adQ (cap:List<|bo)(J:TI)(g:TG)(tc:TT)(wi2:TI)(g2:TG)(tc2:TT)(te:TE):TE:=λσ H Q=>J σ H<|VP cap g tc wi2 g2 tc2 te σ Q
def Yo{X:Cx}{iter:aE}{N:ar}{wi wi2:TI}{g g2:TG}{tc tc2:TT}{te:TE}(hc:X.calm=true)(S:CpScope X scope N cap)(hi:PI X tg iter wi)
  (hg:∀C s₀ H₀ ex,PG (mG X scope N C s₀ H₀ ex) tg g) (ht:∀C s₀ H₀ ex,T_ (mG X scope N C s₀ H₀ ex) ifs tc) (hi2:∀C s₀ H₀ ex,PI (mG X scope N C s₀ H₀ ex) tg2 iter2 wi2)
  (hg2:∀C s₀ H₀ ex,PG (mG X scope N C s₀ H₀ ex) tg2 g2) (ht2:∀C s₀ H₀ ex,T_ (mG X scope N C s₀ H₀ ex) ifs2 tc2) (he:∀C s₀ H₀ ex,PE (mG X scope N C s₀ H₀ ex) elt te)
  (hs:(∀x,foldedSetIterable iter X.env x=pure x)<|>η) (hs2:∀env x,foldedSetIterable iter2 env x=pure x:=by intro _ _;rfl):PE X (.ListComp elt [⟨tg,iter,ifs,0⟩,⟨tg2,iter2,ifs2,0⟩] scope pos) (adQ cap wi g tc wi2 g2 tc2 te):=by
 kt_k;kpc_g;rw[eval_ListComp];refine wpAny_comprehension_free (use:=none) rfl hs (BQ hfree) S.kind S.nm<|mR (hi ai s σ H _ I h) λxv s1 h1=>mR h1 λitv f h2=>?_;obtain⟨it,fp,tn,J,H2,rfl,I2,T,st2,f2,h2⟩:=h2;refine bY (wpAny_newFunctionEnv S.nocell (by intro y hy;simp at hy) (λG B j=>?_) S.kind);obtain⟨W,⟨m0,w0⟩,turn⟩:=h2 f.heap.objs.size I2.fresh;dsimp only at B j ⊢;have I3:Inv X ai σ (upd H2 f.heap.objs.size<|.lst []) { f with heap:=f.heap.push {}}:=I2.Ww (t':=f.toks) (its:=[]) .nil<|b7 _;have hfp:∀b∈fp,∃o,f.heap.get? b=some o:=λb hb=>by
  obtain⟨o,e,_⟩:=T.obj 0 _ st2 b hb;exact⟨o,e⟩
 have neD:∀b∈fp,b≠f.heap.objs.size:=λb hb=>by
  obtain⟨o,e⟩:=hfp b hb;exact bD<|a_ e
 have f3:∀b∈fp,vc X ai (upd H2 f.heap.objs.size<|.lst []) b:=λb hb=>⟨by rw[j8<|neD b hb];exact(f2 b hb).1,(f2 b hb).2⟩;have hDC:f.heap.objs.size≠(f.heap.push {}).objs.size:=by rw[dN];exact bD (c9 _)
 have old:∀b o,(f.heap.push {}).get? b=some o->G.get? b=some o:=λb o e=>j.extBut b o (bD<|a_ e)<|aN _ e;have I4:=Pk (tk:=f.toks+([]:List<|Str×af).length) (fp:=fp) S I3 f3 (λb hb=>by
  obtain⟨o,e⟩:=hfp b hb;exact⟨o,aN _ e⟩) B old
 have st4:tn 0 G:=T.keep _ _ _ st2 λb hb o e=>old b o<|aN _ e;have M:∀{H':Hp},(∀b∈fp,H' b=none)->∀b∈fp,vc (mG X scope N (f.heap.push {}).objs.size { f with heap:=f.heap.push {}} (upd H2 f.heap.objs.size<|.lst []) fp) [] H' b:=λhn b hb=>by
  have ok:=I4.ok;refine⟨hn b hb,(ok.exf b hb).1,ok.exfs b hb,.inl hb,λx c e=>(ok.exf b hb).2 x c e,λp hp=>nomatch hp⟩
 have V:∀s4:aC,s4={ f with heap:=G,toks:=f.toks+([]:List<|Str×af).length } ->
   codeAny (model X.prog X.w) X.A (.compLoop (.ListComp elt [⟨tg,iter,ifs,0⟩,⟨tg2,iter2,ifs2,0⟩] scope pos) 0 (.ref it) (.ref f.heap.objs.size)<|compEnvC scope (zy X.env scope.names []) (f.heap.push {}).objs.size X.env)
    (compPost (model X.prog X.w) X.A X.xe none (EP X ai σ Q) (.ref f.heap.objs.size) (f.heap.push {}).objs.size) s4:=by
  rintro s4 rfl;refine codeAny_loop rfl (λn s'=>∃i K H',Inv (mG X scope N (f.heap.push {}).objs.size { f with heap:=f.heap.push {}} (upd H2 f.heap.objs.size<|.lst []) fp) [] K H' s'/\tn i s'.heap/\(∀b∈fp,H' b=none)/\W i n K H') (λn s5 hI=>?_) m0 ⟨0,_,_,I4,st4,λb hb=>(f3 b hb).1,w0⟩;obtain⟨i,P,H5,I5,st5,fr5,w5⟩:=hI
  skip
  refine wpAny_noted ?_;rw[EK];refine aG (fC<|aG ?_)
  rcases turn i n P H5 w5 with⟨stop,q⟩|⟨go,step⟩
  ·refine mR (T.done (mG X scope N (f.heap.push {}).objs.size { f with heap:=f.heap.push {}} (upd H2 f.heap.objs.size<|.lst []) fp) rfl rfl rfl hc i [] s5 P H5 _ I5 (M fr5) st5 stop) λr s6 h9=>?_;obtain⟨hr,I6⟩:=h9;subst hr;obtain⟨m6,hn6,_⟩:=I6.loc;refine aL ⟨m6,hn6,λh' sb=>?_⟩;have u6:=I6.base;have nC:∀b o,(f.heap.push {}).get? b=some o->b≠(f.heap.push {}).objs.size:=λb o e=>bD<|a_ e;refine⟨.ref f.heap.objs.size,H5,?_,rfl,q⟩;refine I3.Qo (ch:=fp) I6.os ⟨λb o e n hb hx=>?_,λb o e n hb hx=>?_,λb o e n hx=>?_,λb o e hx=>?_,u6.tups,u6.frzs,u6.tbls⟩ ?_ I6.bare ?_
   ·exact sb.extBut b o (nC b o e) (u6.keep b o e n hb hx)
   ·obtain⟨sl,z⟩:=u6.slot b o e n hb hx;exact⟨sl,sb.extBut b _ (nC b o e) z⟩
   ·exact u6.free b o e n hx
   ·obtain⟨o',z⟩:=u6.there b o e hx;exact⟨o',sb.extBut b _ (nC b o e) z⟩
   ·intro b o e;have hb:∀c v,H5 c=some v->c≠(f.heap.push {}).objs.size:=λc v e z=>by
     rw[z]at e;have:=I6.free;rw[show H5 (f.heap.push {}).objs.size=none from this]at e
     cases e
    refine(I6.hok b o e).stay (λc v hc q=>sb.extBut c v ?_ q) (λ_ q=>q) λ_ _ q=>q
    rcases hc with z|z
    ·rw[z];exact hb b o e
    ·exact hb c _ z
   ·intro b hb;obtain⟨_,z1,_,z3,z4,z5⟩:=f3 b hb;exact⟨z3,z1,z4,z5⟩
  ·refine mR (T.item (mG X scope N (f.heap.push {}).objs.size { f with heap:=f.heap.push {}} (upd H2 f.heap.objs.size<|.lst []) fp) rfl rfl rfl hc i [] s5 P H5 _ I5 (M fr5) st5 go) λr s6 h9=>?_;obtain⟨u,hr,h6⟩:=h9;subst hr;refine aG<|mR h6 λ_ s7 ⟨x,H7,I7,r7,y7,st7,fr7⟩=>?_;have I7':=I7.pinned (M fr7)<|T.obj _ _ st7;refine aG<|El (hg _ _ _ fp _ s7 P H7 x u _ I7' r7<|step x H7 y7) λ_ s8 ⟨σ8,H8,I8,q8⟩=>?_;refine aG<|El (ht _ _ _ fp _ s8 σ8 H8 _ I8 q8) λok s9 ⟨H9,I9,q9⟩=>?_;have again:∀{L:aC} {U:Hp} {k:L2.St},Inv (mG X scope N (f.heap.push {}).objs.size { f with heap:=f.heap.push {}} (upd H2 f.heap.objs.size<|.lst []) fp) ([]++xD fp s7.heap) k U L->(∃m',m'<n/\W (i+1) m' k U) ->
     ∃m,m<n/\∃i K H',Inv (mG X scope N (f.heap.push {}).objs.size { f with heap:=f.heap.push {}} (upd H2 f.heap.objs.size<|.lst []) fp) [] K H' L/\tn i L.heap/\(∀b∈fp,H' b=none)/\W i m K H':=λ{L U k} I10 h9=>by
    obtain⟨m',hm,w10⟩:=h9;refine⟨m',hm,i+1,k,U,I10.rG,T.keep _ _ _ st7 λb hb o e=>(I10.pin (b,o)<|bA _<|bA _<|nu hb e).1,λb hb=>?_,w10⟩;obtain⟨o,e,d⟩:=T.obj _ _ st7 b hb;exact(I10.pin (b,o)<|bA _<|bA _<|nu hb e).2.1
   cases ok with
   | false=>
    rw[aM br]at q9;exact aL ⟨rfl,again I9 q9⟩
   | true=>
    rw[aO rfl]at q9;refine aG<|El (hi2 _ _ _ fp _ s9 σ8 H9 _ I9 q9) λxv L h10=>aG<|fC ?_;rw[hs2];refine aG<|aL<|aG<|cH<|El h10 λitv s11 h11=>?_;obtain⟨it2,fp2,tn2,J2,H11,rfl,I11,T2,Y,f11,goal⟩:=h11;have hcz:=hc;have O:=(λ(Z:Cx) (h1:Z.calm=true) (h2:Z.xe=λ_ _=>False) T2 I11=>HS (Z:=Z) (t1:=tg) (i1:=iter) (f1:=ifs) (i2:=iter2) (scope:=scope) (pos:=pos) h1 h2 T2 I11) _ (show(mG X scope N _ _ _ fp).calm=true from hcz) rfl T2 I11 Y f11 (hg2 _ _ _ fp) (ht2 _ _ _ fp) (he _ _ _ fp) goal;refine aG<|wpAny_runOwn<|iz (uO O<|T2.self _ 0 _ _ _ Y O) λr s12 hr12=>?_;obtain⟨hr,σ12,H12,I12,n12⟩:=hr12;subst hr;exact aL ⟨rfl,again I12 n12⟩
 exact codeAny_compStart_list (V _ rfl)<|T.self _ 0 _ _ _ st4<|V _ rfl
end L2
namespace L2
open PySem PySem.Spec PyProof.Rows
open PySem.SeqAt
open PySem.AutoSeq1 (wpAny_loadPart')
open PySem.MeetsSeq PySem.MeetsSeq2 PySem.MeetsSeq3 PySem.SeqAt
section
variable {X:Cx}
def Rv:qx X (binaryOp .FloorDiv) (rI (λ_ j=>0<j/\j<18446744073709551616) λi j=>.int<|i / j):=opI λi j _ _ _ _ _ hc q=>by
 have h1:(0:Int)<j:=hc.1;have h2:j<18446744073709551616:=hc.2;refine floordiv_int (by omega) (by rw[Int.fdiv_eq_ediv_of_nonneg i<|by omega];exact q)<|.inl<|PyProof.noPylong_of_log2 ?_;exact bO ((Nat.log2_lt<|by omega).mpr<|show j.natAbs<2 ^ 64 by omega) ⋯
end
end L2
namespace L2
open PySem PySem.Spec PyProof.Rows
abbrev Its (x:Str):It:=⟨λi _=>i<x.cps.size,λi H v H'=>H'=H/\∃c,x.cps[i]?=some c/\v=.str ⟨#[c]⟩,λi _=>i=x.cps.size⟩
def NU{P:aj}{w:ah}{K:au}(x:Str)(t:Tok)(it:ak):Turn P w K tg (Its x) [it] it (λi h=>h.IsStrIter it "str_ascii_iterator" x t i) where
 mem:=by simp
 obj:=λi h st b hb=>by
  have e:b=it:=by simpa using hb
  subst e;obtain⟨o,e,c,d⟩:=st;exact⟨o,e,λv z=>by rw[d]at z;cases z⟩
 keep:=λi h h' st k=>let⟨o,ho,r⟩:=st;⟨o,k it (by simp) o ho,r⟩
 item:=by
  x_go;subst hP hw hK;fin2;have W:=Walks.strAscii (prog:=X.prog) (w:=X.w) (I.ok.hd hc) it x t;refine W.item i s _ _ hg st λv h' g hv f m=>?_;obtain⟨c,u,j,rfl⟩:=hv;have q:Inv X ai σ H { s with heap:=h',toks:=g }:=I.turned (λb o hb e=>m b o (by simpa using hb) e) f0 f1 f3 f4 f5;obtain⟨o,e,p,d⟩:=id f;exact⟨_,rfl,Fi (s:={ s with heap:=h',toks:=g }) e p d ⋯ ⟨.str ⟨#[c]⟩,H,q,⟨u,rfl⟩,⟨rfl,c,j,rfl⟩,f,λb hb=>(hf b hb).1⟩⟩
 done:=by
  x_go;subst hP hw hK;fin2;have hg:i=x.cps.size:=hg;subst hg;have W:=Walks.strAscii (prog:=X.prog) (w:=X.w) (I.ok.hd hc) it x t;exact W.done s _ _ st λh' g m=>⟨rfl,I.turned (λb o hb e=>m b o (by simpa using hb) e) f0 f1 f3 f4 f5⟩
 self:=λ_ _ _ _ _ st h=>wpAny_pyIter_striter_ascii st h
section
variable {X:Cx}{tg:aE}
abbrev ac7 (tl:TE):TI:=λσ H R=>tl σ H λx H1=>∃y:Str,x=.str y/\y.cps.all (· < 128)=true/\R (Its y) H1
def Zb{l:aE}{tl:TE}(J:PE X l tl):PI X tg l (ac7 tl):=by
 intro ai s σ H R I h;refine mR (J ai s σ H _ I h) λv d h9=>?_;obtain⟨x,H1,I1,r1,f⟩:=h9;obtain⟨y,e,ha,q⟩:=f;subst e;obtain⟨t,rfl⟩:=r1;refine wpAny_pyIter_ascii ha ?_;refine⟨d.heap.objs.size,[d.heap.objs.size],_,_,H1,rfl,I1.kept (t':=d.toks) λb o e=>aN _ e,NU y t _,⟨_,bu _ rfl,rfl,rfl⟩,λb hb=>?_,q⟩;have e:b=d.heap.objs.size:=by simpa using hb
 subst e;exact I1.Il (aP _)<|I1.hok.fresh<|aP _
def Ml:kR X (.type "int") (λxs H Q=>∃(y:Str) (n:Int),xs=[.str y]/\y.length<=640/\PySem.intText? y=some n/\Q (.int n) H):=by
 intro ai s σ H xs us Q I f h;obtain⟨y,n,rfl,g,hn,q⟩:=h;obtain⟨w,rfl,d⟩:=vals1 f;obtain⟨u,rfl⟩:=d;exact PySem.W.KIN.call_text hn g ⟨.int n,H,I.tok _,⟨_,rfl⟩,q⟩
end
section
variable {κ:Type}[DecidableEq κ]
abbrev rq (kvs:List<|κ×V)(k:κ):Option V:=(kvs.find? λkv=>decide<|kv.1=k).map (·.2)
abbrev putK (kvs:List<|κ×V)(k:κ)(v:V):List (κ×V):=
 if (kvs.any λkv=>decide<|kv.1=k)=true then kvs.map (λkv=>if kv.1=k then(kv.1,v)else kv)else kvs++[(k,v)]
def vI{p:κ×V}{r:List<|κ×V}{k:κ}(e:p.1=k):rq (p::r) k=some p.2:=by simp[rq,cO,e]
def u9{p:κ×V}{r:List<|κ×V}{k:κ}(e:¬p.1=k):rq (p::r) k=rq r k:=by simp[rq,cO,e]
theorem yh(k:κ):∀kvs:List<|κ×V,(kvs.any λkv=>decide<|kv.1=k)=(rq kvs k).isSome
 | []=>rfl
 | p::r=>by
  rw[iY];by_cases e:p.1=k
  ·dsimp[vI e,aX e,Bool.true_or,isSome_some]
  ·rw[u9 e,bw e,jE];exact yh k r
def vN(kvs:List<|κ×V)(k:κ)(v:V):(putK kvs k v).length<=kvs.length+1:=by
 unfold putK;split
 ·rw[aK];lia
 ·rw[aV,bH,cP];lia
def yF.yy{o:Option V}{u:bd}(r:yF o u):o.isSome=u.isSome:=by
 cases o with
 | none=>cases u with
  | none=>rfl
  | some _=>exact(show False from r).elim
 | some _=>cases u with
  | none=>exact(show False from r).elim
  | some _=>rfl
def yF.getD{o:Option V}{u:bd}(r:yF o u)(J:RelV d d'):RelV (o.getD d) (u.getD d'):=by
 cases o with
 | none=>cases u with
  | none=>exact J
  | some _=>exact(show False from r).elim
 | some _=>cases u with
  | none=>exact(show False from r).elim
  | some _=>exact r
def KV.val(r:KV kvs vs)(k:κ):yF (rq kvs k) (valueAt vs k):=by
 unfold KV at r
 induction r with
 | nil=>exact True.intro
 | @cons p q ps d h t g=>
  obtain⟨h1,h2⟩:=h;by_cases e:p.1=k
  ·have f:q.1=k:=h1.symm.trans e;have b:valueAt (q::d) k=some q.2:=by simp[valueAt,cO,f]
   rw[vI e,b];exact h2
  ·have f:¬q.1=k:=λz=>e<|h1.trans z;have b:valueAt (q::d) k=valueAt d k:=by simp[valueAt,cO,f]
   rw[u9 e,b];exact g
def KV.any{kvs:List<|κ×V}{vs:List<|κ×af}(r:KV kvs vs)(k:κ):(kvs.any λkv=>decide<|kv.1=k)=vs.any λkv=>decide (kv.1=k):=by
 unfold KV at r
 induction r with
 | nil=>rfl
 | cons h t d=>rw[iY,iY,d,h.1]
def KV.repl{kvs:List<|κ×V}{vs:List<|κ×af}(r:KV kvs vs)(k:κ)(ry:RelV y u) :
  KV (kvs.map λkv=>if kv.1=k then(kv.1,y)else kv) (vs.map λkv=>if kv.1=k then(kv.1,u)else kv):=by
 unfold KV at r ⊢
 induction r with
 | nil=>exact .nil
 | @cons p q ps f h t d=>
  rw[bL,bL];refine .cons ?_ d;obtain⟨h1,h2⟩:=h;by_cases e:p.1=k
  ·rw[aO e,aO<|h1.symm.trans e];exact⟨h1,ry⟩
  ·rw[aM e,aM λz=>e<|h1.trans z];exact⟨h1,h2⟩
def KV.put(r:KV kvs vs)(k:κ)(ry:RelV y u):KV (putK kvs k y) (stored vs k u):=by
 unfold putK stored;rw[r.any k];by_cases e:(vs.any λkv=>decide<|kv.1=k)=true
 ·rw[aO e,aO e];exact r.repl k ry
 ·rw[aM e,aM e];exact Paired.snoc r ⟨rfl,ry⟩
def KV.length{kvs:List<|κ×V}{vs:List<|κ×af}(r:KV kvs vs):kvs.length=vs.length:=jC r
end
def Gw{P:aj}{w:ah}{k:Key}(r:RelV (kV k) u):(lB P w).is k u=true:=by
 cases k with
 | inl i=>obtain⟨t,e⟩:=(show ∃t,u=Value.int i t from r);subst e;exact GK P w i t
 | inr x=>obtain⟨t,e⟩:=(show ∃t,u=Value.str x t from r);subst e;exact G9 P w x t
theorem C_{P:aj}{w:ah}:∀{ks:List Key}{us:ba},Vals (ks.map kV) us->ItemsAre (lB P w) ks us
 | [],_,r=>by rw[iC]at r;cases r;exact .nil
 | k::ks,_,r=>by
  rw[bL]at r
  cases r with
  | cons h t=>exact .cons (Gw h)<|C_ t
meta abbrev KT (H:Hp):List (List Key×V)->List (List Key×ak×af)->Prop:=Paired λp q=>p.1=q.1/\H q.2.1=some (.tup<|p.1.map kV)/\RelV p.2 q.2.2
def KT.val{H:Hp}(r:KT H kvs xs)(k:List Key):yF (rq kvs k) ((atKey xs k).map (·.2)):=by
 induction r with
 | nil=>exact True.intro
 | @cons p q ps d h t g=>
  obtain⟨h1,_,h2⟩:=h;by_cases e:p.1=k
  ·have f:q.1=k:=h1.symm.trans e;have b:atKey (q::d) k=some q.2:=by simp[atKey,cO,f]
   rw[vI e,b];exact h2
  ·have f:¬q.1=k:=λz=>e<|h1.trans z;have b:atKey (q::d) k=atKey d k:=by simp[atKey,cO,f]
   rw[u9 e,b];exact g
def KT.repl{H:Hp}{kvs:List<|List Key×V}{xs:List<|List Key×ak×af}(r:KT H kvs xs)(k:List Key)(ry:RelV y u) :
  KT H (kvs.map λkv=>if kv.1=k then(kv.1,y)else kv) (xs.map<|putAt k u):=by
 induction r with
 | nil=>exact .nil
 | @cons p q ps f h t d=>
  rw[bL,bL];refine .cons ?_ d;obtain⟨h1,h2,h3⟩:=h;unfold putAt;by_cases e:p.1=k
  ·rw[aO e,aO<|h1.symm.trans e];exact⟨h1,h2,ry⟩
  ·rw[aM e,aM λz=>e<|h1.trans z];exact⟨h1,h2,h3⟩
def KT.put{H:Hp}(r:KT H kvs xs)(k:List Key)(hb:H b=some (.tup<|k.map kV))(ry:RelV y u) :
  KT H (putK kvs k y) (storedH xs k b u):=by
 have e:(kvs.any λkv=>decide<|kv.1=k)=(atKey xs k).isSome:=by
  rw[yh,(r.val k).yy,iF]
 unfold putK storedH;rw[e];by_cases q:(atKey xs k).isSome=true
 ·rw[aO q,aO q];exact r.repl k ry
 ·rw[aM q,aM q];exact Paired.snoc r ⟨rfl,hb,ry⟩
def KT.keeps{H H':Hp}(r:KT H kvs xs)(J:∀b ys,H b=some (.tup ys)->H' b=some (.tup ys)):KT H' kvs xs:=
 Paired.Yi r λ_ _ z=>⟨z.1,J _ _ z.2.1,z.2.2⟩
section
variable {P:aj}{w:ah}{H:Hp}{h:aq}{a:ak}
def Xc(ok:wC P w H h)(e:Rd H a u):mz P w H h a u:=e.ok ok
def G8{kvs:List<|Key×V}(ok:wC P w H h)(e:Rd H a<|.dK kvs):kvs.length<=sizeLine/\(a == sysModules)=false/\∃vs,KV kvs vs/\h.DictOf (lB P w) a vs:=
 show mz P w H h a (.dK kvs)from Xc ok e
def WJ{kvs:List<|Key×V}(ok:wC P w H h)(e:H a=some (.dK kvs)):kvs.length<=sizeLine/\(a == sysModules)=false/\∃vs,KV kvs vs/\h.DictOf (lB P w) a vs:=G8 ok<|.inl e
def xy{ks:List Key}(ok:wC P w H h)(e:H a=some (.tup<|ks.map kV)):(tupleKind<|lB P w).is h ks a:=by
 obtain⟨_,d,r,o,h1,h2,_,n,h3⟩:=(show mz P w H h a (.tup<|ks.map kV)from ok a _ e);exact⟨o,d.toArray,n,h1,h2,h3,by simpa using C_ r⟩
def Fp{kvs:List<|List Key×V}(ok:wC P w H h)(e:Rd H a<|.dT kvs):kvs.length<=sizeLine/\(a == sysModules)=false /\
  ∃xs,KT H kvs xs/\h.DictOfH (tupleKind<|lB P w) a xs:=by
 obtain⟨z,y,xs,r,o,es,ep,h1,h2,h3,g,j⟩:=(show mz P w H h a (.dT kvs)from Xc ok e);refine⟨z,y,xs,r,o,es,ep,h1,h2,h3,g,λx d=>?_,j⟩;have all:∀{l:List<|List Key×V} {m:List<|List Key×ak×af},KT H l m->∀x∈m,(tupleKind<|lB P w).is h x.1 x.2.1:=by
  intro l m q
  induction q with
  | nil=>intro x d;exact nomatch d
  | @cons p q ps B f t k=>
   intro x d
   rcases bG.mp d with e|d
   ·subst e;exact xy ok (by rw[<- f.1];exact f.2.1)
   ·exact k x d
 exact all r x d
def Gk{kvs:List<|List Key×V}(ok:wC P w H h)(e:H a=some (.dT kvs)):kvs.length<=sizeLine/\(a == sysModules)=false /\
  ∃xs,KT H kvs xs/\h.DictOfH (tupleKind<|lB P w) a xs:=Fp ok<|.inl e
end
abbrev w4 (H:Hp)(a:ak)(y:V)(r:Option V):Prop:=
 (∃d k,Rd H a (.dK d)/\y=kV k/\r=rq d k)\/∃d k b,Rd H a (.dT d)/\y=.ref b/\H b=some (.tup<|k.map kV)/\r=rq d k
abbrev FO (H:Hp)(a:ak)(y v:V)(H':Hp):Prop:=
 (∃d k,H a=some (.dK d)/\y=kV k/\d.length<sizeLine/\H'=upd H a (.dK<|putK d k v)) \/
 ∃d k b,H a=some (.dT d)/\y=.ref b/\H b=some (.tup<|k.map kV)/\d.length<sizeLine/\H'=upd H a (.dT<|putK d k v)
theorem w4.k{H:Hp}{a:ak}{k:Key}(e:H a=some (.dK kvs)):w4 H a (kV k) (rq kvs k):=.inl ⟨kvs,k,.inl e,rfl,rfl⟩
def w4.t{H:Hp}{a:ak}{k:List Key}(e:H a=some (.dT kvs))(J:H b=some (.tup<|k.map kV)):w4 H a (.ref b) (rq kvs k):=.inr ⟨kvs,k,b,.inl e,rfl,J,rfl⟩
theorem FO.k{H:Hp}{a:ak}{kvs:List<|Key×V}{k:Key}{v:V}(e:H a=some (.dK kvs))(J:kvs.length<sizeLine):FO H a (kV k) v (upd H a<|.dK<|putK kvs k v):=.inl ⟨kvs,k,e,rfl,J,rfl⟩
def FO.t{H:Hp}{a:ak}{kvs:List<|List Key×V}{k:List Key}{v:V}(e:H a=some (.dT kvs))(J:H b=some (.tup<|k.map kV))(U:kvs.length<sizeLine) :
  FO H a (.ref b) v (upd H a<|.dT<|putK kvs k v):=.inr ⟨kvs,k,b,e,rfl,J,U,rfl⟩
section
variable {X:Cx}{ai:bp}{σ:St}{H:Hp}{s:aC}{a:ak}{y v:V}{u r:af}{o:Option V}{A:aA}{E:af->aC->Prop}
def Inv.big(I:Inv X ai σ H s):sysModules<s.heap.objs.size:=by
 have h:mainGlobals<s.heap.objs.size:=(I.mod.glob.keeps I.bk).lt;exact lt_trans ⋯ h
def ML{Q:af->aC->Prop}(J:A.units+1<cLine)(I:Inv X ai σ H s)(g:w4 H a y<|some v)(ry:RelV y u)(h:∀w' s',Inv X ai σ H s'->RelV v w'->Q w' s') :
  wpAny (model X.prog X.w) A (getItem (.ref a) u) Q E s:=by
 rcases g with⟨j,k,e,m,l⟩|⟨j,k,b,e,m,B,l⟩
 ·subst m;obtain⟨z,C,vs,d,dd⟩:=G8 I.hok e;obtain⟨w',hw,f⟩:=yF.some_of (v:=v) (o:=valueAt vs k) (by rw[l];exact d.val k);exact wpAny_getItem_of (Gw ry) dd.mapOf hw (h w' _ (I.tok _) f)
 ·subst m
  cases(show u=Value.ref b from ry)
  obtain⟨z,C,xs,d,dd⟩:=Fp I.hok e;obtain⟨w',hw,f⟩:=yF.some_of (v:=v) (o:=(atKey xs k).map (·.2)) (by rw[l];exact d.val k);obtain⟨p,hp,q⟩:=bh.mp hw;refine wpAny_getItem_heap (f7 J) (xy I.hok B) dd hp ?_;rw[q];exact h w' _ (I.tok _) f
def VU{Q:af->aC->Prop}(J:A.units+1<cLine)(I:Inv X ai σ H s)(g:w4 H a y o)(ry:RelV y u)(h:∀s',Inv X ai σ H s'->Q (.bool<|!o.isSome) s') :
  wpAny (model X.prog X.w) A (compareOp .NotIn u<|.ref a) Q E s:=by
 rcases g with⟨f,k,e,j,l⟩|⟨f,k,b,e,j,p,l⟩
 ·subst j;obtain⟨z,m,vs,d,dd⟩:=G8 I.hok e;refine wpAny_notIn_of (Gw ry) m dd.mapOf ?_;rw[<- (d.val k).yy,<- l];exact h _ (I.tok _)
 ·subst j
  cases(show u=Value.ref b from ry)
  obtain⟨z,m,xs,d,dd⟩:=Fp I.hok e;refine wpAny_notIn_heap (f7 J) (xy I.hok p) m dd ?_;have q:=(d.val k).yy;rw[iF]at q;rw[<- q,<- l];exact h _<|I.tok _
def zZ{h':aq}{t':Nat}{ob:HO}(I:Inv X ai σ H s)(J:Mut<|H a)(hs:Heap.SameBut a s.heap h')(U:∃q,h'.get? a=some q)(new:mz X.prog X.w (upd H a ob) h' a ob) :
  Inv X ai σ (upd H a ob) { s with heap:=h',toks:=t' }:=
 I.write (x:=a) (e:=a) J (.inl rfl) (λb q hb z=>(hs.2 b hb).trans z) U new
def N1{P:aj}{w:ah}{H':Hp}{h':aq}{kvs:List<|Key×V}(z:kvs.length<=sizeLine)(U:(a == sysModules)=false)(J:KV kvs vs)(dd:h'.DictOf (lB P w) a vs) :
  mz P w H' h' a (.dK kvs):=⟨z,U,vs,J,dd⟩
def Np{H':Hp}{Q:Unit->aC->Prop}(Z:A.units+1<cLine)(I:Inv X ai σ H s)(g:FO H a y v H')(ry:RelV y u)(U:RelV v r)(h:∀s',Inv X ai σ H' s'->Q Unit.unit s') :
  wpAny (model X.prog X.w) A (setItem (.ref a) u r) Q E s:=by
 rcases g with⟨d,k,e,C,l,m⟩|⟨d,k,b,e,C,K,l,m⟩
 ·subst C m;obtain⟨z,G,vs,f,dd⟩:=WJ I.hok e;have p:vs.length<=sizeLine:=by rw[<- f.length];exact z
  have B:(putK d k v).length<=sizeLine:=by have:=vN d k v;lia
  refine wpAny_setItem_pairs (hsz:=p) (Gw ry) dd λh' dd' hs=>h _ ?_;have L:∃q,h'.get? a=some q:=let⟨q,_,_,j,_⟩:=dd';⟨q,j⟩
  exact zZ I (by rw[e];exact True.intro) hs L<|N1 B G (f.put k U) dd'
 ·subst C m
  cases(show u=Value.ref b from ry)
  obtain⟨z,G,xs,f,dd⟩:=Gk I.hok e;have p:xs.length<=sizeLine:=by rw[<- jC f];exact z
  have B:(putK d k v).length<=sizeLine:=by have:=vN d k v;lia
  refine wpAny_setItem_heap (hsz:=p) (f7 Z) (xy I.hok K) dd λh' dd' hs=>h _ ?_;obtain⟨q,es,ep,j,h2,h3,M,_,N⟩:=dd';refine zZ I (by rw[e];exact True.intro) hs ⟨q,j⟩ ⟨B,G,_,(f.put k K U).keeps λc ys J=>?_,q,es,ep,j,h2,h3,M,N⟩;rw[j8<|RI J e λz=>nomatch z];exact J
end
def Gz{X:Cx}{H:Hp}{s:aC}{a:ak}(I:Inv X ai σ H s)(g:w4 H a y o):s.TypeIs (.ref a) "dict" := by
 rcases g with⟨d,k,e,_,_⟩|⟨d,k,b,e,_,_,_⟩
 ·obtain⟨_,_,vs,_,dd⟩:=G8 I.hok e;exact dd.typeIs
 ·obtain⟨_,_,xs,_,dd⟩:=Fp I.hok e;exact dd.typeIs
def Qj{P:aj}{w:ah}{H:Hp}(h:aq)(hb:sysModules<h.objs.size):mz P w H (h.push { cls:=.type "dict",data:=.dict #[]}) h.objs.size (.dK []):=
 ⟨b7 _,eg.mpr<|Ne.symm<|bD hb,[],.nil,Heap.DictOf.new h⟩
def E9{P:aj}{w:ah}{H:Hp}(h:aq)(hb:sysModules<h.objs.size):mz P w H (h.push { cls:=.type "dict",data:=.dict #[]}) h.objs.size (.dT []):=
 ⟨b7 _,eg.mpr<|Ne.symm<|bD hb,[],.nil,_,#[],0,bu _ rfl,⟨rfl,rfl,rfl⟩,rfl,rfl,fS⟩
abbrev aap:TE:=λ_ H Q=>∀p,H p=none->Q (.ref p) (upd H p<|.dK [])
abbrev aar:TE:=λ_ H Q=>∀p,H p=none->Q (.ref p) (upd H p<|.dT [])
section
variable {X:Cx}{pos:Pos}
def R_:PE X (.Dict [] [] pos) aap:=λai s σ H Q I h=>
 wpAny_Dict_empty ⟨.ref s.heap.objs.size,_,I.laid (a:=s.heap.objs.size) (o:=.dK []) (t':=s.toks) (λ_ _ q=>aN _ q) (aP _)<|Qj s.heap I.big,rfl,h _<|I.hok.fresh<|aP _⟩
def PK:PE X (.Dict [] [] pos) aar:=λai s σ H Q I h=>
 wpAny_Dict_empty ⟨.ref s.heap.objs.size,_,I.laid (a:=s.heap.objs.size) (o:=.dT []) (t':=s.toks) (λ_ _ q=>aN _ q) (aP _)<|E9 s.heap I.big,rfl,h _<|I.hok.fresh<|aP _⟩
end
section
variable {X:Cx}{ai:bp}{σ:St}{H:Hp}{s:aC}{a:ak}{y d:V}{u r:af}{o:Option V}{A:aA}{E:af->aC->Prop}
def YB{Q:af->aC->Prop}(U:A.units+1<cLine)(I:Inv X ai σ H s)(g:w4 H a y o)(ry:RelV y u)(J:RelV d r)(h:∀w' s',Inv X ai σ H s'->RelV (o.getD d) w'->Q w' s') :
  wpAny (model X.prog X.w) A (call (.builtin "dict.get") [.ref a,u,r]) Q E s:=by
 rcases g with⟨j,k,e,m,l⟩|⟨j,k,b,e,m,q,l⟩
 ·subst m;obtain⟨z,p,vs,f,dd⟩:=G8 I.hok e;refine call_meetsIn dw dd.typeIs iG (ir _ _ _) (meets_dict_get_default (lB X.prog X.w) a (Gw ry) p r) ⟨_,dd.mapOf,h _ _ (I.tok _) ?_⟩;rw[l];exact(f.val k).getD J
 ·subst m
  cases(show u=Value.ref b from ry)
  obtain⟨z,p,xs,f,dd⟩:=Fp I.hok e;refine call_meetsIn dw dd.typeIs iG (ir _ _ _) (meetsH_dict_get_default (tupleKind<|lB X.prog X.w) a b p r) ⟨f7 U,k,xs,xy I.hok q,dd,h _ _ (I.tok _) ?_⟩;rw[l];exact(f.val k).getD J
end
meta abbrev NK:=ag×ag
abbrev WH (x:ag):Int:=reduceHash<|Builtin.Tuple.tupleHashOf<|x.map hashInt
abbrev abU (k:NK):Int:=reduceHash<|Builtin.Tuple.tupleHashOf [WH k.1,WH k.2]
abbrev dpE (x:(NK×ak×af)):DictEntry:=⟨abU x.1,.ref x.2.1,x.2.2⟩
abbrev ads (a:ak)(xs:List<|NK×ak×af)(h:aq):Prop:=(a == sysModules)=false/\xs.length<=sizeLine/\∃o es ep,h.get? a=some o/\o.ExactDict/\o.data=.dict es ep/\es.toList=xs.map dpE/\(xs.map (·.1)).Nodup
abbrev Fd (H:Hp)(b:ak)(k:NK):Prop:=∃r1 r2,H b=some (.tup [.ref r1,.ref r2])/\H r1=some (.tup<|k.1.map V.int)/\H r2=some (.tup<|k.2.map V.int)
section
variable {X:Cx}
def KO(J:X.A.units+1<cLine):Xi X (λx y H Q=>∃a v,x=.ref a/\w4 H a y (some v)/\Q v H):=by
 intro f d ai s σ H x y v u Q I rx ry h hs;obtain⟨a,z,rfl,g,q⟩:=h
 cases rx
 have m:=Gz I g;unfold subscriptTail;refine aG ?_;rw[getitemInPython_of_ne m.not_modules];refine aG<|wpAny_specialOf m PySem.F.slot_dict_getitem.lookup ?_;have fin:wpAny (model X.prog X.w) X.A (subscripted d false (.ref a) u) (λr j=>wpAny (model X.prog X.w) X.A (letTemporaryGo f (.ref a) r >>= λ_=>pure r) (EP X ai σ Q) X.xe j) X.xe s:=by
  rw[hs];exact wpAny_operating<|ML J I g ry λC B p k=>aG<|wpAny_letTemporaryGo<|aL ⟨z,H,p,k,q⟩
 first
  | exact aL (aG fin)
  | exact aG (aL<|aG fin)
  | exact aG fin
def MQ(J:X.A.units+1<cLine):qx X (compareOp .NotIn) (λy x H Q=>∃a o,x=.ref a/\w4 H a y o/\Q (.bl<|!o.isSome) H):=by
 intro ai s σ H y x v u Q I ry rx h;obtain⟨a,o,rfl,g,q⟩:=h
 cases rx
 exact VU J I g ry λf d=>⟨.bl<|!o.isSome,H,d,rfl,q⟩
def set_dict(J:X.A.units+1<cLine):HJ X (λo i v H Q=>∃a H',o=.ref a/\FO H a i v H'/\Q H'):=by
 intro ai s σ H o i v p iv u Q I d k j h;obtain⟨a,H',rfl,g,q⟩:=h
 cases d
 exact Np J I g k j λm f=>⟨H',f,q⟩
abbrev YN (tk J:TE):TE:=λσ H Q=>∀p,H p=none->tk σ (upd H p<|.dT []) λx H1=>J σ H1 λy H2=>H2 p=some (.dT [])/\∃b ks,x=.ref b/\H2 b=some (.tup<|ks.map kV)/\Q (.ref p) (upd H2 p<|.dT [(ks,y)])
def P_{k v:aE}{tk U:TE}(hu:X.A.units+1<cLine)(Z:PE X k tk)(hv:PE X v U):PE X (.Dict [some k] [v] pos) (YN tk U):=by
 intro ai s σ H Q I q;have hn:=I.hok.fresh<|aP s.heap.objs.size;have L:=I.laid (a:=s.heap.objs.size) (o:=.dT []) (h':=s.heap.push { cls:=.type "dict",data:=.dict #[]}) (t':=s.toks) (λ_ _ q=>aN _ q) (aP _)<|E9 s.heap I.big;refine wpAny_Dict_any rfl rfl (by simp) (show 1<=15 by decide) ?_;refine pairTrees_cons_walk<|mR (Z ai _ σ _ _ L<|q _ hn) λkv C ⟨x,H1,G,rx,p⟩=>mR (hv ai C σ H1 _ G p) λvv N ⟨y,H2,f,ry,e,b,ks,ex,m,B⟩=>pairTrees_nil_walk ?_;subst ex
 cases rx
 obtain⟨z,J,xs,d,dd⟩:=Gk f.hok e
 cases d
 unfold storeAll;rw[jP];refine aG (aG<|wpAny_dictSet_heap (hsz:=by simp) (show X.A.units<cLine by lia) (xy f.hok m) dd λh' dd' hs=>aL ?_);dsimp only;rw[jS];refine aL ⟨.ref s.heap.objs.size,_,?_,rfl,B⟩;obtain⟨q',es,ep,g,h2,h3,K,_,M⟩:=dd';refine zZ f (by rw[e];exact True.intro) hs ⟨q',g⟩ ⟨by show 1<=sizeLine;decide,J,_,(KT.put (kvs:=[]) .nil ks m ry).keeps λc ys j=>?_,q',es,ep,g,h2,h3,K,M⟩;rw[j8<|RI j e λz=>nomatch z];exact j
abbrev abY:V->List V->Hp->VK->Prop:=λx vs H Q=>∃a b ks d y,x=.ref a/\vs=[.ref b,y]/\H a=some (.dT d)/\H b=some (.tup<|ks.map kV)/\Q ((rq d ks).getD y) H
def Uu(U:X.A.units+1<cLine):MtM X "dict.get" abY:=by
 intro ai s σ H x vs v us Q I rx f h;obtain⟨a,b,ks,g,y,rfl,rfl,m,p,q⟩:=h
 cases rx
 cases f with
 | @cons _ G _ CI r1 f=>
  cases f with
  | @cons _ k _ EV r2 f=>
   cases f
   cases r1
   obtain⟨z,B,xs,j,dd⟩:=Gk I.hok m;refine call_meetsIn dw dd.typeIs iG (ir _ _ _) (meetsH_dict_get_default (tupleKind<|lB X.prog X.w) a b B k) ⟨f7 U,ks,xs,xy I.hok p,dd,?_⟩;refine⟨(rq g ks).getD y,H,I.tok _,?_,q⟩;have d:=j.val ks
   cases e1:rq g ks with
   | none=>
    rw[e1]at d
    cases e2:(atKey xs ks).map (·.2)with
    | none=>exact r2
    | some C=>rw[e2]at d;exact d.elim
   | some J=>
    rw[e1]at d
    cases e2:(atKey xs ks).map (·.2)with
    | none=>rw[e2]at d;exact d.elim
    | some C=>rw[e2]at d;exact d
end
section
variable {P:aj}{w:ah}{A:aA}{E:af->aC->Prop}{s:aC}{it d:ak}{i ep:Nat}{es:Array DictEntry}{o:Obj}{k0 v0:af}
def UT{Q:bd->aC->Prop}(hi:IsItemIter s.heap it d i es.size ep k0 v0)(ho:s.heap.get? d=some o)(hd:o.data=.dict es ep)(lt:i<es.size)
  (q:∀h',IsItemIterOut h' it d (i+1) es.size ep es[i].key es[i].val s.heap.objs.size->h'.get? s.heap.objs.size=some { cls:=.type "tuple",data:=.seq #[es[i].key,es[i].val]}->h'.objs.size=s.heap.objs.size+1 ->
   (∀b ob,b≠it->s.heap.get? b=some ob->h'.get? b=some ob)->Q (some<|.ref s.heap.objs.size) { s with heap:=h' }) :
  wpAny (model P w) A (pyNext<|.ref it) Q E s:=by
 obtain⟨hp,V,O,M,os⟩:=s;have ty:Shared.TypeIs ⟨hp,V,O,M,os⟩ (.ref it) "dict_itemiterator" := ⟨_,hi,rfl⟩;have own:Builtin.Dict_items.ownsTuple "dict_itemiterator" = true:=by decide
 have nn:¬((Value.ref d == Value.none)=true):=br;have n0:¬((i:Int)<0):=()
 unfold pyNext;refine aG<|fJ<|dH (name:=Str.ofString "__next__") ty cA<|cD cA ty gJ ?_<|gF _;refine aG (aL<|aG<|aG ?_)
 first
  | refine aG (dS ty<|aL<|aG<|eN hi rfl ?_)
  | refine aG<|eW ty<|aL<|aG<|eN hi rfl ?_
 dsimp[own,dD];show wpAny (model P w) _ (if (Value.ref d == Value.none)=true then _ else _) _ _ ⟨hp,V,O,M,os⟩;rw[aM nn];refine aG<|aL<|aG<|fm ho hd ?_;rw[aM<|show ¬_ by simp];refine aG<|aL<|aG<|gp ho hd ?_;rw[aM<|show ¬_ by simp];refine aL ?_;dsimp[n0,cQ,di,eX lt];refine aG ?_
 first
  | refine aG (dS ty<|aL<|aG<|f9 ty ?_)
  | refine aG<|eW ty<|aL<|aG<|f9 ty ?_
 show wpAny (model P w) _ (setField (.ref it) 3 (rawInt<|(i:Int)+1) >>= _) _ _ _;refine aG (f_ hi (show _ by simp) λh1 e1 G=>?_);have G:Heap.SameBut it hp h1:=G;have e1:IsItemIter h1 it d (i+1) es.size ep k0 v0:=by
  have z:((i+1:Nat):Int)=(i:Int)+1:=()
  unfold IsItemIter;rw[z];simpa[rawInt]using e1
 have j:Shared.TypeIs ⟨h1,V,O,M,os⟩ (.ref it) "dict_itemiterator" := ⟨_,e1,rfl⟩;refine aG (cH<|aG<|f9 j<|aG<|f9 j ?_)
 skip
 delta Builtin.Dict_items.pairFromOwner;refine aG<|wpAny_newTuple<|?_;have Z:it<hp.objs.size:=a_ hi;have g:h1.objs.size=hp.objs.size:=G.1;obtain⟨h2,f⟩:∃h2,h2=h1.push { cls:=.type "tuple",data:=.seq #[es[i].key,es[i].val]}:=⟨_,rfl⟩;have e2:IsItemIter h2 it d (i+1) es.size ep k0 v0:=by rw[f];exact aN _ e1
 have t2:h2.get? hp.objs.size=some { cls:=.type "tuple",data:=.seq #[es[i].key,es[i].val]}:=by rw[f,<- g];exact bu _ rfl
 have L:h2.objs.size=hp.objs.size+1:=by rw[f,dN,g]
 have U:∀b ob,b≠it->hp.get? b=some ob->h2.get? b=some ob:=λb ob nb k=>by rw[f];exact aN _ (G.extBut b ob nb k)
 skip
 rw[<- f,g];refine aG ?_;delta Builtin.Dict_items.ownedTupleIsFree;refine aG<|dX e2 rfl (x:=.none) rfl<|aL ?_;dsimp[dD];refine aG<|dX e2 rfl (x:=k0) rfl<|aG<|dX e2 rfl (x:=v0) rfl ?_;refine aG (f_ e2 (show _ by simp) λh3 e3 p=>?_);have p:Heap.SameBut it h2 h3:=p;have e3:IsItemIter h3 it d (i+1) es.size ep es[i].key v0:=e3;refine aG (f_ e3 (show _ by simp) λW N C=>?_);have C:Heap.SameBut it h3 W:=C;have N:IsItemIter W it d (i+1) es.size ep es[i].key es[i].val:=N;refine aG (f_ N (show _ by simp) λY K B=>?_);have B:Heap.SameBut it W Y:=B;have K:IsItemIterOut Y it d (i+1) es.size ep es[i].key es[i].val hp.objs.size:=K;refine aG (f_ K (show _ by simp) λh6 T J=>?_);have J:Heap.SameBut it Y h6:=J;have T:IsItemIterOut h6 it d (i+1) es.size ep es[i].key es[i].val hp.objs.size:=T;have m:∀b ob,b≠it->h2.get? b=some ob->h6.get? b=some ob:=λb ob nb k=>J.extBut b ob nb<|B.extBut b ob nb<|C.extBut b ob nb<|p.extBut b ob nb k;refine aG (wpAny_letGo<|aL<|aL ⟨_,rfl,aL<|q h6 T (m _ _ (ne_of_gt Z) t2) ?_ λb ob nb k=>m b ob nb<|U b ob nb k⟩)
 skip
 rw[J.1,B.1,C.1,p.1,L]
def XS{Q:bd->aC->Prop}(hh:A.handled=none)(hi:IsItemIter s.heap it d i es.size ep k0 v0)(J:s.heap.get? d=some o)(U:o.data=.dict es ep)(ge:es.size<=i)
  (q:∀h',Heap.ExtBut it s.heap h'->Q none { s with heap:=h' }):wpAny (model P w) A (pyNext<|.ref it) Q E s:=by
 have ty:s.TypeIs (.ref it) "dict_itemiterator" := ⟨_,hi,rfl⟩;have own:Builtin.Dict_items.ownsTuple "dict_itemiterator" = true:=by decide
 have g:¬((Value.ref d == Value.none)=true):=br;have f:¬((i:Int)<0):=()
 unfold pyNext;refine aG<|fJ<|dH (name:=Str.ofString "__next__") ty cA<|cD cA ty gJ ?_<|gF _;refine aG (aL<|aG<|aG ?_)
 first
  | refine aG (dS ty<|aL<|aG<|eN hi rfl ?_)
  | refine aG<|eW ty<|aL<|aG<|eN hi rfl ?_
 dsimp[own,dD];show wpAny (model P w) _ (if (Value.ref d == Value.none)=true then _ else _) _ _ s;rw[aM g];refine aG<|aL<|aG<|fm J U ?_;rw[aM<|show ¬_ by simp];refine aG<|aL<|aG<|gp J U ?_;rw[aM<|show ¬_ by simp];refine aL ?_;dsimp[f,cQ,di,gb ge];refine aG ?_
 first
  | refine aG (dS ty<|aL ?_)
  | refine aG<|eW ty<|aL ?_
 show wpAny (model P w) _ (setField (.ref it) 2 .none >>= _) _ _ s;refine aG (jn hi rfl (show _ by simp) ?_)
 skip
 refine aG ?_;dsimp[newExc,newTuple];refine aG (bY (aG (m:=firstArgMember _ _)<|wpAny_of_eq (a:=Value.none) (by first|rfl|(dsimp[firstArgMember];rfl))<|bY ?_<|by size_fits)<|by size_fits);dsimp[raiseNew];have hn:A.in1.handled=none:=hh;refine aG<|wpAny_handled<|?_;rw[hn];refine aG<|aL<|wpAny_throw<|?_;refine aG<|wpAny_isInstance (b:=true) (T := "StopIteration") ⟨_,bu _ rfl,rfl⟩ isSubtype_stop<|aL<|q _<|((jh ..).extBut.push _).push _
end
def Uk:entryFor table "dict_itemiterator.__iter__" = some Builtin.«dict_keyiterator.__iter__»:=entryFor_alias (by kernel_rfl) rfl (id' := "dict_keyiterator.__iter__") ∅ (by kernel_rfl)
abbrev Itd (d:ak)(o:Obj)(u:HO)(ps:List<|ak×V):It:=
 ⟨λi H=>∃a v,ps[i]?=some (a,v)/\H d=some (.frz o u),λi H x H'=>∃T,H T=none/\x=.ref T/\∀a v,ps[i]?=some (a,v)->H'=upd H T (.tup [.ref a,v]),λi H=>i=ps.length/\H d=some (.frz o u)⟩
def Jd{P:aj}{w:ah}{K:au}(d it:ak){o:Obj}{es:Array DictEntry}{ps:List<|ak×V}(hd:o.data=.dict es ep)(hl:ps.length=es.size)
  (hp:∀i a v,ps[i]?=some (a,v)->∀h:i<es.size,es[i].key=.ref a/\RelV v es[i].val):Turn P w K (.Tuple elts x1 tpos) (Itd d o u ps) [it] it (λi h=>∃k0 v0,IsItemIter h it d i es.size ep k0 v0) where
 mem:=by simp
 obj:=λi h st b hb=>by
  obtain⟨k0,v0,st⟩:=st;have:b=it:=by simpa using hb
  subst this;exact⟨_,st,λv z=>by cases z⟩
 keep:=λi h h' ⟨k0,v0,st⟩ k=>⟨k0,v0,k it (by simp) _ st⟩
 item:=by
  x_go;subst hP hw hK;obtain⟨k0,v0,st⟩:=st;obtain⟨a,v,J,N⟩:=hg;have ho:s.heap.get? d=some o:=(show mz _ _ H s.heap d (.frz o u)from I.hok d _ N).1;have lt:i<es.size:=by rw[<- hl];exact(aJ.mp J).1
  obtain⟨ek,rv⟩:=hp i a v J lt;refine UT st ho hd lt λh' C hT hsz hk=>⟨_,rfl,wpAny_letOwnedTupleGo_items C λh2 he2 L=>?_⟩;have B:H s.heap.objs.size=none:=I.hok.fresh<|aP _;have G:it<s.heap.objs.size:=a_ st;have k2:∀b g,b≠it->s.heap.get? b=some g->h2.get? b=some g:=λb g h1 f=>L.extBut b g h1<|hk b g h1 f;have hT2:h2.get? s.heap.objs.size=some { cls:=.type "tuple",data:=.seq #[es[i].key,es[i].val]}:=L.extBut _ _ (ne_of_gt G) hT;obtain⟨i0,M,i2,O,i4,Z⟩:=hf it (by simp);have nT:∀b g,s.heap.get? b=some g->b≠s.heap.objs.size:=λb g f=>bD<|a_ f;have p:∀c y,H c=some y->c≠it:=λc y qc z=>by rw[z,i0]at qc;cases qc
  have I2:Inv X ai σ (upd H s.heap.objs.size<|.tup [.ref a,v]) { s with heap:=h2 }:=by
   refine I.step (g':=s.gens) (d':=s.drawn) (ch:=[it]) (λb hb=>?_) (λb g _ _ j f _=>?_) (λb g _ _ j f _=>?_) (λb g j f n=>?_) (λb g j f=>?_) (λb ys f=>?_) (λb g Y f=>?_) (λb ps' f=>?_) (λm hm=>?_) (λb Y f=>?_) I.bare
   ·have:b=it:=by simpa using hb
    subst this;exact⟨O,M,i4,Z⟩
   ·exact k2 b g (λz=>j<|by simp[z]) f
   ·exact⟨g.slots,k2 b g (λz=>j<|by simp[z]) f⟩
   ·rw[j8<|nT b g f];exact n
   ·exact⟨g,k2 b g (λz=>j<|by simp[z]) f⟩
   ·rw[j8<|kF f B];exact f
   ·rw[j8<|kF f B];exact f
   ·exact⟨#[],by rw[j8<|kF f B,f];simp⟩
   ·obtain⟨g,U,W,T,r⟩:=hm;exact⟨g,U,W,k2 _ g (Ne.symm M) T,r⟩
   ·by_cases z:b=s.heap.objs.size
    ·subst z;rw[kP]at f
     cases f
     exact⟨by show 2<=sizeLine;decide,[es[i].key,es[i].val],.cons ek<|.cons rv .nil,⟨_,hT2,rfl,rfl,0,rfl⟩⟩
    ·rw[j8 z]at f;refine(I.hok b Y f).stay (λc y hc q'=>k2 c y ?_ q') (λc q'=>?_) λc ys q'=>?_
     ·rcases hc with z|z
      ·rw[z];exact p b Y f
      ·exact p c _ z
     ·rw[j8<|kF q' B];exact q'
     ·rw[j8<|kF q' B];exact q'
  refine⟨.ref s.heap.objs.size,_,I2,rfl,⟨s.heap.objs.size,B,rfl,λa' v' hy=>?_⟩,⟨_,_,he2⟩,λb hb=>?_⟩
  ·rw[J]at hy
   cases hy
   rfl
  ·have:b=it:=by simpa using hb
   subst this;rw[j8<|bD G];exact i0
 done:=by
  x_go;subst hP hw hK;obtain⟨k0,v0,st⟩:=st;obtain⟨hi,N⟩:=hg;have ho:s.heap.get? d=some o:=(show mz _ _ H s.heap d (.frz o u)from I.hok d _ N).1;refine XS (I.ok.hd hc) st ho hd (by rw[<- hl];lia) λh' J=>⟨rfl,?_⟩;obtain⟨i0,M,i2,O,i4,Z⟩:=hf it (by simp);exact I.turned (t':=s.toks) (λb g hb f=>J b g hb f) i0 M O i4 Z
 self:=by
  intro A i s Q E st q;obtain⟨k0,v0,st⟩:=st;have ty:s.TypeIs (.ref it) "dict_itemiterator" := ⟨_,st,rfl⟩;exact jx ty gP<|cD gP ty Uk (aL ⟨_,rfl, "dict_itemiterator",_,ty,cA.lookup,q⟩)<|PySem.F.args_dict_itemiterator_iter_1 _
section
variable {X:Cx}
def Hf{A:aA}{E:af->aC->Prop}{s:aC}{Q:af->aC->Prop}(ty:s.TypeIs (.ref d) "dict")(J:(d == sysModules)=false)
  (q:Q (.ref s.heap.objs.size) { s with heap:=s.heap.push { cls:=.type "dict_items",data:=.fields #[.ref d]}}):wpAny (model X.prog X.w) A (call (.builtin "dict.items") [.ref d]) Q E s:=by
 refine cD PySem.F.slot_dict_items ty PySem.F.entry_dict_items ?_<|PySem.F.args_dict_items_1 _;delta Builtin.«dict.items»;refine aG ?_;delta Builtin.Dict.noArgs;refine aG (iR ty ?_)
 skip
 refine aL ?_
 skip
 delta Builtin.Dict.showsAll;have nd:¬((d == sysModules)=true):=by rw[J];exact br
 rw[aM nd];exact aG<|aL<|aG<|bY<|aL ⟨_,rfl,q⟩
def GX{A:aA}{E:af->aC->Prop}{s:aC}{v:ak}{o:Obj}{es:Array DictEntry}{Q:af->aC->Prop}(hv:s.heap.IsItemsView v d)(J:s.heap.get? d=some o)(U:o.data=.dict es ep)
  (q:Q (.ref s.heap.objs.size) { s with heap:=s.heap.push { cls:=.type "dict_itemiterator",data:=.fields #[.none,.bool false,.ref d,.int 0 0,.int es.size 0,.int ep 0,.none,.none]}}) :
  wpAny (model X.prog X.w) A (pyIter<|.ref v) Q E s:=by
 obtain⟨k,f,j,g⟩:=id hv;have own:Builtin.Dict_items.ownsTuple "dict_itemiterator" = true:=by decide
 refine jx hv.typeIs jd<|cD jd hv.typeIs PySem.F.entry_dict_items_iter ?_<|PySem.F.args_dict_items_iter_1 _;delta Builtin.«dict_items.__iter__»;refine aG<|aL<|aG ?_;delta Builtin.Dict_items.dictOf;refine aG<|dX f g (x:=.ref d) rfl<|aL<|aG ?_;delta Builtin.Dict_items.newIterator;refine aG<|fm J U<|aG<|gp J U ?_;dsimp[own,dD];refine bY (aL ⟨_,rfl, "dict_itemiterator",_,⟨_,bu _ rfl,rfl⟩,cA.lookup,?_⟩) (by dsimp[sizeOk,Builtin.Dict_items.ownedTupleFields,bf,aV,bH,cP,dh];lia);simpa[rawInt,Builtin.Dict_items.ownedTupleFields]using q
end
section
variable {X:Cx}
theorem kt_at{H:Hp}:∀{kvs:List<|List Key×V}{xs:List<|List Key×ak×af},KT H kvs xs->kvs.length=xs.length/\∀(i:Nat) (p:List Key×V),kvs[i]?=some p->∃y:List Key×ak×af,xs[i]?=some y/\p.1=y.1/\H y.2.1=some (.tup<|p.1.map kV)/\RelV p.2 y.2.2
 | [],[],_=>⟨rfl,λi p h=>by simp at h⟩
 | [],_::_,r=>nomatch r
 | _::_,[],r=>nomatch r
 | a::kvs,b::xs,.cons z r=>by
  obtain⟨l,q⟩:=kt_at r;refine⟨by simp[l],λi p h=>?_⟩
  cases i with
  | zero=>
   have:a=p:=by simpa using h
   subst this;exact⟨b,rfl,z⟩
  | succ i=>exact q i p<|by simpa using h
abbrev aat (to:TE):TI:=λσ H R=>to σ H λx H1=>∃d f,x=.ref d/\H1 d=some (.dT f)/\∀(o:Obj) (ps:List<|ak×V),ps.length=f.length->(∀(i:Nat) a v,ps[i]?=some (a,v)->∃ks:List Key,f[i]?=some (ks,v)/\H1 a=some (.tup<|ks.map kV))->R (Itd d o (.dT f) ps) (upd H1 d<|.frz o<|.dT f)
def QH{apos cpos:Pos}{e:aE}{to:TE}(he:PE X e to)(hbase:attributeBase e "items" X.env (eval e X.env)=eval e X.env<|>ε)(hline:(apos.endLine == cpos.line)=true<|>ε) :
  PI X (.Tuple elts x1 tpos) (.Call (.Attribute e "items" apos) [] [] cpos) (aat to):=by
 intro ai s σ H R I h;refine wpAny_Call_method0_late hbase hline<|mR (he ai s σ H _ I h) λv g ⟨x,H1,I1,r1,d,f,ex,L,Y⟩=>?_;subst ex
 cases r1
 obtain⟨z,T,xs,q,dd⟩:=Gk I1.hok L;have ty:=dd.typeIs (s:=g);obtain⟨ob,es,ep,G,g2,O,P,g5,g6⟩:=id dd;obtain⟨W,kt⟩:=kt_at q;refine⟨"dict", "dict.items",iu,PySem.F.slot_dict_items,PySem.F.type_dict_items,ty,λa B=>?_,iD rfl<|PySem.evalArgs_none<|Hf ty T ?_⟩
 ·cases B
  exact⟨ob,G,g2.2.1⟩
 have j:(g.heap.push { cls:=.type "dict_items",data:=.fields #[.ref d]}).get? d=some ob:=aN _ G;refine GX (o:=ob) (es:=es) (ep:=ep) ⟨_,bu _ rfl,rfl,rfl⟩ j O ?_;have Z:Inv X ai σ H1 { g with heap:=(g.heap.push { cls:=.type "dict_items",data:=.fields #[.ref d]}).push { cls:=.type "dict_itemiterator",data:=.fields #[.none,.bool false,.ref d,.int 0 0,.int es.size 0,.int ep 0,.none,.none]}}:=
  I1.kept (t':=g.toks) λb o k=>aN _<|aN _ k
 have N:∀b ys,H1 b=some (.tup ys)->upd H1 d (.frz ob<|.dT f) b=some (.tup ys):=λb ys k=>by
  rw[j8<|RI k L λz=>nomatch z];exact k
 have I3:Inv X ai σ (upd H1 d<|.frz ob<|.dT f) _:=zZ (t':=g.toks) (ob:=.frz ob<|.dT f) Z (by rw[L];exact True.intro) ⟨rfl,λ_ _=>rfl⟩ ⟨ob,aN _ j⟩ ⟨aN _ j,z,T,xs,q.keeps N,ob,es,ep,aN _ j,g2,O,P,g6⟩;have J:es.size=xs.length:=by have:=dG List.length P;simpa using this
 obtain⟨ps,p⟩:∃ps:List<|ak×V,ps=(List.range f.length).map λi=>((xs.getD i ([],0,.none)).2.1,(f.getD i ([],.non)).2):=⟨_,rfl⟩;have pl:ps.length=f.length:=by rw[p];simp
 have m:∀(i:Nat) a v,ps[i]?=some (a,v)->∃(ks:List Key) (y:List Key×ak×af),f[i]?=some (ks,v)/\xs[i]?=some y/\y.2.1=a/\H1 a=some (.tup<|ks.map kV)/\RelV v y.2.2:=λi a v e=>by
  have hi:i<f.length:=by rw[<- pl];exact(aJ.mp e).1
  obtain⟨y,h1,h2,h3,C⟩:=kt i f[i] (aH hi);rw[p,aQ,cK hi]at e;have M:((xs.getD i ([],0,.none)).2.1,(f.getD i ([],.non)).2)=(a,v):=bB e;rw[aI,aI,h1,aH hi]at M;have B:y.2.1=a:=dG Prod.fst M;have U:f[i].2=v:=dG Prod.snd M;exact⟨f[i].1,y,by rw[aH hi,<- U],h1,B,by rw[<- B];exact h3,by rw[<- U];exact C⟩
 refine⟨(g.heap.push { cls:=.type "dict_items",data:=.fields #[.ref d]}).objs.size,[(g.heap.push { cls:=.type "dict_items",data:=.fields #[.ref d]}).objs.size],_,Itd d ob (.dT f) ps,_,rfl,I3,Jd d _ O (by rw[pl,W,J]) λi a v e K=>?_,⟨.none,.none,bu _ rfl⟩,λb hb=>?_,Y ob ps pl λi a v e=>?_⟩
 ·obtain⟨ks,y,h1,h2,h3,C,h5⟩:=m i a v e;have:es.toList[i]?=some (entryOfKey (tupleKind<|lB X.prog X.w) y):=by rw[P,aQ,h2];rfl
  have e2:es[i]=entryOfKey (tupleKind<|lB X.prog X.w) y:=by
   rw[dm,eX K]at this;exact bB this
  rw[e2,<- h3];exact⟨rfl,h5⟩
 ·have k:b=(g.heap.push { cls:=.type "dict_items",data:=.fields #[.ref d]}).objs.size:=by simpa using hb
  have le:g.heap.objs.size<=b:=by rw[k,dN];exact Nat.le_succ _
  refine I1.Il le ?_;have nd:b≠d:=λw=>absurd (a_ G) (by rw[<- w];exact Nat.not_lt.mpr le);rw[j8 nd];exact I1.hok.fresh le
 ·obtain⟨ks,y,h1,_,_,C,_⟩:=m i a v e;exact⟨ks,h1,C⟩
end
abbrev C0 (e:ak)(h:aq):Prop:=∃o vs,h.get? e=some o/\o.data=.fields vs/\vs[2]?=some .none/\o.dict=none
abbrev kW (e:ak){α:Type}(m:Sem α):Prop:=∀(M:Model) (d:PySem.Ctx) (Q:α->Pos->aC->Prop) (E:af->Pos->aC->Prop) (p:Pos) (s:aC),Sem.wp M d m Q E p s->C0 e s.heap->Sem.wp M d m (λa p s=>Q a p s/\C0 e s.heap) (λv p s=>E v p s/\C0 e s.heap) p s
section
variable {e:ak}{α β:Type}
def kW.bind{m:Sem α}{f:α->Sem β}(h1:kW e m)(h2:∀a,kW e<|f a):kW e (m >>= f):=by
 intro M d Q E p s h c;rw[Sem.wp_bind']at h ⊢;exact Sem.wp_mono M d m (λa g s' z=>h2 a M d Q E g s' z.1 z.2) (λ_ _ _ z=>z) p s<|h1 M d _ _ p s h c
theorem kW.pure(a:α):kW e (pure a:Sem α):=λM d Q E p s h c=>by rw[Sem.wp_pure']at h ⊢;exact⟨h,c⟩
def kW.OO(w:String):kW e (PySem.unsupported w:Sem α):=λM d Q E p s h c=>by
 have h:Sem.wp M d (.unsupported w:Sem α) Q E p s:=h;rw[Sem.wp_unsupported]at h;exact h.elim
def kW.load(a:ak):kW e (PySem.load a):=λM d Q E p s h c=>by
 have h:Sem.wp M d (.load a none .pure) Q E p s:=h;show Sem.wp M d (.load a none .pure) _ _ p s;rw[Sem.wp_load]at h ⊢;obtain⟨o,f,h⟩:=h;rw[i9]at h;exact⟨o,f,by rw[i9];exact⟨h,c⟩⟩
def C0.update{h:aq}{a:ak}{f:Obj->Obj}(c:C0 e h)(hf:∀o vs,o.data=.fields vs->vs[2]?=some .none->∃ws,(f o).data=.fields ws/\ws[2]?=some .none/\(f o).dict=o.dict):C0 e (h.update a f):=by
 obtain⟨o,vs,h1,h2,h3,d⟩:=c;by_cases z:a=e
 ·subst z;obtain⟨ws,g,j,k⟩:=hf o vs h2 h3;exact⟨f o,ws,gq f h1<|iS g,g,j,k.trans d⟩
 ·exact⟨o,vs,by rw[fZ _ _ z];exact h1,h2,h3,d⟩
def kW.update(a:ak)(f:Obj->Obj)(hf:∀o vs,o.data=.fields vs->vs[2]?=some .none->∃ws,(f o).data=.fields ws/\ws[2]?=some .none/\(f o).dict=o.dict):kW e (PySem.update a f):=λM d Q E p s h c=>by
 have h:Sem.wp M d (.update a none f .pure) Q E p s:=h;show Sem.wp M d (.update a none f .pure) _ _ p s;rw[Sem.wp_update]at h ⊢;obtain⟨g,h⟩:=h;rw[i9]at h;exact⟨g,by rw[i9];exact⟨h,c.update hf⟩⟩
def kW.alloc(o:Obj):kW e (PySem.alloc o):=λM d Q E p s h c=>by
 have h:Sem.wp M d (.alloc o .pure) Q E p s:=h;show Sem.wp M d (.alloc o .pure) _ _ p s;rw[Sem.wp_alloc,i9]at h ⊢;obtain⟨g,vs,h1,h2,h3,f⟩:=c;exact⟨h,g,vs,aN _ h1,h2,h3,f⟩
def kW.stack:kW e PySem.stack:=λM d Q E p s h c=>by
 have h:Sem.wp M d (.stack .pure) Q E p s:=h;show Sem.wp M d (.stack .pure) _ _ p s;rw[Sem.wp_stack,i9]at h ⊢;exact⟨h,c⟩
def kW.ite{c:Prop}[Decidable c]{a b:Sem α}(h1:kW e a)(h2:kW e b):kW e (if c then a else b):=by
 split
 ·exact h1
 ·exact h2
def kW.field(v:af)(i:Nat):kW e (PySem.field v i):=by
 unfold PySem.field PySem.fieldsOf;refine kW.bind ?_ λvs=>?_
 ·split
  ·refine kW.bind (kW.load _) λo=>?_;split
   ·exact kW.pure _
   ·exact kW.OO _
  ·exact kW.OO _
 ·split
  ·exact kW.pure _
  ·exact kW.OO _
def kW.setField(v x:af)(i:Nat)(hi:i≠2):kW e (PySem.setField v i x):=by
 unfold PySem.setField PySem.updateField;split
 ·refine kW.bind (kW.load _) λo=>?_;split
  ·refine kW.ite (kW.update _ _ λo vs h1 h2=>⟨_,g_ h1 _,?_,?_⟩) (kW.OO _)
   ·rw[iO hi];exact h2
   ·unfold Obj.mapFields;split<;>rfl
  ·exact kW.OO _
 ·exact kW.OO _
def kW.frameEnvs:kW e PySem.frameEnvs:=by
 unfold PySem.frameEnvs;exact kW.bind kW.stack λ_=>kW.pure _
def kW.behind(env:Env)(outer:List Env):kW e (behindIsImport env outer):=by
 unfold behindIsImport;refine kW.ite (kW.pure _)<|kW.ite (kW.pure _)<|kW.bind (kW.field _ _) λ_=>kW.pure _
def kW.under:kW e underTheClaimsCaller:=by
 unfold underTheClaimsCaller;exact kW.bind kW.stack λ_=>kW.pure _
def kW.kept(env:Env)(b:Bool)(l:List Env):kW e (keptBack env b l):=by
 unfold keptBack;split
 ·refine kW.ite (kW.pure _) (kW.bind kW.under λ_=>kW.pure _)
 ·exact kW.pure _
theorem kW.ready:∀(l:List Env),kW e (readyFrames l)
 | []=>kW.pure _
 | env::outer=>by
  unfold readyFrames;split
  ·refine kW.bind (kW.load _) λo=>?_;refine kW.ite (kW.pure _) ?_;refine kW.bind (kW.behind _ _) λ_=>kW.bind (kW.kept _ _ _) λ_=>kW.bind (kW.update _ _ λo vs h1 h2=>⟨vs,h1,h2,rfl⟩) λ_=>kW.ready outer
  ·exact kW.OO _
def kW.frameOf(env:Env):kW e (PySem.frameOf env):=by
 unfold PySem.frameOf;refine kW.bind kW.frameEnvs λl=>kW.bind ?_ λ_=>?_
 ·unfold frameObject;split
  ·exact kW.pure _
  ·exact kW.bind (kW.ready _) λ_=>kW.pure _
 ·split
  ·exact kW.pure _
  ·exact kW.OO _
def kW.place(f:ak)(b:Bool):kW e (entryPlaceOf f b):=by
 unfold entryPlaceOf;refine kW.bind kW.stack λ_=>?_;split
 ·exact kW.pure _
 ·exact kW.pure _
def kW.entry(a b c d f:af)(l:ba):kW e (EntryCells.newEntry a b c d f l):=by
 unfold EntryCells.newEntry newFields newObj
 repeat (first|exact kW.pure _|exact kW.OO _|refine kW.bind (kW.alloc _) λ_=>?_|refine kW.bind (kW.OO _) λ_=>?_|refine kW.ite ?_ ?_|(refine kW.bind ?_ λ_=>?_))
def kW.flight(v:af)(f:Option ak):kW e (setFlight v f):=by
 unfold setFlight;refine kW.bind (kW.field _ _) λ_=>kW.ite (kW.setField _ _ _ ⋯)<|kW.pure _
def kW.note(v:af)(env:Env):kW e (noteFrame v env):=by
 unfold noteFrame;split
 ·refine kW.bind (kW.field _ _) λh=>kW.ite ?_ ?_
  ·refine kW.bind (kW.field _ _) λ_=>kW.ite (kW.pure _) ?_;refine kW.bind (kW.setField _ _ _ ⋯) λ_=>kW.bind (kW.frameOf _) λ_=>kW.bind (kW.place _ _) λ_=>kW.bind (kW.entry _ _ _ _ _ _) λ_=>kW.setField _ _ _ ⋯
  ·refine kW.bind (kW.frameOf _) λ_=>kW.bind (kW.place _ _) λ_=>kW.bind (kW.entry _ _ _ _ _ _) λ_=>kW.setField _ _ _ ⋯
 ·exact kW.OO _
def kW.leave(v:af)(env:Env):kW e (leaving env v):=by
 unfold leaving;exact kW.bind (kW.note _ _) λ_=>kW.flight _ _
def kW.any{m:Sem α}{A:aA}{Q:α->aC->Prop}{E:af->aC->Prop}{s:aC}(k:kW e m)(h:wpAny M A m Q E s)(c:C0 e s.heap):wpAny M A m (λa s'=>Q a s'/\C0 e s'.heap) (λv s'=>E v s'/\C0 e s'.heap) s:=
 λf p d=>k M f _ _ p s (h f p d) c
end
def mz.here{P:aj}{w:ah}{H:Hp}{h:aq}{a:ak}(x:mz P w H h a o):∃ob,h.get? a=some ob:=by
 cases o with
 | lst xs=>obtain⟨_,_,_,_,e⟩:=x;exact⟨_,e⟩
 | tup xs=>obtain⟨_,_,_,p⟩:=x;obtain⟨o,e,_⟩:=p;exact⟨_,e⟩
 | dK d=>obtain⟨_,_,_,_,o,_,_,e,_⟩:=x;exact⟨_,e⟩
 | dT d=>obtain⟨_,_,_,_,o,_,_,e,_⟩:=x;exact⟨_,e⟩
 | set S n=>obtain⟨o,_,_,_,e,_⟩:=x;exact⟨_,e⟩
 | ins C dx fs=>obtain⟨_,_,_,e,_⟩:=x;exact⟨_,e⟩
 | own y=>exact x
 | xd fs=>obtain⟨_,⟨_,_,_,e,_⟩,_⟩:=x;exact⟨_,e⟩
 | rng lo hi=>obtain⟨_,_,_,e⟩:=x;exact⟨_,e⟩
 | frz ob u=>obtain⟨e,_⟩:=x;exact⟨_,e⟩
 | tbl ps=>exact⟨_,(show h.get? a=some _ from x)⟩
 | met f y=>exact⟨_,(show h.get? a=some _ from x)⟩
 | ext g=>obtain⟨_,⟨o,e⟩,_⟩:=x;exact⟨_,e⟩
structure Fly (l:List Env)(g:aq)(pn:bp)(H:Hp)(e:ak)(cls:af)(h:aq):Prop where
 ex:∃(B:aq) (a0:af),Heap.FlyingW B l e cls a0 h/\(∀a u,H a=some u->∃o,B.get? a=some o)/\(∀b o,g.get? b=some o->b∉frs l->∃o',B.get? b=some o')/\(∀p∈pn,∃o',B.get? p.1=some o')/\C0 e h
structure Made (X:Cx)(H:Hp)(e:ak)(cls:af)(g:aq)(h:aq):Prop where
 ex:∃(g':aq) (vs:ba),Heap.MadeExcOf g' h e cls vs/\g'.FunFrames X.base X.stack/\(∀a u,H a=some u->∃o,g'.get? a=some o)/\(∀b o,g.get? b=some o->∃o',g'.get? b=some o')/\(∀p∈X.pn,∃o',g'.get? p.1=some o')
def J8{g:aq}{e:ak}{cls:af}(M:Heap.MadeExcOf g h e cls vs):C0 e h:=by
 obtain⟨t,d,_⟩:=M.there;exact⟨_,_,d,rfl,rfl,rfl⟩
abbrev Bu (X:Cx)(H:Hp)(e:ak)(cls:af)(s':aC):Prop:=Made X H e cls X.s₀.heap s'.heap\/Fly X.stack X.s₀.heap X.pn H e cls s'.heap
section
variable {X:Cx}{ai:bp}{σ:L2.St}{H:Hp}{s':aC}{e:ak}{cls:af}
def Al(I:Inv X ai σ H s')(J:X.ex=[]){B:aq}(k1:B.StaysIn s'.heap)(k2:B.StaysIn h')(up:s'.heap.UpToSlots h')(c1:∀a u,H a=some u->∃o,B.get? a=some o)(c2:∀b o,X.s₀.heap.get? b=some o->b∉X.fs->∃o',B.get? b=some o') :
  Un X.fs [] X.H₀ H X.s₀.heap h'/\wC X.prog X.w H h':=by
 have nx:∀b:ak,b∉X.ex:=λb z=>by rw[J]at z;cases z
 have f:∀b o o',B.get? b=some o'->s'.heap.get? b=some o->h'.get? b=some o:=λb o o' d es=>by
  have:=k1 b o' d;rw[es]at this;cases this;exact k2 b o d
 have slot:∀b o,X.s₀.heap.get? b=some o->X.H₀ b=none->b∈X.fs->∃g,h'.get? b=some { o with slots:=g }:=λb o q n hb=>by
  obtain⟨g,e1⟩:=I.base.slot b o q n hb<|nx b;obtain⟨_,C,m,p⟩:=I.ok.uF.mem hb;rw[q]at m;cases m;obtain⟨j,e2⟩:=up b _ e1 p;exact⟨j,e2⟩
 refine⟨⟨λb o q n hb _=>?_,λb o q n hb _=>slot b o q n hb,λb o q n _=>I.base.free b o q n<|nx b,λb o q _=>?_,I.base.tups,I.base.frzs,I.base.tbls⟩,λa u k=>?_⟩
 ·obtain⟨o',d⟩:=c2 b o q hb;exact f b o o' d (I.base.keep b o q n hb<|nx b)
 ·by_cases hb:b∈X.fs
  ·obtain⟨g,z⟩:=slot b o q (I.ok.frf b hb) hb;exact⟨_,z⟩
  ·obtain⟨o',d⟩:=c2 b o q hb;exact⟨o',k2 b o' d⟩
 ·refine(I.hok a u k).stay (λb v hb q=>?_) (λ_ q=>q) λ_ _ q=>q
  rcases hb with z|z
  ·subst z;obtain⟨o',d⟩:=c1 _ u k;exact f _ v o' d q
  ·obtain⟨o',d⟩:=c1 b _ z;exact f b v o' d q
def Hy(I:Inv X ai σ H s')(U:X.stack=X.env::X.outer)(hf:X.env.frame=some X.env.locals)(Z:X.ex=[])(R:Bu X H e cls s'){Q:aC->Prop}{E:af->aC->Prop}
  (hQ:∀h',Un X.fs [] X.H₀ H X.s₀.heap h'->wC X.prog X.w H h'->Fly X.outer X.s₀.heap [] H e cls h'->Q { s' with heap:=h' }):wpAny (model X.prog X.w) X.A (leaving X.env<|.ref e) (λ_ s''=>Q s'') E s':=by
 have C:X.A.frames=some (X.env::X.outer):=by rw[<- U];exact I.ok.frames
 have K:∀b o,X.s₀.heap.get? b=some o->b∉X.fs->b∉frs (X.env::X.outer):=λb o q hb z=>by
  unfold frs at z;rw[fO,hf]at z
  rcases bG.mp z with z|z
  ·rw[z]at q;exact absurd (bO (a_ q) I.ok.above) (eG _)
  ·exact hb z
 rcases R with⟨k,vs,M,j,L,N,_⟩|⟨B,a0,F,c1,c2,_,k0⟩
 ·
  rw[U]at j;have J:∀env∈(X.env::X.outer),∀b,env.frame=some b->b∈frs (X.env::X.outer):=λenv O b hb=>gY.mpr ⟨env,O,hb⟩;refine c5 (kW.any (e:=e) (kW.leave _ _) (wpAny_leaves_madeW (Q:=λ_ s''=>∃h' t,s''={ s' with heap:=h' }/\Heap.FlyingW (PySem.W.hideAll k<|frs (X.env::X.outer)) X.outer e cls (.ref t) h'/\s'.heap.UpToSlots h') (E:=λ_ _=>False) (base:=PySem.W.hideAll k<|frs (X.env::X.outer)) C hf (λb o q=>fY _ q) (PySem.W.funFrames_hide j J) M λh' t d T P g=>⟨h',t,rfl,d,g⟩)<|J8 M) (λ_ s'' z=>?_) λ_ _ z=>z.1.elim;obtain⟨⟨h',t,rfl,d,g⟩,k0⟩:=z;have k1:(PySem.W.hideAll k<|frs (X.env::X.outer)).StaysIn s'.heap:=λb o q=>M.keeps b o<|fY _ q;have c1:∀a u,H a=some u->∃o,(PySem.W.hideAll k<|frs (X.env::X.outer)).get? a=some o:=λa u G=>by
   obtain⟨o,q⟩:=L a u G;refine⟨o,eo _ q λz=>?_⟩;rw[<- U]at z;rw[I.zW a z]at G;cases G
  have c2:∀b o,X.s₀.heap.get? b=some o->b∉X.fs->∃o',(PySem.W.hideAll k<|frs (X.env::X.outer)).get? b=some o':=λb o q hb=>by
   obtain⟨o',q'⟩:=N b o q;exact⟨o',eo _ q'<|K b o q hb⟩
  obtain⟨un,f⟩:=Al I Z k1 d.1 g c1 c2;exact hQ h' un f ⟨_,_,d,c1,λb o q hb=>c2 b o q hb,λp hp=>absurd hp<|by simp,k0⟩
 ·rw[U]at F c2;refine c5 (kW.any (e:=e) (kW.leave _ _) (wpAny_leaves_onW (Q:=λ_ s''=>∃h',s''={ s' with heap:=h' }/\Heap.FlyingW B X.outer e cls a0 h'/\s'.heap.UpToSlots h') (E:=λ_ _=>False) C hf F λh' d g=>⟨h',rfl,d,g⟩) k0) (λ_ s'' z=>?_) λ_ _ z=>z.1.elim;obtain⟨⟨h',rfl,d,g⟩,k0'⟩:=z;have m:∀b o,X.s₀.heap.get? b=some o->b∉X.fs->∃o',B.get? b=some o':=λb o q hb=>c2 b o q<|K b o q hb;obtain⟨un,f⟩:=Al I Z F.1 d.1 g c1 m;exact hQ h' un f ⟨_,_,d,c1,m,λp hp=>absurd hp<|by simp,k0'⟩
end
abbrev xN (P:aj)(w:ah):Si:=λouter H s E e d=>∃f cls H',e=.ref f/\d.os=s.os/\AllBare d.gens/\Un (frs outer) [] H H' s.heap d.heap/\wC P w H' d.heap/\Fly outer s.heap [] H' f cls d.heap/\E cls none H'
section
variable {P:aj}{w:ah}{K:au}{mg:Str->bd}{base:aq}{N:ar}{qual:Str}{scope:Scope}{f:ak}{cd:af}{A:aA}{outer:List Env}{s:aC}{H:Hp}{E:XK}
def M7{H':Hp}{cls:af}(I:Inv (ye (xN P w) P w K mg base N qual scope f cd A outer s H E) ai σ' H' s')
  (hf:(envOfC qual scope s.heap.objs.size f cd).frame=some (envOfC qual scope s.heap.objs.size f cd).locals)
  (R:Bu (ye (xN P w) P w K mg base N qual scope f cd A outer s H E) H' ea cls s') (J:E cls none H'):(ye (xN P w) P w K mg base N qual scope f cd A outer s H E).xe (.ref ea) s':=by
 refine Hy I rfl hf rfl R (Q:=λd=>xN P w outer H s E (.ref ea) d) λh' un g fl=>?_;exact⟨ea,cls,H',rfl,I.os,I.bare,un,g,fl,J⟩
abbrev EX (X:Cx):XK:=λcls _ H'=>X.ex=[]/\∀ai d s' e,Inv X ai d H' s'->Bu X H' e cls s'->X.xe (.ref e) s'
def TR{X:Cx}(hP:X.prog=P)(hw:X.w=w):Passes (xN P w) X (EX X):=by
 intro ai σ H s e s' I ⟨J,cls,H',K,os,f,un,k,⟨B,a0,F,c1,c2,_,k0⟩,m⟩;subst K hP hw;obtain⟨G,g,d,t,j⟩:=s';obtain rfl:j=s.os:=os;refine m.2 ai σ _ J (I.call (h':=G) (g':=g) (d':=d) (t':=t) (ch:=[]) un k f λb z=>absurd z<|by simp) (.inr ⟨B,a0,F,c1,λb o q hb=>?_,λp hp=>?_,k0⟩)
 ·obtain⟨o',q'⟩:=I.base.there b o q (by rw[m.1];simp);exact c2 b o' q' hb
 ·obtain⟨q,_,L,C,_⟩:=I.pin p<|bM _ hp;exact c2 p.1 _ q λz=>(bG.mp<|I.AU _ z).elim L C
abbrev Yl (X:Cx)(C:ak)(t:TA):TS:=λ_ σ H=>t σ H λvs H'=>vs.length<=sizeLine/\EX X (.ref C) none H'
def E6{X:Cx}{x:Str}{B:String}{e:aE}{t:TA}{np:Pos}(O:OwnCls x C bmB newId X.mg X.base)(FB:ExcBaseFacts B newId initId bmB)(hh:X.A.handled=none)(ha:PA X (e::es) t)(hg:Gl X x<|>ε)
  (hs:starEach (e::es) X.env=(false,eval e X.env)::starEach es X.env<|>ε) (U:((backTo cpos<|starEach es X.env).any (·.1)=false)<|>ε) (Z:(x == ("__debug__" : Str))=false<|>δ) :
  PS X (.Raise (some<|.Call (.Name x np) (e::es) [] cpos) none pos) (Yl X C t):=by
 kcf_m;obtain⟨tl,N,nm,q,bs,hdct,sn,sub,ab,col,dd,k0,k1,k2,k3,k5,mN,J,G,f,T⟩:=O.obj;refine wpAny_Raise_call_subU (C:=C) (nm:=nm) (q:=q) (N:=N) (bs:=bs) (bm:=tl) (hdct:=hdct) (sn:=sn) (sub:=sub) (ab:=ab) (col:=col) (dd:=dd) (k0:=k0) (k1:=k1) (k2:=k2) (k3:=k3) (k5:=k5)
  FB FB.hasB FB (mN:=mN) (T.hasType FB.hasBase) hh (by rw[hs];show(false || (backTo cpos<|starEach es X.env).any (·.1))=false;rw[U];rfl) f (xT I hg O.bound ⟨rfl,?_⟩ Z)
 have m:=ha cpos ai s σ H _ I h;rw[hs]at m ⊢;refine Calls.evalArgs_plain<|mR m λus k ⟨vs,H2,d,r2,L,j,K⟩=>?_;refine⟨rfl,by rw[<- r2.length];exact L,d.bk _ _ J,G.keeps d.bk,T.keeps d.bk,λh' g M=>?_⟩;refine K ai σ { k with heap:=h' } g ?_ (.inl ⟨k.heap,us,M,d.stack,λa u g=>?_,λb o q=>?_,λp hp=>⟨_,(d.pin p<|bM _ hp).1⟩⟩)
 ·exact d.kept (t':=k.toks) M.keeps
 ·exact(d.hok a u g).here
 ·exact d.base.there b o q<|by rw[j];simp
end
abbrev Ay:List (Str ⊕ TE)->St->Hp->(Hp->Prop)->Prop
 | [],_,H,k=>k H
 | .inl x::ps,σ,H,k=>x.length<=1000/\Ay ps σ H k
 | .inr t::ps,σ,H,k=>t σ H λv H'=>∃i,v=.int i/\i.natAbs.log2<64/\Ay ps σ H' k
inductive FParts (X:Cx):List aE->List (Str ⊕ TE)->Prop
 | nil:FParts X [] []
 | txt {x:Str} {j pos} {es:List aE} {ps:List<|Str ⊕ TE} (h:FParts X es ps):FParts X (.Constant (.str x) j pos::es) (.inl x::ps)
 | val {e:aE} {pos:Pos} {t:TE} {es:List aE} {ps:List<|Str ⊕ TE} (he:PE X e t) (h:FParts X es ps):FParts X (.FormattedValue e (-1) none pos::es) (.inr t::ps)
theorem w_{X:Cx}{Q:VK}:∀{es:List aE}{ps:List<|Str ⊕ TE},FParts X es ps->∀(H:Hp) (s:aC) (out:Str),Inv X ai σ H s->out.length+2000 * es.length<=sizeLine ->
  Ay ps σ H (λH'=>∀x:Str,x.length<=sizeLine->Q (.str x) H')->wpAny (model X.prog X.w) X.A (joinParts out<|evalEach es X.env) (EP X ai σ Q) X.xe s
 | _,_,.nil,H,s,out,I,d,h=>joinParts_nilE (joinParts_nil (show EP X ai σ Q _ _ from⟨.str out,H,I.tok _,⟨_,rfl⟩,h out<|by simpa using d⟩)<|by simpa using d)
 | _,_,.txt (x:=x) hp,H,s,out,I,d,h=>by
  refine joinParts_consE<|joinParts_cons<|Calls.Constant_str ?_;rw[bH]at d;have g:=h.1;have f:(out++x).length=out.length+x.length:=strLen_append ..;exact⟨by rw[f];lia,w_ hp H _ _ (I.tok _) (by rw[f];lia) h.2⟩
 | _,_,.val (e:=e) (t:=t) he hp,H,s,out,I,d,h=>by
  rw[bH]at d;refine joinParts_consE<|joinParts_cons<|FormattedValue_plain<|mR (he ai s σ H _ I h) λv m ⟨x,H1,j,r1,i,g,hi,h1⟩=>?_;subst g;obtain⟨q,rfl⟩:=r1;refine formatField_int_small () ?_;have p:(Str.ofString<|toString i).length<=65:=by
   have:=int_text_length_le (a:=i) (k:=64) ⋯ hi;rw[PySem.ofString_length];exact this
  have f:(out++Str.ofString (toString i)).length=out.length+(Str.ofString<|toString i).length:=strLen_append ..;exact⟨by rw[f];lia,w_ hp H1 _ _ (j.tok _) (by rw[f];lia) h1⟩
abbrev tFs (ps:List<|Str ⊕ TE):TE:=λσ H Q=>Ay ps σ H λH'=>∀x:Str,x.length<=sizeLine->Q (.str x) H'
def acf{X:Cx}(h:FParts X (e1::e2::es) ps)(J:2000 * (e1::e2::es).length<=sizeLine<|>δ):PE X (.JoinedStr (e1::e2::es) pos) (tFs ps):=
 λai s σ H Q I q=>JoinedStr_many<|w_ h H s Str.empty I (by rw[show Str.empty.length=0 from rfl,cG];exact J) q
abbrev Cx.Ca (X:Cx)(pn':bp)(xe':af->aC->Prop):Cx:={ X with xe:=xe',pn:=pn' }
abbrev xu:HO:=.ext λ_=>True
abbrev Cx.hand (X:Cx)(pn':bp)(e:ak)(oe:Obj):Cx:={ X with A:=X.A.mark<|some<|.ref e,calm:=false,xe:=λ_ _=>False,pn:=pn',H₀:=upd X.H₀ e<|.frz oe xu}
structure XO (C:ak)(o:Obj):Prop where
 cls:o.cls=.ref C
 dict:o.dict=none
 ctx:∃vs,o.data=.fields vs/\vs[2]?=some .none
structure Fr0 (X:Cx)(e:ak):Prop where
 no:∀o,X.s₀.heap.get? e≠some o
 tup:∀xs,X.H₀ e≠some (.tup xs)
 frz:∀o u,X.H₀ e≠some (.frz o u)
 tbl:∀ps,X.H₀ e≠some (.tbl ps)
section
variable {X:Cx}{ai:bp}{σ:L2.St}{H:Hp}{s':aC}{e:ak}{cls:af}
def M5(I:Inv X ai σ H s')(hst:X.stack=X.env::X.outer)(hf:X.env.frame=some X.env.locals)(R:Bu X H e cls s'){Q:Unit->aC->Prop}{E:af->aC->Prop}
  (hQ:∀h' B a0,Heap.HeldW B (X.env::X.outer) e cls a0 X.env.locals h'->B.StaysIn s'.heap->s'.heap.UpToSlots h'->(∀a u,H a=some u->∃o,B.get? a=some o)->(∀b o,X.s₀.heap.get? b=some o->b∉X.fs->∃o',B.get? b=some o')->(∀p∈X.pn,∃o',B.get? p.1=some o')->C0 e h'->Q Unit.unit { s' with heap:=h' }) :
  wpAny (model X.prog X.w) X.A (noteFrame (.ref e) X.env) Q E s':=by
 have m:X.A.frames=some (X.env::X.outer):=by rw[<- hst];exact I.ok.frames
 have L:∀b o,X.s₀.heap.get? b=some o->b∉X.fs->b∉frs (X.env::X.outer):=λb o q hb z=>by
  unfold frs at z;rw[fO,hf]at z
  rcases bG.mp z with z|z
  ·rw[z]at q;exact absurd (bO (a_ q) I.ok.above) (eG _)
  ·exact hb z
 rcases R with⟨k,vs,M,j,V,Y,m3⟩|⟨B,a0,F,c1,c2,c3,k0⟩
 ·rw[hst]at j;have J:∀env∈(X.env::X.outer),∀b,env.frame=some b->b∈frs (X.env::X.outer):=λenv C b hb=>gY.mpr ⟨env,C,hb⟩;have Z:=PySem.W.funFrames_hide j J;obtain⟨t,C,T,ht⟩:=M.there;have K:(PySem.W.hideAll k<|frs (X.env::X.outer)).get? e=none:=by
   cases N:(PySem.W.hideAll k<|frs (X.env::X.outer)).get? e with
   | none=>rfl
   | some o'=>have:=fY _ N;rw[M.new]at this;cases this
  have k1:(PySem.W.hideAll k<|frs (X.env::X.outer)).StaysIn s'.heap:=λb o q=>M.keeps b o<|fY _ q;have go:wpAny (model X.prog X.w) X.A (noteFrame (.ref e) X.env) (λ_ d=>∃h',d={ s' with heap:=h' }/\Heap.HeldW (PySem.W.hideAll k<|frs (X.env::X.outer)) (X.env::X.outer) e cls (.ref t) X.env.locals h'/\s'.heap.UpToSlots h') (λ_ _=>False) s':=by
   unfold noteFrame;dsimp[hf];refine aG<|dX C rfl (x:=.none) rfl ?_;rw[aM ⋯];refine wpAny_entryW (base:=PySem.W.hideAll k<|frs (X.env::X.outer)) (a0:=.ref t) m (Z.of_keeps λb o hb _=>⟨o,M.keeps b o hb,rfl⟩) hf C k1 K rfl (by simp) rfl λh' P=>?_;obtain⟨f,x2,U,g⟩:=P;exact⟨h',rfl,⟨f,K,x2,U⟩,g⟩
  refine c5 (kW.any (e:=e) (kW.note _ _) go<|J8 M) (λ_ d z=>?_) λ_ _ z=>z.1.elim;obtain⟨⟨h',rfl,f,g⟩,k0⟩:=z;refine hQ h' _ _ f k1 g (λa u G=>?_) (λb o q hb=>?_) (λp hp=>?_) k0
  ·obtain⟨o,q⟩:=V a u G;refine⟨o,eo _ q λz=>?_⟩;rw[<- hst]at z;rw[I.zW a z]at G;cases G
  ·obtain⟨o',q'⟩:=Y b o q;exact⟨o',eo _ q'<|L b o q hb⟩
  ·obtain⟨o',q'⟩:=m3 p hp;obtain⟨q,_,n1,O,_⟩:=I.pin p<|bM _ hp;refine⟨o',eo _ q' λz=>?_⟩;rw[<- hst]at z;exact(bG.mp<|I.AU _ z).elim n1 O
 ·rw[hst]at F c2;refine c5 (kW.any (e:=e) (kW.note _ _) (wpAny_looks_onW (Q:=λ_ d=>∃h',d={ s' with heap:=h' }/\Heap.HeldW B (X.env::X.outer) e cls a0 X.env.locals h'/\s'.heap.UpToSlots h') (E:=λ_ _=>False) m hf F λh' f g=>⟨h',rfl,f,g⟩) k0) (λ_ d z=>?_) λ_ _ z=>z.1.elim;obtain⟨⟨h',rfl,f,g⟩,k0'⟩:=z;exact hQ h' B a0 f F.1 g c1 (λb o q hb=>c2 b o q<|L b o q hb) c3 k0'
end
section
variable {X:Cx}{pn' ai:bp}{xe':af->aC->Prop}{σ:L2.St}{H:Hp}{s':aC}{e C:ak}{B h6:aq}{a0:af}
def C1(I:Inv (X.Ca pn' xe') ai σ H s')(hex:X.ex=[])(F:Heap.FlyingW B (X.env::X.outer) e (.ref C) a0 h6)(k1:B.StaysIn s'.heap)(up:s'.heap.UpToSlots h6)
  (c1:∀a u,H a=some u->∃o,B.get? a=some o) (c2:∀b o,X.s₀.heap.get? b=some o->b∉X.fs->∃o',B.get? b=some o') (c3:∀p∈pn',∃o',B.get? p.1=some o') (k0:C0 e h6) :
  Fr0 X e/\H e=none/\∃oe,XO C oe/\Inv (X.hand pn' e oe) [] σ (upd H e<|.frz oe xu) { s' with heap:=h6 }:=by
 obtain⟨un,V⟩:=Al I hex k1 F.1 up c1 c2;have hn:H e=none:=by
  cases q:H e with
  | none=>rfl
  | some u=>obtain⟨o,z⟩:=c1 e u q;rw[F.2.1]at z;cases z
 obtain⟨f,U,G,g2,g3,g5⟩:=k0;have ns:∀o,X.s₀.heap.get? e≠some o:=λo q=>by
  by_cases hb:e∈X.fs
  ·obtain⟨_,W,g,Z⟩:=I.ok.uF.mem hb;have g:X.s₀.heap.get? e=some W:=g;rw[q]at g;cases g;obtain⟨Y,z⟩:=un.slot e o q (I.ok.frf e hb) hb (by simp);rw[G]at z;have z:f=_:=bB z;rw[z]at g2;exact Z _ g2
  ·obtain⟨o',z⟩:=c2 e o q hb;rw[F.2.1]at z;cases z
 have K:∀(b:ak) (O:Obj),s'.heap.get? b=some O->(∀vs,O.data≠.fields vs)->b≠e:=λb O q d z=>by
  obtain⟨Y,L⟩:=up b O q d;rw[z,G]at L;have L:f=_:=bB L;rw[L]at g2;exact d _ g2
 obtain⟨m,hm,hl⟩:=id I.loc;have j:s'.heap.Ns X.env.locals m:=hm;have J:∀c v,s'.heap.IsCell c v->h6.IsCell c v:=λc v h9=>by
  obtain⟨oc,q,d⟩:=h9;obtain⟨Y,z⟩:=up c oc q λvs y=>by rw[d]at y;cases y
  exact⟨_,z,d⟩
 have P:X.env.locals≠e:=by
  obtain⟨oL,es,ep,q,d,_⟩:=id j;exact K _ oL q λvs y=>by rw[d]at y;cases y
 have xo:XO C f:=by
  obtain⟨_,_,_,oe,vs,T,oT,ts,N,⟨hc,_⟩,hd,_⟩:=F;rw[G]at N;have N:f=oe:=bB N;subst N;exact⟨hc,g5,U,g2,g3⟩
 have no:∀u,H e≠some u:=λu q=>by rw[hn]at q;cases q
 have fr:Fr0 X e:=⟨ns,λxs q=>no _<|un.tups e xs q,λo u q=>no _<|un.frzs e o u q,λps q=>let⟨_,z⟩:=un.tbls e ps q;no _ z⟩;refine⟨fr,hn,f,xo,⟨I.ok.mod,I.ok.kind,I.ok.glob,I.ok.blt,I.ok.above,I.ok.inj,I.ok.has,I.ok.cab,λh=>(by cases h),I.ok.frames,I.ok.stk,I.ok.exf,λb o q=>⟨(I.ok.bs b o q).1,?_⟩,I.ok.bsz,I.ok.noex,I.ok.exfs,I.ok.uF,λb hb=>?_⟩,I.os,I.bare,?_,⟨m,up.ns j,λi x v h1 h2 h3=>?_⟩,λx c h=>?_,?_,λx c h=>?_,λp hp=>?_,λb u q=>?_,I.len⟩
 ·show upd X.H₀ e _ b=none;rw[j8 λz=>ns o<|by rw[<- z];exact(I.ok.bs b o q).1];exact(I.ok.bs b o q).2
 ·show upd X.H₀ e _ b=none;obtain⟨_,W,g,Z⟩:=I.ok.uF.mem hb;rw[j8 λz=>ns W<|by rw[<- z];exact g];exact I.ok.frf b hb
 ·have h0:∀b o,X.s₀.heap.get? b=some o->upd X.H₀ e (.frz f xu) b=none->X.H₀ b=none:=λb o q n=>by
   rwa [j8 λz=>ns o<|by rw[<- z];exact q]at n
  refine⟨λb o q n h _=>un.keep b o q (h0 b o q n) h<|by simp,λb o q n h _=>un.slot b o q (h0 b o q n) h<|by simp,λb o q n _=>?_,λb o q _=>un.there b o q<|by simp,λb xs q=>?_,λb o u q=>?_,λb ps q=>?_⟩
  ·rw[j8 λz=>ns o<|by rw[<- z];exact q];exact un.free b o q (h0 b o q n) (by simp)
  ·have q:upd X.H₀ e (.frz f xu) b=some (.tup xs):=q;by_cases hb:b=e
   ·rw[hb,kP]at q;cases q
   ·rw[j8 hb]at q ⊢;exact un.tups b xs q
  ·have q:upd X.H₀ e (.frz f xu) b=some (.frz o u):=q;by_cases hb:b=e
   ·rw[hb,kP]at q ⊢;exact q
   ·rw[j8 hb]at q ⊢;exact un.frzs b o u q
  ·have q:upd X.H₀ e (.frz f xu) b=some (.tbl ps):=q;by_cases hb:b=e
   ·rw[hb,kP]at q;cases q
   ·rw[j8 hb]at q ⊢;exact un.tbls b ps q
 ·obtain⟨u,r,lk⟩:=hl i x v h1 h2 h3;refine⟨u,r,?_⟩
  rcases lk with⟨k,z⟩|⟨k,c,z,y⟩
  ·exact .inl ⟨k,z⟩
  ·exact .inr ⟨k,c,z,J c _ y⟩
 ·obtain⟨v,z⟩:=I.cell x c h;exact⟨v,J c v z⟩
 ·show upd H e _ X.env.locals=none;rw[j8 P];exact I.free
 ·obtain⟨v,oc,q,d⟩:=I.cell x c h;rw[j8<|K c oc q λvs y=>by rw[d]at y;cases y];exact I.freeC x c h
 ·have hp:p∈pn':=by
   have hp:p∈pn'++[]:=hp
   rwa [bR]at hp
  obtain⟨q,n,n1,n2,d⟩:=I.pin p<|bM _ hp;obtain⟨o',z⟩:=c3 p hp;have M:=k1 _ _ z;rw[q]at M;have M:p.2=o':=bB M;refine⟨by rw[M];exact F.1 _ _ z,?_,n1,n2,d⟩;rw[j8 λy=>by rw[y,F.2.1]at z;cases z];exact n
 ·by_cases hb:b=e
  ·subst hb;rw[kP]at q;cases q;exact⟨G,trivial,⟨f,G⟩,λ_ _ _ _=>trivial⟩
  ·rw[j8 hb]at q;exact(V b u q).stay (λ_ _ _ z=>z) (λc z=>by rw[j8<|kF z hn];exact z) λc xs z=>by rw[j8<|kF z hn];exact z
end
section
variable {X:Cx}{ai:bp}{σ:L2.St}{H:Hp}{s:aC}
def NC{A:aA}{E:af->aC->Prop}{i:Nat}{n:Str}{v:V}{Q:Unit->aC->Prop}(I:Inv X ai σ H s)(hN:X.N.Nodup)(hi:X.N[i]?=some n)(hlo:X.env.scope.names.lookup n=some .local)(hv:σ[i]?=some (some v))
  (h:∀s',Inv X ai (σ.set i none) H s'->Q Unit.unit s'):wpAny M A (unbindName X.env n) Q E s:=by
 obtain⟨m,hn,O⟩:=id I.loc;obtain⟨u,r,lk⟩:=O i n v hi hv<|.inl hlo;have U:m n=some u:=by
  rcases lk with⟨_,z⟩|⟨k,_⟩
  ·exact z
  ·exfalso;have T:X.env.kindOf n=some .local:=hlo
   rcases k with k|k<;>(rw[T]at k;cases k)
 have G:(X.env.scope.kind == .class || (X.env.scope.kind == .module && X.env.locals != X.env.globals))=false:=by rw[I.ok.kind];rfl
 refine wpAny_unbindName_local hlo hn U G λh' u' C hs=>?_;have f:∀b o,X.s₀.heap.get? b=some o->h'.get? b=s.heap.get? b:=λb o q=>hs.2 b<|bD<|bO (a_ q) I.ok.above;obtain⟨oL,_,_,hoL,_⟩:=id hn;refine h _ ⟨I.ok,I.os,I.bare,⟨λb o q B J g=>(f b o q).trans<|I.base.keep b o q B J g,λb o q B J g=>?_,I.base.free,λb o q g=>?_,I.base.tups,I.base.frzs,I.base.tbls⟩,⟨_,C,λj y W e1 e2 e3=>?_⟩,λy c q=>?_,I.free,I.freeC,λp hp=>?_,λb ob q=>?_,by rw[bW];exact I.len⟩
 ·obtain⟨Y,z⟩:=I.base.slot b o q B J g;exact⟨Y,(f b o q).trans z⟩
 ·obtain⟨o',z⟩:=I.base.there b o q g;exact⟨o',(f b o q).trans z⟩
 ·by_cases K:j=i
  ·subst K;have:j<σ.length:=(aJ.mp hv).1;rw[bP this]at e2
   cases e2
  ·rw[bV<|Ne.symm K]at e2;obtain⟨w,r',q⟩:=O j y W e1 e2 e3;refine⟨w,r',?_⟩
   rcases q with⟨k,z⟩|⟨k,c,z,Z⟩
   ·have:y≠n:=λz=>K<|AN hN e1<|z ▸ hi;exact .inl ⟨k,by simp[this,z]⟩
   ·exact .inr ⟨k,c,z,Z.sameBut hs<|I.UM y c z⟩
 ·obtain⟨w,z⟩:=I.cell y c q;exact⟨w,z.sameBut hs<|I.UM y c q⟩
 ·obtain⟨z,n0,L,P,d⟩:=I.pin p hp;exact⟨(hs.2 p.1 L).trans z,n0,L,P,d⟩
 ·refine(I.hok b ob q).stay (λc w hc z=>(hs.2 c ?_).trans z) (λ_ z=>z) λ_ _ z=>z;intro y
  rcases hc with hc|hc
  ·rw[<- hc,y,I.free]at q;cases q
  ·rw[y,I.free]at hc;cases hc
def Inv.Ca(I:Inv X ai σ H s)(xe':af->aC->Prop):Inv (X.Ca (X.pn++ai) xe') [] σ H s:=
 ⟨⟨I.ok.mod,I.ok.kind,I.ok.glob,I.ok.blt,I.ok.above,I.ok.inj,I.ok.has,I.ok.cab,I.ok.hd,I.ok.frames,I.ok.stk,I.ok.exf,I.ok.bs,I.ok.bsz,I.ok.noex,I.ok.exfs,I.ok.uF,I.ok.frf⟩,I.os,I.bare,I.base,I.loc,I.cell,I.free,I.freeC,λp hp=>I.pin p (by
  have hp:p∈(X.pn++ai)++[]:=hp
  rwa [bR]at hp),I.hok,I.len⟩
def Inv.JH{xe':af->aC->Prop}(I:Inv (X.Ca (X.pn++ai) xe') pins' σ H s):Inv X ai σ H s:=
 ⟨⟨I.ok.mod,I.ok.kind,I.ok.glob,I.ok.blt,I.ok.above,I.ok.inj,I.ok.has,I.ok.cab,I.ok.hd,I.ok.frames,I.ok.stk,I.ok.exf,I.ok.bs,I.ok.bsz,I.ok.noex,I.ok.exfs,I.ok.uF,I.ok.frf⟩,I.os,I.bare,I.base,I.loc,I.cell,I.free,I.freeC,λp hp=>I.pin p<|bM _ hp,I.hok,I.len⟩
def Inv.Y7{e:ak}(I:Inv (X.hand (X.pn++ai) e oe) pins' σ H s)(ok:X.Ok)(f0:Fr0 X e):Inv X ai σ H s:=
 have h0:∀b o,X.s₀.heap.get? b=some o->X.H₀ b=none->upd X.H₀ e (.frz oe xu) b=none:=λb o q n=>by
  rw[j8 λz=>f0.no o<|by rw[<- z];exact q];exact n
 ⟨ok,I.os,I.bare,⟨λb o q n=>I.base.keep b o q<|h0 b o q n,λb o q n=>I.base.slot b o q<|h0 b o q n,λb o q n=>I.base.free b o q<|h0 b o q n,I.base.there,λb xs q=>I.base.tups b xs<|show upd X.H₀ e (.frz oe xu) b=_ by rw[j8 λz=>f0.tup xs<|by rw[<- z];exact q];exact q,λb o u q=>I.base.frzs b o u<|show upd X.H₀ e (.frz oe xu) b=_ by rw[j8 λz=>f0.frz o u<|by rw[<- z];exact q];exact q,λb ps q=>I.base.tbls b ps<|show upd X.H₀ e (.frz oe xu) b=_ by rw[j8 λz=>f0.tbl ps<|by rw[<- z];exact q];exact q⟩,I.loc,I.cell,I.free,I.freeC,λp hp=>I.pin p<|bM _ hp,I.hok,I.len⟩
end
section
variable {M:Model}{A:aA}{E:af->aC->Prop}{h:aq}{g:Array GenState}{d:Drawn}{t:Nat}{os:OsState}{C N D N':ak}{nm q nm' q':Str}{bs bm bs' bm':ba}{hdct hdct':Bool}{sn sn':ar}{sub sub':ba}{ab ab':Bool}{col col':bj}{dd dd':Option ak}{k0 k1 k2 k3 k5 k0' k1' k2' k3' k5':bd}{newId newId':String}
def Cd{e:ak}{oe:Obj}{Q:Bool->aC->Prop}(hC:h.get? C=some (excClassObj nm q C N bs bm hdct sn sub ab col dd k0 k1 k2 k3 k5 newId))(Z:h.get? D=some (excClassObj nm' q' D N' bs' bm' hdct' sn' sub' ab' col' dd' k0' k1' k2' k3' k5' newId'))
  (he:h.get? e=some oe) (U:oe.cls=.ref C) (J:bm'.contains (.type "BaseException")=true) (hq:Q ((Value.ref C::bm).contains<|.ref D) ⟨h,g,d,t,os⟩):wpAny M A (excMatches (.ref e)<|.ref D) Q E ⟨h,g,d,t,os⟩:=by
 have j:(Value.ref D::bm').contains (.type "BaseException")=true:=by rw[List.contains_cons,J,Bool.or_true]
 have f:=tc_notTuple;unfold excMatches
 repeat (first|(with_reducible refine wpAny_loadPart_at he ?_;rw[U])|with_reducible refine wpAny_loadPart_at Z ?_|(with_reducible refine wpAny_isSubtype_exc Z ?_;rw[j])|with_reducible refine wpAny_isSubtype_exc hC ?_|wp_step)
 cases hb:(Value.ref C::bm).contains (.ref D)<;>(rw[hb]at hq;wp_walk;exact hq)
end
abbrev mroIn (K:au)(C:ak):Option (ba):=match K.lookup C with
 | some ⟨.type "type",_,.cls cd,sl⟩=>(match cd.mro,sl.toList with
  | .ref C'::bm,[_,_,_,_,some<|.builtin _,_]=>if C'=C/\cd.hasDel=false then some bm else none
  | _,_=>none)
 | _=>none
structure ClsAt (h:aq)(C:ak)(bm:ba):Prop where
 ex:∃nm q N bs hdct sn sub ab col dd k0 k1 k2 k3 k5 newId,h.get? C=some (excClassObj nm q C N bs bm hdct sn sub ab col dd k0 k1 k2 k3 k5 newId)
def Pr{K:au}(X:K.In h)(e:mroIn K C=some bm):ClsAt h C bm:=by
 unfold mroIn at e;split at e
 ·rename_i dd cd j B;split at e
  ·rename_i G bm' k0 k1 k2 k3 n k5 g hs;split at e
   ·rename_i hc
    cases e
    obtain⟨rfl,d⟩:=hc;obtain⟨nm,bs,m,ns,k,p,sn,sub,ab,col,q⟩:=cd;dsimp only at g d;subst g d;have f:j=#[k0,k1,k2,k3,some<|.builtin n,k5]:=by
     obtain⟨l⟩:=j;simp only at hs;rw[hs]
    subst f;exact⟨nm,k,ns,bs,p,sn,sub,ab,col,dd,k0,k1,k2,k3,k5,n,X _ _ B⟩
   ·cases e
  ·cases e
 ·cases e
abbrev unD (i:Nat)(D:Ends):Ends:=⟨λσ H=>D.nx (σ.set i none) H,D.rt,λσ H=>D.bk (σ.set i none) H,λσ H=>D.ct (σ.set i none) H⟩
section
variable {X:Cx}{ai pins':bp}{xe':af->aC->Prop}{σ:L2.St}{H:Hp}{s':aC}{e C Dc:ak}{bm bmD:ba}{x n:Str}{i:Nat}{De:Ends}{b0:aF}{suite:List aF}{np hp:Pos}
def Gn{f:Flow}(Z:X.N.Nodup)(hi:X.N[i]?=some n)(U:X.env.scope.names.lookup n=some .local)(ok:X.Ok)(f0:Fr0 X e)(h:SP (X.hand (X.pn++ai) e oe) [] (unD i De) f s2) :
  wpAny (model X.prog X.w) X.A (do bindName X.env n .none;unbindBehindTheSuite X.env n pos) (λ_ s3=>SP X ai De f s3) X.xe s2:=by
 have m:∀{d:L2.St} {H':Hp},Inv (X.hand (X.pn++ai) e oe) [] d H' s2->(∀s3,Inv X ai (d.set i none) H' s3->SP X ai De f s3)->wpAny (model X.prog X.w) X.A (do bindName X.env n .none;unbindBehindTheSuite X.env n pos) (λ_ s3=>SP X ai De f s3) X.xe s2:=λ{d H'} J k=>by
  have J:=J.Y7 ok f0;have j:i<d.length:=by rw[J.len];exact(aJ.mp hi).1
  refine aG<|wpAny_bindName<|uR (v:=.non) J Z hi (.inl U) rfl (λs3 g=>?_)<|.inr U;unfold unbindBehindTheSuite;refine wpAny_onRaise (NC (v:=.non) g Z hi U (bP j) λB p=>k B ?_)
  rwa [List.set_set]at p
 cases f with
 | next=>obtain⟨d,H',J,q⟩:=h;exact m J λs3 g=>⟨_,_,g,q⟩
 | brk=>obtain⟨d,H',J,q⟩:=h;exact m J λs3 g=>⟨_,_,g,q⟩
 | cont=>obtain⟨d,H',J,q⟩:=h;exact m J λs3 g=>⟨_,_,g,q⟩
 | ret u=>obtain⟨v,d,H',J,r,q⟩:=h;exact m J λs3 g=>⟨v,_,_,g,r,q⟩
def NT(hst:X.stack=X.env::X.outer)(hf:X.env.frame=some X.env.locals)(hex:X.ex=[])(hN:X.N.Nodup)(hi:X.N[i]?=some n)(hlo:X.env.scope.names.lookup n=some .local)(hg:Gl X x)(hm:X.mg x=some (.ref Dc))(mD:mroIn X.K Dc=some bmD)(hbD:bmD.contains (.type "BaseException")=true)
  (I:Inv (X.Ca (X.pn++ai) xe') pins' σ H s') (R:Bu (X.Ca (X.pn++ai) xe') H e (.ref C) s') (mC:mroIn X.K C=some bm) (hCD:(Value.ref C::bm).contains (.ref Dc)=true)
  (k:∀oe s6,XO C oe->H e=none->Inv (X.hand (X.pn++ai) e oe) [] (σ.set i<|some<|.ref e) (upd H e<|.frz oe xu) s6->wpAny (model X.prog X.w) (X.A.mark<|some<|.ref e) (execs (b0::suite) X.env) (SP (X.hand (X.pn++ai) e oe) []<|unD i De) (λ_ _=>False) s6)
  (ok:X.Ok) (hdb:(x == ("__debug__" : Str))=false) :
  wpAny (model X.prog X.w) X.A (noteFrame (.ref e) X.env) (λ_ s2=>wpAny (model X.prog X.w) X.A (setFlight (.ref e) none) (λ_ s3=>wpAny (model X.prog X.w) X.A (handleBy (.ref e) X.env [.ExceptHandler (some<|.Name x np) (some n) (b0::suite) hp]) (SP X ai De) X.xe s3) X.xe s2) X.xe s':=by
 refine M5 I hst hf R λh4 B a0 g k1 j c1 c2 c3 P=>?_;refine c5 (kW.any (e:=e) (kW.flight _ _) (wpAny_landsW (Q:=λ_ d=>∃h',d={ s' with heap:=h' }/\Heap.FlyingW B (X.env::X.outer) e (.ref C) a0 h'/\h4.UpToSlots h') (E:=λ_ _=>False) g λh' G J=>⟨h',rfl,G,J⟩) P) (λ_ d z=>?_) λ_ _ z=>z.1.elim;obtain⟨⟨h5,rfl,L,m⟩,M⟩:=z;obtain⟨_,_,o5,V,I5⟩:=C1 I hex L k1 (j.trans m) c1 c2 c3 M;refine wpAny_handleBy_cons (codeAny_handlers_test<|xT (X:=X.hand (X.pn++ai) e o5) I5 hg hm ?_ hdb) (by intro q;cases q);obtain⟨Y,_⟩:=I5.hok e _ kP;obtain⟨_,_,_,_,_,_,_,_,_,_,_,_,_,_,_,_,hC⟩:=(Pr I5.AH mC).ex;obtain⟨_,_,_,_,_,_,_,_,_,_,_,_,_,_,_,_,W⟩:=(Pr I5.AH mD).ex;refine Cd hC W Y V.cls hbD ?_;rw[hCD];refine codeAny_handlers_suite_as ?_;refine c5 (kW.any (e:=e) (kW.flight _ _) (lands_againW (Q:=λ_ d=>∃h',d={ s' with heap:=h' }/\Heap.FlyingW B (X.env::X.outer) e (.ref C) a0 h'/\h5.UpToSlots h') (E:=λ_ _=>False) L λh' G J=>⟨h',rfl,G,J⟩) M) (λ_ d z=>?_) λ_ _ z=>z.1.elim;obtain⟨⟨h6,rfl,F6,p⟩,Z⟩:=z;obtain⟨f0,n6,O,x6,I6⟩:=C1 I hex F6 k1 ((j.trans m).trans p) c1 c2 c3 Z;refine uR (X:=X.hand (X.pn++ai) e O) (v:=.ref e) I6 hN hi (.inl hlo) rfl (λT U=>?_)<|.inr hlo;exact c5 (k O T x6 n6 U) (λf s8 h8=>Gn hN hi hlo ok f0 h8) λ_ _ z=>z.elim
end
open PySem.W in
structure XCls (K:au)(C:ak):Prop where
 ga:findIn K (.ref C) "__getattribute__" = some (some<|.builtin "BaseException.__getattribute__")
 gt:findIn K (.ref C) "__getattr__" = some none
 fc:findObj K C none "__class__" = some (.bind (.builtin "getset_descriptor.__get__")<|.builtin "object.__class__")
 ob:PySem.W.mroIn K C (.type "object")=some true
 bs:subIn K (.ref C) (.type "BaseException")=some true
section
open PySem.W
variable {K:au}{C a:ak}{ox:Obj}{prog:aj}{w:ah}{A:aA}{E:af->aC->Prop}{h:aq}{g:Array GenState}{d:Drawn}{t:Nat}{os:OsState}
def PC{Q:Fin->aC->Prop}(x:XCls K C)(X:K.In h)(I:PySem.W.InstAt h a ox C none)(J:Q (.done<|.ret<|.ref C) ⟨h,g,d,t,os⟩) :
  wpAny (model prog w) A (Builtin.«object.__getattribute__» ⟨[.ref a,.str "__class__" tk],[]⟩) Q E ⟨h,g,d,t,os⟩:=by
 have j:=I.type (M:=model prog w);have f:=looks_find (M:=model prog w) X I x.fc;unfold Builtin.«object.__getattribute__»
 repeat (first|with_reducible refine aG (jN ?_)|with_reducible refine jN ?_|lk)
 refine class_get X I x.ob ?_
 repeat lk
 exact J
def OH{Q:Unit->aC->Prop}(x:XCls K C)(X:K.In h)(I:PySem.W.InstAt h a ox C none)(J:Q Unit.unit ⟨h,g,d,t,os⟩):wpAny M A (checkBuiltinCall "BaseException.__getattribute__" ⟨[.ref a,nv],[]⟩) Q E ⟨h,g,d,t,os⟩:=by
 have p:builtinKind "BaseException.__getattribute__" = some .slot:=by decide +kernel
 have hs:splitId "BaseException.__getattribute__" = some ("BaseException", "__getattribute__"):=by decide +kernel
 have m:Looks M h (isInstance (.ref a)<|.type "BaseException") true:=(I.type (M:=M)).andThen<|looks_subIn X x.bs;have k:=F.args_bexc_ga (.ref a) nv;dsimp[checkBuiltinCall,p,hs];refine aG<|m.at ?_;show wpAny M A (match Manifest.signature? "BaseException.__getattribute__" with
  | some f=>Bind.checkArgs "BaseException.__getattribute__" f { pos:=[Value.ref a,nv]}
  | x=>pure Unit.unit) Q E _
 cases j:Manifest.signature? "BaseException.__getattribute__" with
 | none=>exact aL J
 | some f=>
  dsimp[argsOk,j]at k;have h2:Bind.checkArgs "BaseException.__getattribute__" f ⟨[.ref a,nv],[]⟩=pure Unit.unit:=k;show wpAny M A (Bind.checkArgs "BaseException.__getattribute__" f ⟨[.ref a,nv],[]⟩) Q E _;rw[h2];exact aL J
def UL(self:af):bindSpecial (.builtin "BaseException.__getattribute__") self=pure (.builtin "BaseException.__getattribute__",[self]):=by
 have h1:withoutEnding? "BaseException.__getattribute__" "#opaque" = none:=by decide +kernel
 have h2:withoutEnding? "BaseException.__getattribute__" "#data" = none:=by decide +kernel
 have d:builtinKind "BaseException.__getattribute__" = some .slot:=by decide +kernel
 dsimp[bindSpecial,typeOf,builtinType,h1,h2,d];rfl
def abi{Q:af->aC->Prop}(x:XCls K C)(X:K.In h)(I:PySem.W.InstAt h a ox C none)(J:Q (.ref C) ⟨h,g,d,t,os⟩):wpAny (model prog w) A (getAttrBy (.ref a) (.str "__class__" tk) false) Q E ⟨h,g,d,t,os⟩:=by
 have k:=I.type (M:=model prog w);have j:=looks_findIn (M:=model prog w) X x.ga;have L2:=looks_findIn (M:=model prog w) X x.gt;unfold getAttrBy;refine cH<|aG<|k.at<|aG<|j.at ?_;show wpAny _ _ (if (onTheHeap (Value.ref C) && Value.builtin "BaseException.__getattribute__" == Value.builtin "object.__getattribute__")=true then _ else getAttrByItsOwn (.ref a) (.str "__class__" tk) (.ref C) (.builtin "BaseException.__getattribute__") false false) _ _ _;have f:(Value.builtin "BaseException.__getattribute__" == Value.builtin "object.__getattribute__")=false:=by decide +kernel
 rw[f,Bool.and_false,aM br];unfold getAttrByItsOwn hookBefore;rw[aO<|show onTheHeap (Value.ref C)=true from rfl];refine aG<|L2.at<|aG<|fJ<|cH ?_;unfold callGetattribute boundAndCalled
 skip
 rw[UL,pure_bind];refine jN<|codeAny_call_builtin ∅ F.entry_bexc_ga (OH x X I<|PC x X I ?_);exact aL J
def OS{Q:bd->aC->Prop}(x:XCls K C)(X:K.In h)(I:PySem.W.InstAt h a ox C none)(J:Q (some<|.ref C) ⟨h,g,d,t+1,os⟩):wpAny (model prog w) A (getAttr? (.ref a) "__class__") Q E ⟨h,g,d,t,os⟩:=by
 unfold getAttr? getAttrBy?;refine aG<|wpAny_mkText<|aG<|fJ<|abi x X I ?_;exact aL J
abbrev XIn (C a:ak):aq->Prop:=λh=>∃ox,PySem.W.InstAt h a ox C none
def TN(x:XCls K C)(hc:(clsIn K C).isSome=true):KitX K (.ref a) (.ref C) (XIn C a) where
 ty:=λ_ _ _ ⟨_,I⟩=>I.type
 it:=λ_ _ X _=>by
  unfold clsIn at hc;split at hc
  ·rename_i f;intro B M J s' k q;unfold isType loadHead;exact aG (wpAny_loadPart (k _ _<|X _ _ f)<|aL q)
  ·cases hc
 ne:=λh j dd g n L X d=>by
  refine Bool.eq_false_iff.mpr λq=>?_;have e:C=j:=Value.ref.inj<|jo.mp q;subst e;unfold clsIn at hc;split at hc
  ·rename_i f;have z:=(X _ _ f).symm.trans d
   cases z
  ·cases hc
 ca:=λ{_ _ _ _ _ s} X ⟨_,I⟩ k=>by
  obtain⟨p,N,dd,G,m⟩:=s;exact OS x X I k
end
section
variable {X:Cx}{C:ak}{ai:bp}{σ:L2.St}{H:Hp}{s:aC}
def Hx{A:aA}{E:af->aC->Prop}{Q:af->aC->Prop}{a:ak}{c:af}(x:XCls X.K C)(hc:(PySem.W.clsIn X.K C).isSome=true)(I:Inv X ai σ H s)(ha:H a=some (.frz oe xu))(J:XO C oe)(e:kitOne X.K (.ref C) c=some b)(h:∀tk,Q (.bool b) { s with toks:=tk }) :
  wpAny (model X.prog X.w) A (call (.builtin "isinstance") [.ref a,c]) Q E s:=by
 obtain⟨f,_⟩:=I.hok a _ ha;obtain⟨g2,g,vs,d,j⟩:=J;refine cN (TN x hc) I.AH ⟨oe,f,g2,?_,?_⟩ e (λz=>nomatch z) h
 ·unfold PySem.W.notCls;rw[d]
 ·rw[g];trivial
end
end L2
namespace L2
open PySem PySem.Spec PyProof.Rows
def Ci:entryFor table "proto.unchain" = some Builtin.«proto.unchain»:=entryFor_of_fast<|by kernel_rfl
section
variable {prog:aj}{w:ah}{A:aA}{E:af->aC->Prop}{s:aC}{e n:ak}{oe on:Obj}{vs ns:Array af}
def Ig{α:Type}{Q:α->aC->Prop}(hh:A.handled=some (.ref e))(J:s.heap.get? e=some oe)(U:oe.data=.fields vs)(h2:vs[2]?=some .none)(hn:s.heap.get? n=some on)(nd:on.data=.fields ns)(Z:2<ns.size)(ne:e≠n)
  (h:E (.ref n) { s with heap:=s.heap.update n<|Obj.mapFields (·.setIfInBounds 2 (.ref e))}):wpAny (model prog w) A (raiseNew (.ref n):Sem α) Q E s:=by
 unfold raiseNew;refine aG<|wpAny_handled ?_;rw[hh];show wpAny _ _ (if (Value.ref e != Value.ref n)=true then _ else _) _ _ _;rw[aO<|by simp[ne]];refine aG<|cH<|wpAny_runValue<|gV Ci ?_;unfold Builtin.«proto.unchain»;refine aG<|dX J U h2 ?_;rw[aO<|show(Value.none == Value.none)=true from rfl];refine aL ?_
 skip
 exact aG<|jn hn nd Z<|wpAny_throw h
end
abbrev HQ (A:aA):aA:={ A with handled:=none }
abbrev Cu (k:Nat)(A:aA):Prop:=Room k<|HQ A
def CP{k:Nat}{A:aA}(r:Room j A)(J:k<=j):Cu k (A.mark h):=⟨rfl,(r.mono J).dp,(r.mono J).un,r.gs⟩
structure Hnd (A:aA)(H:Hp)(e:ak)(oe:Obj)(C:ak):Prop where
 hh:A.handled=some (.ref e)
 h0:H e=some (.frz oe xu)
 xo:XO C oe
structure FnOkH (P:aj)(w:ah)(K:au)(mg:Str->bd)(base:aq)(k:Nat)(f:ak)(fd:FuncData)(ps:ar)(sp:Sp):Prop where
 len:∀vs H Q E,sp vs H Q E->vs.length=ps.length
 run:∀(A:aA) (outer:List Env) (s:aC) (H:Hp) (args:Args) (us:ba) (vs:List V) (Q:VK) (e:ak) (oe:Obj) (C:ak),Cu k A->Hnd A H e oe C->Env0 P w K mg base A outer s H->BindsTo s fd args (ps.zip us)->Vals vs us->sp vs H Q E0 ->
  codeAny (model P w) A (.call (.ref f) args) (CR t8 outer P w H s Q E0) s
abbrev cxH (P:aj)(w:ah)(K:au)(mg:Str->bd)(base:aq)(N:ar)(qual:Str)(scope:Scope)(f:ak)(cd:af)(A:aA)(outer:List Env)(s:aC)(H:Hp):Cx:=
 { ye t8 P w K mg base N qual scope f cd A outer s H E0 with calm:=false,xe:=λ_ _=>False }
def HR{P:aj}{w:ah}{K:au}{mg:Str->bd}{base:aq}{N:ar}{f:ak}{A:aA}{outer:List Env}{H H':Hp}
  (I:Inv (ye t8 P w K mg base N qual scope f cd (HQ A) outer s H E0) ai σ H' s1):Inv (cxH P w K mg base N qual scope f cd A outer s H) ai σ H' s1:=
 ⟨⟨I.ok.mod,I.ok.kind,I.ok.glob,I.ok.blt,I.ok.above,I.ok.inj,I.ok.has,I.ok.cab,λh=>(by cases h),I.ok.frames,I.ok.stk,I.ok.exf,I.ok.bs,I.ok.bsz,I.ok.noex,I.ok.exfs,I.ok.uF,I.ok.frf⟩,I.os,I.bare,I.base,I.loc,I.cell,I.free,I.freeC,I.pin,I.hok,I.len⟩
def aab{P:aj}{w:ah}{K:au}{mg:Str->bd}{base:aq}{k:Nat}{x:Str}{st:aF}{f:ak}{fd:FuncData}{N ps:ar}{sp:Sp}(F:Fun K x qual st f fd)(S:FnScope N ps<|j_ st)(len:∀vs H Q E,sp vs H Q E->vs.length=ps.length)
  (hb:∀(cdv:af) (A:aA) (outer:List Env) (s:aC) (H:Hp) (vs:List V) (Q:VK) (e:ak) (oe:Obj) (C:ak),Cu k (A.deeper<|envOfC qual (j_ st) s.heap.objs.size f cdv)->Hnd A H e oe C->sp vs H Q E0 ->
   ∃t,Cg (cxH P w K mg base N qual (j_ st) f cdv A outer s H) (oW st) t/\t { nx:=λ_ H'=>Q .non H',rt:=Q } (start N vs) H):FnOkH P w K mg base (k+1) f fd ps sp:=by
 cb_eq;refine⟨len,λA outer s H M us vs Q e oe C p Y e0 B r j=>?_⟩;have hl:=len _ _ _ _ j;have L:K.In s.heap:=e0.mod.kin.keeps λb o z=>(e0.bs b o z).1;have G:s.heap.NoLimit:=e0.mod.nolimit.keeps λb o z=>(e0.bs b o z).1;have g:∀y∈ps.zip us,(j_ st).names.lookup y.1=some .local\/((j_ st).names.lookup y.1=some .cell/\((cellsFrom (s.heap.objs.size+1) (j_ st).names []).lookup y.1).isSome=true):=λy hy=>
  (S.par y.1 (jc hy).1).imp (λq=>q) λq=>⟨q,iA _ _ _<|.inl q⟩
 refine codeAny_call_function (show A.depth<_ from p.depth) (L _ _ lk) rfl S.co S.gen rfl (PySem.W.codeRec_of L hcd)<|B _ _ _ _ ?_;refine wpAny_newFunctionEnv_cells S.kind g λenv he Z O=>?_;subst he;refine⟨G.keeps O.toInCall.keep,codeAny_func ?_⟩;obtain⟨t,T,U⟩:=hb cdv A outer s H vs Q e oe C (Room.deeper p _) Y j;have e1:Env0 P w K mg base (HQ A) outer s H:=⟨e0.frames,e0.mod,e0.bs,e0.bsz,e0.uF,e0.frf,e0.hok,e0.bare⟩;have I:=HR<|Ct (CX:=t8) (E:=E0) (qual:=qual) (f:=f) (cd:=cdv) S p.hd e1 hl r O;refine c5 (T [] Z (start N vs) H _ I U) (λfl s' hs=>?_) λ_ _ z=>z.elim;have fin:∀{d:L2.St} {H':Hp} {v:V} {u:af},Inv (cxH P w K mg base N qual (j_ st) f cdv A outer s H) [] d H' s'->RelV v u->Q v H'->CE outer P w H s Q u s':=λ{d H' v u} J m q=>⟨v,H',J.os,J.bare,J.base,J.hok,m,q⟩
 cases fl with
 | ret u=>obtain⟨v,d,H',J,m,q⟩:=hs;exact fin J m q
 | next=>obtain⟨d,H',J,q⟩:=hs;exact fin (v:=V.non) (u:=Value.none) J rfl q
 | brk=>obtain⟨_,_,_,q⟩:=hs;exact q.elim
 | cont=>obtain⟨_,_,_,q⟩:=hs;exact q.elim
abbrev KnH (P:aj)(w:ah)(K:au)(mg:Str->bd)(base:aq)(k:Nat)(x:Str)(ps:ar)(sp:Sp):Prop:=
 ∃(f:ak) (fd:FuncData),FnOkH P w K mg base k f fd ps sp/\mg x=some (.ref f)/\keepIn K (.ref f)=true/\Binds K fd ps []
def Zl{X:Cx}{k:Nat}{x:Str}{sp:Sp}{a:aE}{t:TA}{p:Pos}{e:ak}(G:KnH X.prog X.w X.K X.mg X.base k x ps sp)(Z:Cu k X.A)(hh:X.A.handled=some (.ref e))(h0:X.H₀ e=some (.frz oe xu))(xo:XO C oe)(ha:PA X (a::es) t)(hg:Gl X x<|>ε)
  (U:(x == ("__debug__" : Str))=false<|>δ) (hs:starEach (a::es) X.env=(false,eval a X.env)::starEach es X.env<|>ε) (J:((backTo pos<|starEach es X.env).any (·.1)=false)<|>ε) :
  PE X (.Call (.Name x p) (a::es) [] pos) (TQ sp [] E0 t):=by
 obtain⟨f,fd,F,B,m,hb⟩:=G;kt_k;refine gZ<|xT I hg B ?_ U;refine PySem.W.callWith_K (h₀:=X.base) I.ok.mod.kin m (mR (ha pos ai s σ H _ I h) λus g ⟨vs,H1,I1,r,q⟩=>⟨I1.AH,?_⟩) hs J;have q:sp (vs++[]) H1 Q E0:=q;rw[bR]at q;have j:us.length=ps.length:=by rw[<- r.length];exact F.len _ _ _ _ q
 refine jN (iz (F.run X.A X.stack g H1 ⟨us,[]⟩ us vs Q e oe C Z ⟨hh,I1.base.frzs e oe xu h0,xo⟩ I1.acu (by have:=hb g us I1.AH (by rw[bR];exact j);rwa [bR]at this) r q) λr s' d=>?_)
 cases r with
 | error e=>exact d.elim
 | ok fl=>
  cases fl with
  | ret u=>exact I1.after d
  | next=>exact d.elim
  | brk=>exact d.elim
  | cont=>exact d.elim
end L2
namespace Sx
open PySem PyProof.Rows
structure Ord where
 lt:Nat->Nat->Bool
 RB:∀i,lt i i=false
 tr:∀i j k,lt i j=true->lt j k=true->lt i k=true
 neg:∀i j k,lt i k=true->lt i j=true\/lt j k=true
abbrev P (o:Ord)(i j:Nat):Prop:=o.lt i j=true\/(o.lt j i=false/\i<j)
def Ord.ad7(o:Ord)(h:o.lt i j=true):o.lt j i=false:=by
 cases e:o.lt j i with
 | false=>rfl
 | true=>have:=o.tr _ _ _ h e;rw[o.RB]at this;cases this
def P.RB(h:P o i i):False:=by
 rcases h with h|⟨_,h⟩
 ·rw[o.RB]at h;cases h
 ·lia
def P.trans{k:Nat}(a:P o i j)(b:P o j k):P o i k:=by
 rcases a with a|⟨a,f⟩
 ·rcases b with b|⟨b,d⟩
  ·exact .inl (o.tr _ _ _ a b)
  ·rcases o.neg i k j a with z|z
   ·exact .inl z
   ·rw[b]at z;cases z
 ·rcases b with b|⟨b,d⟩
  ·rcases o.neg j i k b with z|z
   ·rw[a]at z;cases z
   ·exact .inl z
  ·refine .inr ⟨?_,()⟩
   cases e:o.lt k i with
   | false=>rfl
   | true=>
    rcases o.neg k j i e with z|z
    ·rw[b]at z;cases z
    ·rw[a]at z;cases z
def P.of_lt{o:Ord}(h:o.lt i j=true):P o i j:=.inl h
def P.zf{o:Ord}(h:o.lt j i=false)(J:i<j):P o i j:=.inr ⟨h,J⟩
def P.lt{o:Ord}(h:P o i j)(J:j<i):o.lt i j=true:=by
 rcases h with h|⟨_,h⟩
 ·exact h
 ·lia
def P.ge{o:Ord}(h:P o i j):o.lt j i=false:=by
 rcases h with h|⟨h,_⟩
 ·exact o.ad7 h
 ·exact h
abbrev So (o:Ord)(g:Nat->Nat)(a b:Nat):Prop:=∀i j,a<=i->i<j->j<b->P o (g i) (g j)
abbrev Cl (g:Nat->Nat)(a b:Nat):Prop:=∀i,a<=i->i<b->a<=g i/\g i<b
abbrev rev (g:Nat->Nat)(i j:Nat):Nat->Nat:=λk=>if i<=k/\k<j then g (i+j-1-k)else g k
abbrev mv (g:Nat->Nat)(src J:Nat):Nat->Nat:=λk=>if k=J then g src else if J<k/\k<=src then g (k-1)else g k
def Bq{g:Nat->Nat}{k:Nat}(h:i<=k)(h2:k<j):rev g i j k=g (i+j-1-k):=aO ⟨h,h2⟩
def qN{g:Nat->Nat}{k:Nat}(h:k<i\/j<=k):rev g i j k=g k:=aM ()
def QA{g:Nat->Nat}:mv g s d d=g s:=aO rfl
def Fq{g:Nat->Nat}{k:Nat}(h:d<k)(h2:k<=s):mv g s d k=g (k-1):=by
 unfold mv;rw[aM (),aO ⟨h,h2⟩]
def Ei{g:Nat->Nat}{k:Nat}(J:d<=s)(h:k<d\/s<k):mv g s d k=g k:=by
 unfold mv;rw[aM (),aM ()]
section
variable {prog:aj}{w:ah}{A:aA}{E:af->aC->Prop}{s:aC}{o:Ord}{N:Nat}{f:Nat->Keyed}{kd:SortKind}{g:Nat->Nat}{p:Array (Nat×Nat×Nat)}{st:SortSt}
abbrev B8 (prog:aj)(w:ah)(A:aA)(s:aC)(o:Ord)(N:Nat)(f:Nat->Keyed)(kd:SortKind):Prop:=
 ∀i j,i<N->j<N->∀(d:af->aC->Prop) (Q:Bool->aC->Prop),Q (o.lt i j) s->wpAny (model prog w) A (keyLt' kd (f i).1 (f j).1) Q d s
structure Sg (N:Nat)(f:Nat->Keyed)(kd:SortKind)(g:Nat->Nat)(p:Array (Nat×Nat×Nat))(st:SortSt):Prop where
 size:(arrOf st).size=N
 get:∀i,i<N->(arrOf st)[i]?=some (f<|g i)
 lt:∀i,i<N->g i<N
 kind:kindOf st=kd
 failed:failedOf st=none
 pend:pendingOf st=p
def Ar(C:B8 prog w A s o N f kd)(J:kindOf st=kd)(hi:i<N)(U:j<N){Q:bj->SortSt->Prop}(q:Q (some<|o.lt i j) st):wpS (model prog w) A E s (lt' (f i)<|f j) Q st:=by
 rw[lt'_eq];refine aY<|iH ?_;rw[J];refine aY<|wpS_lift<|fJ<|C i j hi U _ _ ⟨rfl,?_⟩;exact bz q
def k9{xs:Array Keyed}{i:Nat}{x:Keyed}(e:xs[i]?=some x){Q:Keyed->SortSt->Prop}(q:Q x st):wpS (model prog w) A E s (elem' xs i) Q st:=by
 rw[elem'_eq,e];exact bz q
def yi(C:B8 prog w A s o N f kd)(h:Sg N f kd g p st)(hi:i<N)(J:j<N){Q:bj->SortSt->Prop}(q:Q (some<|o.lt (g i)<|g j) st):wpS (model prog w) A E s (ltAt' i j) Q st:=by
 rw[ltAt'_eq];refine aY (iH ?_)
 skip
 exact aY<|k9 (h.get i hi)<|aY<|k9 (h.get j J)<|Ar C h.kind (h.lt i hi) (h.lt j J) q
def Sg.arr(h:Sg N f kd g p st){xs:Array Keyed}{g':Nat->Nat}(hs:xs.size=N)(hg:∀i,i<N->xs[i]?=some (f<|g' i))(J:∀i,i<N->g' i<N):Sg N f kd g' p (setArr st xs):=⟨hs,hg,J,h.kind,h.failed,h.pend⟩
def zU(h:Sg N f kd g p st)(J:j<=N){Q:Unit->SortSt->Prop}(q:∀st',Sg N f kd (rev g i j) p st'->Q Unit.unit st'):wpS (model prog w) A E s (reverseSlice' i j) Q st:=by
 rw[reverseSlice'_eq];refine gc (q _<|h.arr (by rw[mirror_size];exact h.size) (λk d=>?_) λk d=>?_)
 ·rw[getElem?_mirror_all<|by rw[h.size];exact J];unfold rev;by_cases c:i<=k/\k<j
  ·rw[aO c,aO c];exact h.get _ (by omega)
  ·rw[aM c,aM c];exact h.get _ d
 ·unfold rev;by_cases c:i<=k/\k<j
  ·rw[aO c];exact h.lt _ (by omega)
  ·rw[aM c];exact h.lt _ d
def YS(h:Sg N f kd g p st){a:Nat}(ha:a<N)(hb:b<=a){Q:Unit->SortSt->Prop}(q:∀st',Sg N f kd (mv g a b) p st'->Q Unit.unit st'):wpS (model prog w) A E s (moveDown' a b) Q st:=by
 rw[moveDown'_eq];refine gc (q _<|h.arr (by rw[bubble_size];exact h.size) (λk d=>?_) λk d=>?_)
 ·rw[getElem?_bubble (by rw[h.size];exact ha) _ (),show a-(a-b)=b by lia];unfold mv;by_cases c:k=b
  ·rw[aO c,aO c];exact h.get _ ha
  ·rw[aM c,aM c];by_cases c2:b<k/\k<=a
   ·rw[aO c2,aO c2];exact h.get _ ()
   ·rw[aM c2,aM c2];exact h.get _ d
 ·unfold mv;by_cases c:k=b
  ·rw[aO c];exact h.lt _ ha
  ·rw[aM c];by_cases c2:b<k/\k<=a
   ·rw[aO c2];exact h.lt _ ()
   ·rw[aM c2];exact h.lt _ d
structure Rn (o:Ord)(g0 g:Nat->Nat)(a b:Nat):Prop where
 out:∀i,i<a\/b<=i->g i=g0 i
 cl:Cl g a b
 so:So o g a b
def YT{g0:Nat->Nat}{lo k l:Nat}(R:Rn o g0 g lo<|lo+k)(J:g (lo+k)=lo+k)(U:l<=k)(h1:∀i,i<l->P o (g<|lo+i) (lo+k))(h2:∀i,l<=i->i<k->P o (lo+k) (g<|lo+i)):Rn o g0 (mv g (lo+k)<|lo+l) lo (lo+(k+1)) where
 out i hi:=by rw[Ei () ()];exact R.out i ()
 cl i a b:=by
  by_cases c:i=lo+l
  ·subst c;rw[QA,J];lia
  ·by_cases c2:lo+l<i
   ·rw[Fq c2 ()];have:=R.cl (i-1) () ()
    lia
   ·rw[Ei () ()];have:=R.cl i () ()
    lia
 so i j a b d:=by
  by_cases c:i=lo+l
  ·subst c;rw[QA,Fq b (),J];have:=h2 (j-1-lo) () ()
   rwa [show lo+(j-1-lo)=j-1 by lia]at this
  ·by_cases c2:lo+l<i
   ·rw[Fq c2 (),Fq () ()];exact R.so _ _ () () ()
   ·rw[Ei (k:=i) () ()];by_cases c3:j=lo+l
    ·subst c3;rw[QA,J];have:=h1 (i-lo) ()
     rwa [show lo+(i-lo)=i by lia]at this
    ·by_cases f:lo+l<j
     ·rw[Fq f ()];exact R.so _ _ () () ()
     ·rw[Ei () ()];exact R.so _ _ () () ()
def Yr(C:B8 prog w A s o N f kd){g0:Nat->Nat}{lo n ok:Nat}(h:Sg N f kd g p st)(hn:lo+n<=N)(h1:1<=ok)(hok:ok<=n)(R:Rn o g0 g lo<|lo+ok)(Z:∀i,lo+ok<=i->i<lo+n->g0 i=i)
  {Q:Bool->SortSt->Prop} (q:∀g' st',Sg N f kd g' p st'->Rn o g0 g' lo (lo+n)->Q true st'):wpS (model prog w) A E s (binarySort' lo n ok) Q st:=by
 rw[binarySort'_eq,show max ok 1=ok by lia];refine aY (eE (cL (I:=λk c st'=>c=(none,Unit.unit)/\∃g',Sg N f kd g' p st'/\Rn o g0 g' lo (lo+min k n))
  (Q:=λc st'=>c=(none,Unit.unit)/\∃g',Sg N f kd g' p st'/\Rn o g0 g' lo (lo+n)) ?step ?fin ?init) ?post)
 case post=>
  rintro c st' ⟨rfl,g',h',j⟩;exact bz<|q g' st' h' j
 case init=>exact⟨rfl,g,h,by rw[show min ok n=ok by lia];exact R⟩
 case fin=>
  rintro c st' ⟨hc,g',h',j⟩;exact⟨hc,g',h',by rwa [show min (max ok n) n=n by lia]at j⟩
 case step=>
  rintro k c st' W V ⟨rfl,g',h',j⟩;rw[show min k n=k by lia]at j;have gk:g' (lo+k)=lo+k:=by rw[j.out _ ()];exact Z _ () ()
  refine aY (eE (cL (I:=λx c G=>G=st'/\∃u v,c=(none,u,v)/\u<=v/\v<=k/\v-u<=k-x /\
    (∀i,i<u->P o (g'<|lo+i) (lo+k))/\(∀i,v<=i->i<k->P o (lo+k) (g'<|lo+i)))
   (Q:=λc G=>G=st'/\∃u v,c=(none,u,v)/\u<=k /\
    (∀i,i<u->P o (g'<|lo+i) (lo+k))/\(∀i,u<=i->i<k->P o (lo+k) (g'<|lo+i))) ?istep ?ifin ?iinit) ?ipost)
  case iinit=>exact⟨rfl,0,k,rfl,(),(),(),λi hi=>(),λi h1 h2=>()⟩
  case ifin=>
   rintro c G ⟨rfl,u,v,rfl,K,B,O,low,top⟩;have:u=v:=()
   subst this;exact⟨rfl,u,u,rfl,B,low,top⟩
  case istep=>
   rintro x c G _ M ⟨rfl,u,v,rfl,K,B,O,low,top⟩;dsimp only;by_cases J:u>=v
   ·rw[aO J];have:u=v:=()
    subst this;exact bz ⟨rfl,u,u,rfl,B,low,top⟩
   ·rw[aM J];have U:(u+v) / 2<k:=()
    have Y:=j.cl (lo+(u+v) / 2) () ();refine aY<|yi C h' () () ?_;rw[gk]
    cases d:o.lt (lo+k) (g'<|lo+(u+v) / 2)
    case true=>
     dsimp[dD];refine bz ⟨rfl,u,(u+v) / 2,rfl,(),(),(),low,λi h1 h2=>?_⟩;by_cases c:i=(u+v) / 2
     ·subst c;exact .inl d
     ·exact(P.of_lt d).trans (j.so _ _ () () ())
    case false=>
     dsimp[bK,cQ];refine bz ⟨rfl,(u+v) / 2+1,v,rfl,(),(),(),λi h1=>?_,top⟩;have m:=P.zf d Y.2;by_cases c:i=(u+v) / 2
     ·subst c;exact m
     ·exact(j.so _ _ () () ()).trans m
  case ipost=>
   rintro c G ⟨rfl,u,v,rfl,L,low,top⟩;dsimp only;refine aY<|YS h' () () λT h3=>?_;refine bz ⟨rfl,_,h3,?_⟩;rw[show min (k+1) n=k+1 by lia];exact YT j gk L low top
end
meta abbrev As:=Option (bo)×Nat
meta abbrev Ds:=Option (bo)×Nat×Nat
abbrev N7 (lo a J:Nat):StateT SortSt Sem As:=
 forIn [a:J] ((none,a):As) λ_ c=>do
  let x <- ltAt' (lo+c.2) (lo+c.2-1)
  match x with
  | some b=>if b=true then pure (ForInStep.done (none,c.2))else pure (ForInStep.yield (none,c.2+1))
  | _=>pure<|ForInStep.done (some none,c.2)
abbrev GY (lo n J:Nat):StateT SortSt Sem (bo):=do
 reverseSlice' lo (lo+n)
 let c <- N7 lo n J
 match c.1 with
 | some r=>pure r
 | none=>pure<|some c.2
abbrev VH (lo n J:Nat):StateT SortSt Sem Ds:=
 forIn [n:J] ((none,n,0):Ds) λ_ c=>do
  let x <- ltAt' (lo+c.2.1) (lo+c.2.1-1)
  match x with
  | some b=>
   if b=true then
    if c.2.2>0 then do
     reverseSlice' (lo+c.2.1-(c.2.2+1)) (lo+c.2.1)
     pure (ForInStep.yield (none,c.2.1+1,0))
    else pure (ForInStep.yield (none,c.2.1+1,0))
   else do
    let x <- ltAt' (lo+c.2.1-1) (lo+c.2.1)
    match x with
    | some b=>
     if b=true then pure (ForInStep.done (none,c.2.1,c.2.2))
     else pure (ForInStep.yield (none,c.2.1+1,c.2.2+1))
    | _=>pure<|ForInStep.done (some none,c.2.1,c.2.2)
  | _=>pure<|ForInStep.done (some none,c.2.1,c.2.2)
abbrev N6 (lo n J:Nat):StateT SortSt Sem (bo):=do
 liftM (rule "list.sort.descending-run")
 let c <- VH lo (n+1) J
 match c.1 with
 | some r=>pure r
 | none=>
  if c.2.2>0 then do
   reverseSlice' (lo+c.2.1-(c.2.2+1)) (lo+c.2.1)
   GY lo c.2.1 J
  else GY lo c.2.1 J
def count_eq(lo J:Nat):countRun' lo J=(do
  let c <- N7 lo 1 J
  match c.1 with
  | some r=>pure r
  | none=>
   if (c.2 == J)=true then pure (some c.2)
   else if c.2>1 then do
    let x <- ltAt' lo (lo+c.2-1)
    match x with
    | some b=>if b=true then pure (some c.2)else do
      reverseSlice' lo (lo+c.2)
      N6 lo c.2 J
    | _=>pure none
   else N6 lo c.2 J):=by
 rw[countRun'_eq];dsimp only;unfold N6 GY VH N7;congr 1
 funext c
 obtain⟨r,n⟩:=c
 cases r with
 | some r=>rfl
 | none=>
  dsimp only;split
  ·rfl
  ·split
   ·congr 1
    funext x
    cases x with
    | none=>rfl
    | some b=>
     dsimp only;split
     ·rfl
     ·congr 1
      funext _r
      congr 1
      funext _u
      congr 1;congr 1
      funext s2
      obtain⟨r2,g,j⟩:=s2
      cases r2 with
      | some r2=>rfl
      | none=>
       dsimp only;split
       ·congr 1
        funext _v
        congr 1
        funext _w
        congr 1
        funext s3
        obtain⟨d,f⟩:=s3
        cases d<;>rfl
       ·congr 1
        funext _w
        congr 1
        funext s3
        obtain⟨d,f⟩:=s3
        cases d<;>rfl
   ·congr 1
    funext _u
    congr 1;congr 1
    funext s2
    obtain⟨r2,g,j⟩:=s2
    cases r2 with
    | some r2=>rfl
    | none=>
     dsimp only;split
     ·congr 1
      funext _v
      congr 1
      funext _w
      congr 1
      funext s3
      obtain⟨d,f⟩:=s3
      cases d<;>rfl
     ·congr 1
      funext _w
      congr 1
      funext s3
      obtain⟨d,f⟩:=s3
      cases d<;>rfl
section
variable {prog:aj}{w:ah}{A:aA}{E:af->aC->Prop}{s:aC}{o:Ord}{N:Nat}{f:Nat->Keyed}{kd:SortKind}{g g0:Nat->Nat}{p:Array (Nat×Nat×Nat)}{st:SortSt}
def Rn.snoc{a:Nat}(R:Rn o g0 g a b)(J:a<b)(hb:g b=b)(h:o.lt b (g<|b-1)=false):Rn o g0 g a (b+1) where
 out i hi:=R.out i ()
 cl i h1 h2:=by
  by_cases c:i=b
  ·subst c;lia
  ·have:=R.cl i h1 ();lia
 so i j h1 h2 h3:=by
  by_cases c:j=b
  ·subst c;rw[hb];have l:=R.cl (j-1) () ();have d:P o (g<|j-1) j:=P.zf h l.2;by_cases c2:i=j-1
   ·subst c2;exact d
   ·exact(R.so i (j-1) h1 () ()).trans d
  ·exact R.so i j h1 h2 ()
def QB(C:B8 prog w A s o N f kd){lo a:Nat}(h:Sg N f kd g p st)(hn:lo+nrem<=N)(h1:1<=a)(J:a<=nrem)(R:Rn o g0 g lo<|lo+a)(U:∀i,lo+a<=i->i<lo+nrem->g0 i=i)
  {Q:As->SortSt->Prop} (q:∀n,a<=n->n<=nrem->Rn o g0 g lo (lo+n)->(n=nrem\/o.lt (lo+n) (g<|lo+n-1)=true)->Q (none,n) st):wpS (model prog w) A E s (N7 lo a nrem) Q st:=by
 unfold N7;refine cL (I:=λx c d=>d=st/\c=(none,x)/\Rn o g0 g lo (lo+x)) ?step ?fin ⟨rfl,rfl,R⟩
 case fin=>
  rintro c d ⟨rfl,rfl,j⟩;rw[show max a nrem=nrem by lia]at j ⊢;exact q nrem J (aP _) j<|.inl rfl
 case step=>
  rintro x c d k G ⟨rfl,rfl,j⟩;dsimp only;have B:g (lo+x)=lo+x:=by rw[j.out _ ()];exact U _ () ()
  refine aY<|yi C h () () ?_;rw[B]
  cases m:o.lt (lo+x) (g<|lo+x-1)
  case true=>
   dsimp[dD];exact bz<|q x k () j<|.inr m
  case false=>
   dsimp[bK,cQ];exact bz ⟨rfl,rfl,j.snoc () B m⟩
structure Dc (o:Ord)(g0 g:Nat->Nat)(a b q:Nat):Prop where
 out:∀i,i<a\/b<=i->g i=g0 i
 cl:Cl g a b
 few:a+(q+1)<=b
 dn:∀i j,a<=i->i<j->j<b->i<b-(q+1)->P o (g j) (g i)
 id:∀i,b-(q+1)<=i->i<b->g i=i
 al:∀i j,b-(q+1)<=i->i<b->b-(q+1)<=j->j<b->o.lt i j=false
def Dc.turn{a q:Nat}(D:Dc o g0 g a b q):(∀i,i<a\/b<=i->rev g (b-(q+1)) b i=g0 i)/\Cl (rev g (b-(q+1)) b) a b/\(∀i j,a<=i->i<j->j<b->P o (rev g (b-(q+1)) b j) (rev g (b-(q+1)) b i))/\(∀i,b-(q+1)<=i->i<b->∃k,rev g (b-(q+1)) b i=k/\b-(q+1)<=k/\k<b):=by
 have few:=D.few;have d:∀i,b-(q+1)<=i->i<b->rev g (b-(q+1)) b i=b-(q+1)+b-1-i:=λi h1 h2=>by
  rw[Bq h1 h2];exact D.id _ (by omega)<|by omega
 refine⟨λi hi=>?_,λi h1 h2=>?_,λi j h1 h2 h3=>?_,λi h1 h2=>⟨_,d i h1 h2,by omega,by omega⟩⟩
 ·rw[qN<|by omega];exact D.out i hi
 ·by_cases c:i<b-(q+1)
  ·rw[qN<|by omega];exact D.cl i h1 h2
  ·rw[d i (by omega) h2];omega
 ·by_cases c:i<b-(q+1)
  ·rw[qN (k:=i)<|by omega];by_cases c2:j<b-(q+1)
   ·rw[qN<|by omega];exact D.dn i j h1 h2 h3 c
   ·rw[d j (by omega) h3];have:=D.dn i (b-(q+1)+b-1-j) h1 (by omega) (by omega) c
    rwa [D.id _ (by omega)<|by omega]at this
  ·rw[d i (by omega)<|by omega,d j (by omega) h3];exact P.zf (D.al _ _ (by omega) (by omega) (by omega)<|by omega)<|by omega
abbrev Fin (o:Ord)(g0 g:Nat->Nat)(a b:Nat):Prop:=(∀i,i<a\/b<=i->g i=g0 i)/\Cl g a b/\(∀i j,a<=i->i<j->j<b->P o (g j) (g i))
def Dc.G3{a:Nat}(D:Dc o g0 g a b 0):Fin o g0 g a b:=⟨D.out,D.cl,λi j h1 h2 h3=>D.dn i j h1 h2 h3 ()⟩
def Fin.rn{a:Nat}(D:Fin o g0 g a b):Rn o g0 (rev g a b) a b where
 out i hi:=by rw[qN hi];exact D.1 i hi
 cl i h1 h2:=by
  rw[Bq h1 h2];exact D.2.1 _ () ()
 so i j h1 h2 h3:=by
  rw[Bq h1 (),Bq () h3];exact D.2.2 _ _ () () ()
def Fin.add{a:Nat}(D:Fin o g0 g a b)(hb:g b=b)(J:a<b)(h:∀i,a<=i->i<b->P o b (g i)):Dc o g0 g a (b+1) 0 where
 out i hi:=D.1 i ()
 cl i h1 h2:=by
  by_cases c:i=b
  ·subst c;lia
  ·have:=D.2.1 i h1 ();lia
 few:=()
 dn i j h1 h2 h3 _:=by
  by_cases c:j=b
  ·subst c;rw[hb];exact h i h1 h2
  ·exact D.2.2 i j h1 h2 ()
 id i h1 h2:=by
  have:i=b:=()
  rw[this,hb]
 al i j h1 h2 h3 h4:=by
  have:i=j:=()
  rw[this];exact o.RB _
def Jw(C:B8 prog w A s o N f kd){lo n:Nat}(h:Sg N f kd g p st)(hn:lo+nrem<=N)(h1:1<=n)(J:n<=nrem)(D:Fin o g0 g lo<|lo+n)(U:∀i,lo<=i->i<lo+nrem->g0 i=i)
  {Q:bo->SortSt->Prop} (q:∀m g' st',Sg N f kd g' p st'->1<=m->m<=nrem->Rn o g0 g' lo (lo+m)->Q (some m) st'):wpS (model prog w) A E s (GY lo n nrem) Q st:=by
 unfold GY;refine aY<|zU h () λj h2=>?_;exact aY<|QB C h2 hn h1 J D.rn (λi a b=>U i () b) λm k d R _=>bz<|q m _ _ h2 () d R
def Yh(C:B8 prog w A s o N f kd){lo n:Nat}(h:Sg N f kd g p st)(hn:lo+nrem<=N)(h1:1<=n)(han:n<=nrem)(D:Dc o g0 g lo (lo+n) 0)(hid:∀i,lo<=i->i<lo+nrem->g0 i=i)
  {Q:Ds->SortSt->Prop} (q:∀m e g' st',Sg N f kd g' p st'->1<=m->m<=nrem->Dc o g0 g' lo (lo+m) e->Q (none,m,e) st'):wpS (model prog w) A E s (VH lo n nrem) Q st:=by
 unfold VH;refine cL (I:=λx c st'=>∃e g',c=(none,x,e)/\Sg N f kd g' p st'/\Dc o g0 g' lo (lo+x) e) ?step ?fin ⟨0,g,rfl,h,D⟩
 case fin=>
  rintro c st' ⟨e,g',rfl,h',D'⟩;rw[show max n nrem=nrem by lia]at D' ⊢;exact q nrem e g' st' h' () (aP _) D'
 case step=>
  rintro x c st' W T ⟨e,g',rfl,h',D'⟩;dsimp only;have few:=D'.few;have G:g' (lo+x)=lo+x:=by rw[D'.out _ ()];exact hid _ () ()
  have B:g' (lo+x-1)=lo+x-1:=D'.id _ () ();refine aY<|yi C h' () () ?_;rw[G,B]
  cases K:o.lt (lo+x) (lo+x-1)
  case true=>
   dsimp[dD];by_cases L:e>0
   ·rw[aO L];obtain⟨U,t2,Y,M⟩:=D'.turn;refine aY<|zU h' () λO h2=>bz ⟨0,_,rfl,h2,?_⟩;refine Fin.add (b:=lo+x) ⟨U,t2,Y⟩ (by rw[qN ()];exact G) () λi a b=>?_;by_cases c:lo+x-(e+1)<=i
    ·obtain⟨k,V,k1,k2⟩:=M i c b;rw[V]
     rcases o.neg _ k _ K with z|z
     ·exact .inl z
     ·rw[D'.al _ _ k1 k2 () ()]at z;cases z
    ·rw[qN ()];have:=D'.dn i (lo+x-1) a () () ();rw[B]at this;exact(P.of_lt K).trans this
   ·rw[aM L];have:e=0:=()
    subst this;refine bz ⟨0,_,rfl,h',Fin.add (b:=lo+x) D'.G3 G () λi a b=>?_⟩;by_cases c:i=lo+x-1
    ·subst c;rw[B];exact .inl K
    ·have:=D'.dn i (lo+x-1) a () () ();rw[B]at this;exact(P.of_lt K).trans this
  case false=>
   dsimp[bK,cQ];refine aY<|yi C h' () () ?_;rw[G,B]
   cases hg:o.lt (lo+x-1) (lo+x)
   case true=>
    dsimp[dD];exact bz<|q x e g' st' h' () () D'
   case false=>
    dsimp[bK,cQ];refine bz ⟨e+1,g',rfl,h',?_⟩;have J:∀i,lo+x-(e+1)<=i->i<lo+x->o.lt i (lo+x)=false/\o.lt (lo+x) i=false:=λi a b=>by
     constructor
     ·cases z:o.lt i (lo+x)with
      | false=>rfl
      | true=>
       rcases o.neg _ (lo+x-1) _ z with y|y
       ·rw[D'.al _ _ a b () ()]at y;cases y
       ·rw[hg]at y;cases y
     ·cases z:o.lt (lo+x) i with
      | false=>rfl
      | true=>
       rcases o.neg _ (lo+x-1) _ z with y|y
       ·rw[K]at y;cases y
       ·rw[D'.al _ _ () () a b]at y;cases y
    exact {
     out:=λi hi=>D'.out i ()
     cl:=λi a b=>by
      by_cases c:i=lo+x
      ·subst c;lia
      ·have:=D'.cl i a ();lia
     few:=()
     dn:=λi j a b c d=>by
      by_cases z:j=lo+x
      ·subst z;rw[G];have y:=D'.dn i (lo+x-1) a () () ();rw[B]at y;have Z:=D'.cl i a ()
       rcases y with y|⟨_,y⟩
       ·rcases o.neg _ (lo+x) _ y with v|v
        ·rw[hg]at v;cases v
        ·exact .inl v
       ·lia
      ·exact D'.dn i j a b () ()
     id:=λi a b=>by
      by_cases z:i=lo+x
      ·subst z;exact G
      ·exact D'.id i () ()
     al:=λi j a b c d=>by
      by_cases z:i=lo+x
      ·subst z;by_cases y:j=lo+x
       ·subst y;exact o.RB _
       ·exact(J j () ()).2
      ·by_cases y:j=lo+x
       ·subst y;exact(J i () ()).1
       ·exact D'.al i j () () () ()}
def KC(C:B8 prog w A s o N f kd){lo n:Nat}(h:Sg N f kd g p st)(hn:lo+nrem<=N)(Z:n+1<=nrem)(D:Dc o g0 g lo (lo+(n+1)) 0)(U:∀i,lo<=i->i<lo+nrem->g0 i=i)
  {Q:bo->SortSt->Prop} (q:∀m g' st',Sg N f kd g' p st'->1<=m->m<=nrem->Rn o g0 g' lo (lo+m)->Q (some m) st'):wpS (model prog w) A E s (N6 lo n nrem) Q st:=by
 unfold N6;kl_no;refine aY<|Yh C h hn () Z D U λm e g' st' h' j k D'=>?_;dsimp only;by_cases d:e>0
 ·rw[aO d];obtain⟨B,t2,J,_⟩:=D'.turn;exact aY (zU h' () λG h2=>Jw C h2 hn j k ⟨B,t2,J⟩ U q)
 ·rw[aM d];have:e=0:=()
  subst this;exact Jw C h' hn j k D'.G3 U q
def Az(C:B8 prog w A s o N f kd){lo:Nat}(h:Sg N f kd g p st)(hn:lo+nrem<=N)(h1:1<=nrem)(Z:∀i,lo<=i->i<lo+nrem->g i=i)
  {Q:bo->SortSt->Prop} (q:∀m g' st',Sg N f kd g' p st'->1<=m->m<=nrem->Rn o g g' lo (lo+m)->Q (some m) st'):wpS (model prog w) A E s (countRun' lo nrem) Q st:=by
 rw[count_eq];refine aY (QB C h hn (aP 1) h1 (g0:=g) ⟨λ_ _=>rfl,λi a b=>?_,λi j a b c=>()⟩ (λi a b=>Z i () b) λn T L R K=>?_)
 ·have:i=lo:=()
  subst this;rw[Z i (aP _) ()];lia
 dsimp only;by_cases G:n=nrem
 ·rw[aO<|by simpa using G];exact bz (q n g st h T L R)
 ·rw[aM<|by simpa using G];have k:=K.resolve_left G;rw[Z (lo+n-1) () ()]at k;have O:g (lo+n)=lo+n:=Z _ () ();by_cases J:n>1
  ·rw[aO J];refine aY<|yi C h () () ?_;rw[Z lo () (),Z (lo+n-1) () ()]
   cases V:o.lt lo (lo+n-1)
   case true=>
    dsimp[dD];exact bz<|q n g st h T L R
   case false=>
    dsimp[bK,cQ];have d:∀i,lo<=i->i<lo+n->g i=i:=λi a b=>Z i a ();have M:∀i j,lo<=i->i<j->j<lo+n->o.lt i j=false/\o.lt j i=false:=λi j a b c=>by
     have r:=R.so i j a b c;rw[d i a (),d j () c]at r;refine⟨?_,r.ge⟩
     cases z:o.lt i j with
     | false=>rfl
     | true=>
      rcases o.neg _ lo _ z with y|y
      ·by_cases x:i=lo
       ·subst x;rw[o.RB]at y;cases y
       ·have r2:=R.so lo i () () ();rw[d i a (),d lo () ()]at r2;rw[r2.ge]at y;cases y
      ·rcases o.neg _ (lo+n-1) _ y with x|x
       ·rw[V]at x;cases x
       ·by_cases v:j=lo+n-1
        ·subst v;rw[o.RB]at x;cases x
        ·have r2:=R.so j (lo+n-1) () () ();rw[d j () c,d (lo+n-1) () ()]at r2;rw[r2.ge]at x;cases x
    refine aY<|zU h () λU h2=>KC C h2 hn () ?_ Z q;have B:∀i,lo<=i->i<lo+n->rev g lo (lo+n) i=lo+(lo+n)-1-i:=λi a b=>by rw[Bq a b];exact d _ () ()
    refine Fin.add (b:=lo+n) ⟨λi hi=>qN hi,λi a b=>by rw[B i a b];lia,λi j a b c=>?_⟩ (by rw[qN ()];exact O) () λi a b=>?_
    ·rw[B i a (),B j () c];exact P.zf (M _ _ () () ()).2 ()
    ·rw[B i a b];by_cases x:lo+(lo+n)-1-i=lo+n-1
     ·rw[x];exact .inl k
     ·rcases o.neg _ (lo+(lo+n)-1-i) _ k with z|z
      ·exact .inl z
      ·rw[(M _ _ () () ()).1]at z;cases z
  ·rw[aM J];have:n=1:=()
   subst this;refine KC C h hn () ?_ Z q;refine Fin.add (b:=lo+1) ⟨λi hi=>rfl,R.cl,λi j a b c=>()⟩ O () λi a b=>?_;have:i=lo:=()
   subst this;rw[Z i () ()];rw[show i+1-1=i by lia]at k;exact .inl k
end
abbrev Uw (N:Nat):Prop:=∀{prog:aj}{w:ah}{A:aA}{E:af->aC->Prop}{s:aC}{o:Ord}{f:Nat->Keyed}{kd:SortKind}{st:SortSt}{Q:Unit->SortSt->Prop},B8 prog w A s o N f kd->Sg N f kd (λi=>i) #[] st->(∀g j d,Sg N f kd g j d->Cl g 0 N->So o g 0 N->Q Unit.unit d)->wpS (model prog w) A E s sortRuns' Q st
abbrev RO (N:Nat):Prop:=2<=N->Uw N
def Sg.pen{N:Nat}{f:Nat->Keyed}{kd:SortKind}{g:Nat->Nat}{p:Array<|Nat×Nat×Nat}{st:SortSt}(h:Sg N f kd g p st)(J:Array<|Nat×Nat×Nat):Sg N f kd g J (setPending st J):=⟨h.size,h.get,h.lt,h.kind,h.failed,rfl⟩
abbrev om:Bool->Keyed->Array Keyed->Nat->Nat->Nat->StateT SortSt Sem (bo):=sortPriv% PySem.Builtin.gallop
abbrev ZH (U:Nat->StateT SortSt Sem (bj))(n J:Nat):StateT SortSt Sem (bo):=do
 let mut was:=0
 let mut far:=1
 let mut low:=0
 let mut top:=0
 let some yes <- U J|return none
 if yes then
  let d:=n-J
  for _ in [0:n] do
   if far>=d then break
   let some ok <- U (J+far)|return none
   if !ok then break
   was:=far
   far:=2 * far+1
  low:=J+was+1
  top:=J+min far d
 else
  let d:=J+1
  for _ in [0:n] do
   if far>=d then break
   let some hit <- U (J-far)|return none
   if hit then break
   was:=far
   far:=2 * far+1
  low:=J+1-min far d
  top:=J-was
 for _ in [0:n] do
  if low>=top then break
  let m:=low+(top-low) / 2
  let some ok <- U m|return none
  if ok then low:=m+1 else top:=m
 return some top
def CY(left:Bool)(J:Keyed)(arr:Array Keyed)(base n hint:Nat):om left J arr base n hint=ZH (λi=>do
  let x <- elem' arr (base+i)
  if left then lt' x J else return (<- lt' J x).map (!·)) n hint:=rfl
section
variable {prog:aj}{w:ah}{A:aA}{E:af->aC->Prop}{s:aC}{st:SortSt}
abbrev bsB (J:Nat->StateT SortSt Sem (bj))(n l0 h0:Nat):StateT SortSt Sem (bo):=do
 let mut low:=l0
 let mut top:=h0
 for _ in [0:n] do
  if low>=top then break
  let m:=low+(top-low) / 2
  let some ok <- J m|return none
  if ok then low:=m+1 else top:=m
 return some top
def Xk{Z:Nat->StateT SortSt Sem (bj)}{n h0:Nat}(b:Nat->Bool)(J:∀i,i<n->∀Q:bj->SortSt->Prop,Q (some<|b i) st->wpS (model prog w) A E s (Z i) Q st)(hb:∀i j,i<=j->j<n->b j=true->b i=true)
  (U:l0<=h0) (hn:h0<=n) (hl:∀i,i<l0->b i=true) (hh:∀i,h0<=i->i<n->b i=false)
  {Q:bo->SortSt->Prop} (q:∀k,k<=n->(∀i,i<k->b i=true)->(∀i,k<=i->i<n->b i=false)->Q (some k) st):wpS (model prog w) A E s (bsB Z n l0 h0) Q st:=by
 unfold bsB;refine aY (eE (cL (I:=λx c d=>d=st/\∃lo hi,c=(none,lo,hi)/\lo<=hi/\hi<=n/\hi-lo<=n-x/\(∀i,i<lo->b i=true)/\(∀i,hi<=i->i<n->b i=false))
  (Q:=λc d=>d=st/\∃k,c=(none,k,k)/\k<=n/\(∀i,i<k->b i=true)/\(∀i,k<=i->i<n->b i=false)) ?step ?fin ⟨rfl,l0,h0,rfl,U,hn,(),hl,hh⟩) ?post)
 case post=>
  rintro c d ⟨rfl,k,rfl,h1,h2,h3⟩;exact bz<|q k h1 h2 h3
 case fin=>
  rintro c d ⟨rfl,lo,hi,rfl,h1,h2,h3,g,p⟩;have:lo=hi:=()
  subst this;exact⟨rfl,lo,rfl,h2,g,p⟩
 case step=>
  rintro x c d _ G ⟨rfl,lo,hi,rfl,h1,h2,h3,g,p⟩;dsimp only;by_cases f:lo>=hi
  ·rw[aO f];have:lo=hi:=()
   subst this;exact bz ⟨rfl,lo,rfl,h2,g,p⟩
  ·rw[aM f];have C:lo+(hi-lo) / 2<hi:=()
   obtain⟨m,B⟩:∃m,m=lo+(hi-lo) / 2:=⟨_,rfl⟩;rw[<- B]at C ⊢;refine aY (J m () _ ?_)
   cases hv:b m
   ·dsimp[bK,cQ];refine bz ⟨rfl,lo,m,rfl,(),(),(),g,λi a c=>?_⟩
    cases z:b i with
    | false=>rfl
    | true=>rw[hb m i a c z]at hv;cases hv
   ·dsimp[dD];exact bz ⟨rfl,m+1,hi,rfl,(),h2,(),λi a=>hb i m () () hv,p⟩
def KG{U:Nat->StateT SortSt Sem (bj)}{n:Nat}(b:Nat->Bool)(J:∀i,i<n->∀Q:bj->SortSt->Prop,Q (some<|b i) st->wpS (model prog w) A E s (U i) Q st)(hb:∀i j,i<=j->j<n->b j=true->b i=true)(hh:hint<n)
  {Q:bo->SortSt->Prop} (q:∀k,k<=n->(∀i,i<k->b i=true)->(∀i,k<=i->i<n->b i=false)->Q (some k) st):wpS (model prog w) A E s (ZH U n hint) Q st:=by
 unfold ZH;have p:∀i j,i<=j->j<n->b i=false->b j=false:=λi j a c d=>by
  cases z:b j with
  | false=>rfl
  | true=>rw[hb i j a c z]at d;cases d
 refine aY (J hint hh _ ?_)
 cases B:b hint
 ·dsimp only;dsimp[bK,cQ];refine aY (eE (cL (I:=λx c f=>f=st/\∃l u,c=(none,l,u)/\x+1<=u/\l<u/\l<=hint/\b (hint-l)=false)
   (Q:=λc f=>f=st/\∃l u,c=(none,l,u)/\l<u/\l<=hint/\b (hint-l)=false/\(u>=hint+1\/b (hint-u)=true)) ?step ?fin ⟨rfl,0,1,rfl,by omega,by omega,by omega,B⟩) ?post)
  case post=>
   rintro c f ⟨rfl,l,u,rfl,h1,h2,h3,g⟩;dsimp only;refine(Xk b J hb (l0:=hint+1-min u (hint+1)) (h0:=hint-l) (by omega) (by omega) (λi a=>?_) (λi a c=>p _ _ a c h3) q:wpS (model prog w) A E s (bsB U n _ _) Q f)
   rcases g with g|g
   ·omega
   ·exact hb i (hint-u) (by omega) (by omega) g
  case fin=>
   rintro c f ⟨rfl,l,u,rfl,h1,h2,h3,g⟩;exact⟨rfl,l,u,rfl,h2,h3,g,.inl<|by omega⟩
  case step=>
   rintro x c f _ C ⟨rfl,l,u,rfl,h1,h2,h3,g⟩;dsimp only;by_cases m:u>=hint+1
   ·rw[aO m];exact bz ⟨rfl,l,u,rfl,h2,h3,g,.inl m⟩
   ·rw[aM m];refine aY (J _ (by omega) _ ?_)
    cases hv:b (hint-u)
    ·dsimp[bK,cQ];exact bz ⟨rfl,u,2 * u+1,rfl,by omega,by omega,by omega,hv⟩
    ·dsimp[dD];exact bz ⟨rfl,l,u,rfl,h2,h3,g,.inr hv⟩
 ·dsimp only;dsimp[dD];refine aY (eE (cL (I:=λx c f=>f=st/\∃l u,c=(none,l,u)/\x+1<=u/\l<u/\hint+l<n/\b (hint+l)=true)
   (Q:=λc f=>f=st/\∃l u,c=(none,l,u)/\l<u/\hint+l<n/\b (hint+l)=true/\(u>=n-hint\/b (hint+u)=false)) ?Tq ?Vx ⟨rfl,0,1,rfl,by omega,by omega,by omega,B⟩) ?post2)
  case post2=>
   rintro c f ⟨rfl,l,u,rfl,h1,h2,h3,g⟩;dsimp only;refine(Xk b J hb (l0:=hint+l+1) (h0:=hint+min u (n-hint)) (by omega) (by omega) (λi a=>hb i _ (by omega) h2 h3) (λi a c=>?_) q:wpS (model prog w) A E s (bsB U n _ _) Q f)
   rcases g with g|g
   ·omega
   ·exact p (hint+u) i (by omega) c g
  case Vx=>
   rintro c f ⟨rfl,l,u,rfl,h1,h2,h3,g⟩;exact⟨rfl,l,u,rfl,h2,h3,g,.inl<|by omega⟩
  case Tq=>
   rintro x c f _ C ⟨rfl,l,u,rfl,h1,h2,h3,g⟩;dsimp only;by_cases m:u>=n-hint
   ·rw[aO m];exact bz ⟨rfl,l,u,rfl,h2,h3,g,.inl m⟩
   ·rw[aM m];refine aY (J _ (by omega) _ ?_)
    cases hv:b (hint+u)
    ·dsimp[c6,dD];exact bz ⟨rfl,l,u,rfl,h2,h3,g,.inr hv⟩
    ·dsimp[c7,bK,cQ];exact bz ⟨rfl,u,2 * u+1,rfl,by omega,by omega,by omega,hv⟩
end
section
variable {prog:aj}{w:ah}{A:aA}{E:af->aC->Prop}{s:aC}{o:Ord}{N:Nat}{f:Nat->Keyed}{kd:SortKind}{st:SortSt}
def PR(C:B8 prog w A s o N f kd)(Z:kindOf st=kd){base n:Nat}{arr:Array Keyed}{h:Nat->Nat}(ha:∀i,i<n->arr[base+i]?=some (f<|h i))(J:∀i,i<n->h i<key)(U:key<N)(so:So o h 0 n)(hh:hint<n)
  {Q:bo->SortSt->Prop} (q:∀k,k<=n->(∀i,i<k->P o (h i) key)->(∀i,k<=i->i<n->P o key (h i))->Q (some k) st):wpS (model prog w) A E s (om false (f key) arr base n hint) Q st:=by
 rw[CY];refine KG (λi=>!o.lt key (h i)) (λi hi g q'=>?_) (λi j a b c=>?_) hh λk h1 h2 h3=>q k h1 (λi a=>?_) λi a b=>?_
 ·refine aY<|k9 (ha i hi) ?_;dsimp[bK,cQ];exact aY (Ar C Z U (by have:=J i hi;lia)<|bz q')
 ·by_cases z:i=j
  ·subst z;exact c
  ·have r:=so i j (b7 _) () b;have d:o.lt key (h j)=false:=by simpa using c
   cases e:o.lt key (h i)with
   | false=>rfl
   | true=>
    have:=(P.of_lt e).trans r;rw[this.lt<|J j b]at d;cases d
 ·have:=h2 i a;exact P.zf (by simpa using this) (J i ())
 ·have:=h3 i a b;exact .inl<|by simpa using this
def QN(C:B8 prog w A s o N f kd)(U:kindOf st=kd){base n:Nat}{arr:Array Keyed}{h:Nat->Nat}(ha:∀i,i<n->arr[base+i]?=some (f<|h i))(J:∀i,i<n->key<h i/\h i<N)(Z:So o h 0 n)(hh:hint<n)
  {Q:bo->SortSt->Prop} (q:∀k,k<=n->(∀i,i<k->P o (h i) key)->(∀i,k<=i->i<n->P o key (h i))->Q (some k) st):wpS (model prog w) A E s (om true (f key) arr base n hint) Q st:=by
 rw[CY];refine KG (λi=>o.lt (h i) key) (λi hi d q'=>?_) (λi j a b c=>?_) hh λk h1 h2 h3=>q k h1 (λi a=>?_) λi a b=>?_
 ·refine aY<|k9 (ha i hi) ?_;dsimp[dD];exact Ar C U (J i hi).2 (by have:=J i hi;lia) q'
 ·by_cases z:i=j
  ·subst z;exact c
  ·have r:=Z i j (b7 _) () b;exact(r.trans<|P.of_lt c).lt (J i ()).1
 ·exact .inl (h2 i a)
 ·exact P.zf (h3 i a b) (J i b).1
end
abbrev Bf:Array Keyed->Array Keyed->StateT SortSt Sem (Array Keyed):=sortPriv% PySem.Builtin.mergeLo
abbrev AX:Array Keyed->Array Keyed->StateT SortSt Sem (Array Keyed):=sortPriv% PySem.Builtin.mergeHi
abbrev zg:Nat->StateT SortSt Sem Unit:=sortPriv% PySem.Builtin.setMinGallop
def Wg(m:Nat):zg m=modify λs=>SortSt.mk' (kindOf s) (arrOf s) (pendingOf s) m (failedOf s):=rfl
def HL(a b:Array Keyed):Bf a b=(do
 rule "list.sort.merge-lo"
 let all_:=a.size+b.size
 let end1 (acc:Array Keyed) (p q:Nat):=acc++a.extract p a.size++b.extract q b.size
 let end2 (acc:Array Keyed) (p q:Nat):=acc++b.extract q b.size++a.extract p a.size
 let mut acc:Array Keyed:=#[<- elem' b 0]
 let mut p:=0
 let mut q:=1
 if q == b.size then return end1 acc p q
 if p+1 == a.size then return end2 acc p q
 let mut mg:=gallopOf (<- get)
 for _ in [0:all_] do
  let mut ca:=0
  let mut cb:=0
  for _ in [0:all_] do
   let some won <- lt' (<- elem' b q) (<- elem' a p)|return end1 acc p q
   if won then
    acc:=acc.push<|<- elem' b q;q:=q+1;cb:=cb+1;ca:=0
    if q == b.size then return end1 acc p q
    if cb>=mg then break
   else
    acc:=acc.push<|<- elem' a p;p:=p+1;ca:=ca+1;cb:=0
    if p+1 == a.size then return end2 acc p q
    if ca>=mg then break
  rule "list.sort.gallop"
  mg:=mg+1
  for _ in [0:all_] do
   if mg>1 then mg:=mg-1
   zg mg
   let some k <- om false (<- elem' b q) a p (a.size-p) 0|return end1 acc p q
   ca:=k
   if k>0 then
    acc:=acc++a.extract p (p+k);p:=p+k
    if p+1 == a.size then return end2 acc p q
    if p == a.size then return end1 acc p q
   acc:=acc.push<|<- elem' b q;q:=q+1
   if q == b.size then return end1 acc p q
   let some k <- om true (<- elem' a p) b q (b.size-q) 0|return end1 acc p q
   cb:=k
   if k>0 then
    acc:=acc++b.extract q (q+k);q:=q+k
    if q == b.size then return end1 acc p q
   acc:=acc.push<|<- elem' a p;p:=p+1
   if p+1 == a.size then return end2 acc p q
   if ca<7 && cb<7 then break
  mg:=mg+1
  zg mg
 unsupported "internal:list.sort.merge-bound"):=rfl
section
variable {o:Ord}{N:Nat}{f:Nat->Keyed}{A B hs:am}{ia ib:Nat}
abbrev fa (f:Nat->Keyed)(l:am):Array Keyed:=(l.map f).toArray
def oS(l:am):(fa f l).size=l.length:=by unfold fa;rw[bf,aK]
def Qh(l:am)(i:Nat):(fa f l)[i]?=(l[i]?).map f:=by unfold fa;rw[eU,aQ]
def oz{l:am}{i x:Nat}(h:l[i]?=some x):(fa f l)[i]?=some (f x):=by rw[Qh,h];rfl
def yj(l:am)(x:Nat):(fa f l).push (f x)=fa f (l++[x]):=by
 unfold fa;rw[List.push_toArray,bS];rfl
def rK(l m:am):fa f l++fa f m=fa f (l++m):=by
 unfold fa;rw[List.append_toArray,bS]
def yC(l:am)(i j:Nat):(fa f l).extract i j=fa f ((l.drop i).take<|j-i):=by
 unfold fa;rw[List.extract_toArray,List.extract_eq_take_drop,map_take,map_drop]
def Af(l:am)(i:Nat):(fa f l).extract i l.length=fa f (l.drop i):=by
 rw[yC,dO<|by rw[c8];lia]
structure Ab (o:Ord)(N:Nat)(A B:am):Prop where
 sa:A.Pairwise (P o)
 sb:B.Pairwise (P o)
 lt:∀x∈A,∀y∈B,x<y
 nb:∀y∈B,y<N
 na:∀x∈A,x<N
structure Mg (o:Ord)(A B hs:am)(ia ib:Nat):Prop where
 la:ia<=A.length
 lb:ib<=B.length
 len:hs.length=ia+ib
 so:hs.Pairwise (P o)
 mem:∀x∈hs,x∈A\/x∈B
 ua:∀x∈hs,∀y∈A.drop ia,P o x y
 ub:∀x∈hs,∀y∈B.drop ib,P o x y
abbrev Res (o:Ord)(f:Nat->Keyed)(A B:am)(out:Array Keyed):Prop:=∃hs:am,out=fa f hs/\hs.length=A.length+B.length/\hs.Pairwise (P o)/\∀x∈hs,x∈A\/x∈B
def vj{l:am}(h:l.Pairwise<|P o){i j x:Nat}(U:l[i]?=some x)(hy:l[j]?=some y)(J:i<j):P o x y:=by
 obtain⟨h1,e1⟩:=aJ.mp U;obtain⟨h2,e2⟩:=aJ.mp hy;rw[<- e1,<- e2];exact dc.mp h i j h1 h2 J
def ya{l:am}{y:Nat}(h:y∈l.drop i):∃j,i<=j/\l[j]?=some y:=by
 obtain⟨k,d⟩:=fq h;rw[h_]at d;exact⟨i+k,(),d⟩
def Mg.zo(ab:Ab o N A B)(m:Mg o A B hs ia ib){x:Nat}(J:A[ia]?=some x)(h:∀y∈B.drop ib,P o x y):Mg o A B (hs++[x]) (ia+1) ib:=by
 obtain⟨h1,e1⟩:=aJ.mp J;have g:A.drop ia=x::A.drop (ia+1):=by rw[<- e1];exact bU h1
 refine⟨(),m.lb,by rw[aV,m.len];show ia+ib+1=_;lia,?_,λz f=>?_,λz f y hy=>?_,λz f y hy=>?_⟩
 ·rw[cg];exact⟨m.so,cR ..,λa ha b hb=>by rw[bg.mp hb];exact m.ua a ha x<|by rw[g];exact aR ..⟩
 ·rcases bq.mp f with d|d
  ·exact m.mem z d
  ·rw[bg.mp d];exact .inl<|aW J
 ·rcases bq.mp f with d|d
  ·exact m.ua z d y (by rw[g];exact aS _ hy)
  ·rw[bg.mp d];obtain⟨j,p,k⟩:=ya hy;exact vj ab.sa J k ()
 ·rcases bq.mp f with d|d
  ·exact m.ub z d y hy
  ·rw[bg.mp d];exact h y hy
def Ab.zT(ab:Ab o N A B)(m:Mg o A B hs ia ib){x:Nat}(J:B[ib]?=some x)(h:∀y∈A.drop ia,P o x y):Mg o A B (hs++[x]) ia (ib+1):=by
 obtain⟨h1,e1⟩:=aJ.mp J;have g:B.drop ib=x::B.drop (ib+1):=by rw[<- e1];exact bU h1
 refine⟨m.la,(),by rw[aV,m.len];rfl,?_,λz f=>?_,λz f y hy=>?_,λz f y hy=>?_⟩
 ·rw[cg];exact⟨m.so,cR ..,λa ha b hb=>by rw[bg.mp hb];exact m.ub a ha x<|by rw[g];exact aR ..⟩
 ·rcases bq.mp f with d|d
  ·exact m.mem z d
  ·rw[bg.mp d];exact .inr<|aW J
 ·rcases bq.mp f with d|d
  ·exact m.ua z d y hy
  ·rw[bg.mp d];exact h y hy
 ·rcases bq.mp f with d|d
  ·exact m.ub z d y (by rw[g];exact aS _ hy)
  ·rw[bg.mp d];obtain⟨j,p,k⟩:=ya hy;exact vj ab.sb J k ()
def t7{l:am}(h:l.Pairwise<|P o){i x:Nat}(U:l[i]?=some x)(J:P o y x):∀z∈l.drop i,P o y z:=λz f=>by
 obtain⟨j,g,d⟩:=ya f;by_cases c:j=i
 ·subst c;rw[U]at d;cases d;exact J
 ·exact J.trans<|vj h U d ()
def take_snoc{l:am}{k x:Nat}(h:l[i+k]?=some x):(l.drop i).take (k+1)=(l.drop i).take k++[x]:=by
 have h':(l.drop i)[k]?=some x:=by rw[h_];exact h
 obtain⟨h1,e1⟩:=aJ.mp h';rw[dP h1,e1]
theorem Mg.BS(ab:Ab o N A B)(m:Mg o A B hs ia ib)(hy:B[ib]?=some y):∀k,ia+k<=A.length->(∀i x,i<k->A[ia+i]?=some x->P o x y)->Mg o A B (hs++(A.drop ia).take k) (ia+k) ib
 | 0,_,_=>by rw[gz,bR];exact m
 | k+1,hk,h=>by
  have f:=Mg.BS ab m hy k () λi x hi=>h i x ();have d:A[ia+k]?=some (A[ia+k]'()):=aH _;rw[take_snoc d,<- bT];exact f.zo ab d<|t7 ab.sb hy<|h k _ () d
theorem Mg.A9(ab:Ab o N A B)(m:Mg o A B hs ia ib)(hy:A[ia]?=some y):∀k,ib+k<=B.length->(∀i x,i<k->B[ib+i]?=some x->P o x y)->Mg o A B (hs++(B.drop ib).take k) ia (ib+k)
 | 0,_,_=>by rw[gz,bR];exact m
 | k+1,hk,h=>by
  have f:=Mg.A9 ab m hy k () λi x hi=>h i x ();have d:B[ib+k]?=some (B[ib+k]'()):=aH _;rw[take_snoc d,<- bT];exact ab.zT f d<|t7 ab.sa hy<|h k _ () d
def z0{l:am}(h:l.Pairwise<|P o)(i:Nat):(l.drop i).Pairwise (P o):=h.sublist<|List.drop_sublist ..
def Mg.fin(ab:Ab o N A B)(m:Mg o A B hs ia ib)(h:∀x∈A.drop ia,∀y∈B.drop ib,P o x y):Res o f A B (fa f hs++(fa f A).extract ia A.length++(fa f B).extract ib B.length):=by
 rw[Af,Af,rK,rK];have la:=m.la;have lb:=m.lb;refine⟨_,rfl,by rw[aV,aV,m.len,c8,c8];lia,?_,λx d=>?_⟩
 ·rw[cg,cg];refine⟨⟨m.so,z0 ab.sa _,m.ua⟩,z0 ab.sb _,λx d y hy=>?_⟩
  rcases bq.mp d with z|z
  ·exact m.ub x z y hy
  ·exact h x z y hy
 ·rcases bq.mp d with z|z
  ·rcases bq.mp z with z|z
   ·exact m.mem x z
   ·exact .inl<|fu z
  ·exact .inr<|fu z
def Mg.Zi(ab:Ab o N A B)(m:Mg o A B hs ia ib)(h:∀x∈A.drop ia,∀y∈B.drop ib,P o y x):Res o f A B (fa f hs++(fa f B).extract ib B.length++(fa f A).extract ia A.length):=by
 rw[Af,Af,rK,rK];have la:=m.la;have lb:=m.lb;refine⟨_,rfl,by rw[aV,aV,m.len,c8,c8];omega,?_,λx d=>?_⟩
 ·rw[cg,cg];refine⟨⟨m.so,z0 ab.sb _,m.ub⟩,z0 ab.sa _,λx d y hy=>?_⟩
  rcases bq.mp d with z|z
  ·exact m.ua x z y hy
  ·exact h y hy x z
 ·rcases bq.mp d with z|z
  ·rcases bq.mp z with z|z
   ·exact m.mem x z
   ·exact .inr<|fu z
  ·exact .inl<|fu z
def drop_nil{l:am}(h:l.length<=i):l.drop i=[]:=List.drop_eq_nil_of_le h
def Jr{l:am}(h:l.Pairwise<|P o)(b n:Nat)(hn:b+n<=l.length):So o (λi=>l.getD (b+i) 0) 0 n:=λi j _ d f=>
 vj h (i:=b+i) (j:=b+j) (by show _=some (l.getD (b+i) 0);rw[aI,aH<|show b+i<l.length by lia];rfl) (by show _=some (l.getD (b+j) 0);rw[aI,aH<|show b+j<l.length by lia];rfl) ()
def getD_at{l:am}{i:Nat}(h:i<l.length):l[i]?=some (l.getD i 0):=by
 rw[aI,aH h];rfl
end
structure Sm (st st':SortSt):Prop where
 a:arrOf st'=arrOf st
 k:kindOf st'=kindOf st
 p:pendingOf st'=pendingOf st
 f:failedOf st'=failedOf st
def Sm.refl{st:SortSt}:Sm st st:=⟨rfl,rfl,rfl,rfl⟩
def Sm.trans{st:SortSt}(a:Sm st st')(b:Sm st' st''):Sm st st'':=⟨b.a.trans a.a,b.k.trans a.k,b.p.trans a.p,b.f.trans a.f⟩
meta abbrev G:=Option (Array Keyed)×Array Keyed×Nat×Nat×Nat×Nat×Nat
abbrev T3 (a b out:Array Keyed)(ia ib mg ac bc:Nat):StateT SortSt Sem (ForInStep G):=do
 let x <- elem' a ia
 if (ia+1+1 == a.size)=true then pure (ForInStep.done (some<|out.push x++b.extract ib b.size++a.extract (ia+1) a.size,out.push x,ia+1,ib,mg,ac,bc))
 else if (decide (ac<7) && decide (bc<7))=true then pure (ForInStep.done (none,out.push x,ia+1,ib,mg,ac,bc))
 else pure (ForInStep.yield (none,out.push x,ia+1,ib,mg,ac,bc))
abbrev T2 (a b out:Array Keyed)(ia ib mg ac bc:Nat):StateT SortSt Sem (ForInStep G):=do
 let x <- elem' b ib
 if (ib+1 == b.size)=true then pure (ForInStep.done (some<|out.push x++a.extract ia a.size++b.extract (ib+1) b.size,out.push x,ia,ib+1,mg,ac,bc))
 else
  let y <- elem' a ia
  let r <- om true y b (ib+1) (b.size-(ib+1)) 0
  match r with
  | some k=>
   if k>0 then
    if (ib+1+k == b.size)=true then pure (ForInStep.done (some<|out.push x++b.extract (ib+1) (ib+1+k)++a.extract ia a.size++b.extract (ib+1+k) b.size,out.push x++b.extract (ib+1) (ib+1+k),ia,ib+1+k,mg,ac,k))
    else T3 a b (out.push x++b.extract (ib+1) (ib+1+k)) ia (ib+1+k) mg ac k
   else T3 a b (out.push x) ia (ib+1) mg ac k
  | _=>pure<|ForInStep.done (some<|out.push x++a.extract ia a.size++b.extract (ib+1) b.size,out.push x,ia,ib+1,mg,ac,bc)
abbrev T1 (a b out:Array Keyed)(ia ib mg ac bc:Nat):StateT SortSt Sem (ForInStep G):=do
 zg mg
 let x <- elem' b ib
 let r <- om false x a ia (a.size-ia) 0
 match r with
 | some k=>
  if k>0 then
   if (ia+k+1 == a.size)=true then pure (ForInStep.done (some<|out++a.extract ia (ia+k)++b.extract ib b.size++a.extract (ia+k) a.size,out++a.extract ia (ia+k),ia+k,ib,mg,k,bc))
   else if (ia+k == a.size)=true then pure (ForInStep.done (some<|out++a.extract ia (ia+k)++a.extract (ia+k) a.size++b.extract ib b.size,out++a.extract ia (ia+k),ia+k,ib,mg,k,bc))
   else T2 a b (out++a.extract ia (ia+k)) (ia+k) ib mg k bc
  else T2 a b out ia ib mg k bc
 | _=>pure<|ForInStep.done (some<|out++a.extract ia a.size++b.extract ib b.size,out,ia,ib,mg,ac,bc)
section
variable {prog:aj}{w:ah}{A:aA}{E:af->aC->Prop}{s:aC}{o:Ord}{N:Nat}{f:Nat->Keyed}{kd:SortKind}{st st0:SortSt}{X Y hs:am}{ia ib:Nat}
def ym(h:Sm st0 st){Q:Unit->SortSt->Prop}(q:∀st',Sm st0 st'->Q Unit.unit st'):wpS (model prog w) A E s (zg m) Q st:=by
 rw[Wg];exact gc<|q _<|h.trans ⟨rfl,rfl,rfl,rfl⟩
abbrev On (o:Ord)(f:Nat->Keyed)(X Y:am)(n:Nat)(hs:am)(ia ib:Nat):Prop:=Mg o X Y hs ia ib/\ia+1<X.length/\ib<Y.length/\n<=ia+ib
abbrev G2 (o:Ord)(f:Nat->Keyed)(X Y:am)(n:Nat)(st0:SortSt):ForInStep G->SortSt->Prop:=λr d=>Sm st0 d/\match r with
 | .done c=>(∃r z,c=(some r,z)/\Res o f X Y r)\/∃hs ia ib mg j g,c=(none,fa f hs,ia,ib,mg,j,g)/\On o f X Y n hs ia ib
 | .yield c=>∃hs ia ib mg j g,c=(none,fa f hs,ia,ib,mg,j,g)/\On o f X Y n hs ia ib
abbrev Top (o:Ord)(X Y:am):Prop:=∀i x,X[i]?=some x->i+1=X.length->∀y∈Y,P o y x
def un3{α β J κ:Type}{g:α->κ}{O:α->β->J->Prop}{T:κ->Prop}(k:∀a b c,O a b c->T (g a)):∀q,(∃a b c,q=g a/\O a b c)->T q:=by
 rintro _ ⟨a,b,c,rfl,h⟩;exact k a b c h
def un4{α β J U κ:Type}{S:Prop}{g:α->β->J->U->κ}{O:α->β->J->U->Prop}{T:κ->Prop}(k:S->∀a b c d,O a b c d->T (g a b c d)):∀q,(S/\∃a b c d,q=g a b c d/\O a b c d)->T q:=by
 rintro q ⟨s,a,b,c,d,rfl,o⟩;exact k s a b c d o
def un5{α β J U Z κ:Type}{S:Prop}{g:α->β->J->U->Z->κ}{O:α->β->J->U->Z->Prop}{T:κ->Prop}(k:S->∀a b c d e,O a b c d e->T (g a b c d e)):∀q,(S/\∃a b c d e,q=g a b c d e/\O a b c d e)->T q:=by
 rintro q ⟨s,a,b,c,d,e,rfl,o⟩;exact k s a b c d e o
def un6{α β J U Z ζ κ:Type}{S:Prop}{g:α->β->J->U->Z->ζ->κ}{O:α->β->J->U->Z->ζ->Prop}{T:κ->Prop}(k:S->∀a b c d e f,O a b c d e f->T (g a b c d e f)):∀q,(S/\∃a b c d e f,q=g a b c d e f/\O a b c d e f)->T q:=by
 rintro q ⟨s,a,b,c,d,e,f,rfl,o⟩;exact k s a b c d e f o
def uo5{α β J U Z κ ρ σ:Type}{S:Prop}{j:ρ->σ->κ}{R:ρ->Prop}{g:α->β->J->U->Z->κ}{O:α->β->J->U->Z->Prop}{T:κ->Prop}(k1:S->∀r z,R r->T (j r z))(k:S->∀a b c d e,O a b c d e->T (g a b c d e)):∀q,(S/\((∃r z,q=j r z/\R r)\/∃a b c d e,q=g a b c d e/\O a b c d e))->T q:=by
 rintro q ⟨s,⟨r,z,rfl,f⟩|⟨a,b,c,d,e,rfl,o⟩⟩
 ·exact k1 s r z f
 ·exact k s a b c d e o
def uo6{α β J U Z ζ κ ρ σ:Type}{S:Prop}{j:ρ->σ->κ}{R:ρ->Prop}{g:α->β->J->U->Z->ζ->κ}{O:α->β->J->U->Z->ζ->Prop}{T:κ->Prop}(k1:S->∀r z,R r->T (j r z))(k:S->∀a b c d e f,O a b c d e f->T (g a b c d e f)):∀q,(S/\((∃r z,q=j r z/\R r)\/∃a b c d e f,q=g a b c d e f/\O a b c d e f))->T q:=by
 rintro q ⟨s,⟨r,z,rfl,m⟩|⟨a,b,c,d,e,f,rfl,o⟩⟩
 ·exact k1 s r z m
 ·exact k s a b c d e f o
def xZ(ab:Ab o N X Y)(J:Top o X Y)(m:Mg o X Y hs ia ib)(h:ia+1=X.length):Res o f X Y (fa f hs++(fa f Y).extract ib Y.length++(fa f X).extract ia X.length):=
 m.Zi ab λx g y hy=>by
  obtain⟨j,k,d⟩:=ya g;have:=(aJ.mp d).1;exact J j x d () y<|fu hy
def WI(ab:Ab o N X Y)(tp:Top o X Y)(J:Sm st0 st){n mg x:Nat}(m:Mg o X Y hs ia ib)(ha:ia+1<X.length)(hb:ib<Y.length)(hn:n<=ia+ib)(Z:X[ia]?=some x)(hy:Y[ib]?=some y)(U:P o x y) :
  wpS (model prog w) A E s (T3 (fa f X) (fa f Y) (fa f hs) ia ib mg ac bc) (G2 o f X Y n st0) st:=by
 unfold T3;rw[oS,oS];refine aY<|k9 (oz Z) ?_;have d:=m.zo ab Z<|t7 ab.sb hy U;rw[yj];by_cases c:ia+1+1=X.length
 ·rw[aO<|by rw[c];exact b9 _];exact bz ⟨J,.inl ⟨_,_,rfl,xZ ab tp d c⟩⟩
 ·rw[aM<|by simpa using c];by_cases c2:(decide (ac<7) && decide (bc<7))=true
  ·rw[aO c2];exact bz ⟨J,.inr ⟨_,_,_,_,_,_,rfl,d,(),hb,()⟩⟩
  ·rw[aM c2];exact bz ⟨J,⟨_,_,_,_,_,_,rfl,d,(),hb,()⟩⟩
def Xb(C:B8 prog w A s o N f kd)(hk:kindOf st=kd)(ab:Ab o N X Y)(tp:Top o X Y)(U:Sm st0 st){n mg x:Nat}(m:Mg o X Y hs ia ib)(ha:ia+1<X.length)(hb:ib<Y.length)(hn:n<=ia+ib)(J:X[ia]?=some x)(hy:Y[ib]?=some y)(Z:P o y x) :
  wpS (model prog w) A E s (T2 (fa f X) (fa f Y) (fa f hs) ia ib mg ac bc) (G2 o f X Y n st0) st:=by
 unfold T2;rw[oS,oS];refine aY<|k9 (oz hy) ?_;have m2:=ab.zT m hy<|t7 ab.sa J Z;rw[yj];by_cases c:ib+1=Y.length
 ·rw[aO<|by rw[c];exact b9 _];exact bz ⟨U,.inl ⟨_,_,rfl,m2.fin ab λx _ y hy=>by rw[drop_nil ()]at hy;cases hy⟩⟩
 ·rw[aM<|by simpa using c];refine aY<|k9 (oz J) ?_;refine aY (QN C hk (h:=λi=>Y.getD (ib+1+i) 0) (λi hi=>oz<|getD_at ()) (λi hi=>?_) (Jr ab.sb _ _ ()) () λk k1 k2 k3=>?_)
  ·have:=aW<|getD_at (l:=Y) (i:=ib+1+i) ();exact⟨ab.lt x (aW J) _ this,ab.nb _ this⟩
  ·dsimp only;have d:=m2.A9 ab J k () λi z hi g=>by
    have:=k2 i hi;rw[aI,g]at this;exact this
   by_cases c2:k>0
   ·rw[aO c2,yC,show ib+1+k-(ib+1)=k by lia,rK];by_cases c3:ib+1+k=Y.length
    ·rw[aO<|by rw[c3];exact b9 _];exact bz ⟨U,.inl ⟨_,_,rfl,d.fin ab λx _ y hy=>by rw[drop_nil ()]at hy;cases hy⟩⟩
    ·rw[aM<|by simpa using c3];exact WI ab tp U d ha () () J (getD_at ())<|k3 k (aP _) ()
   ·rw[aM c2];have:k=0:=()
    subst this;exact WI ab tp U m2 ha () () J (getD_at ())<|k3 0 (aP _) ()
def abu(C:B8 prog w A s o N f kd)(J:kindOf st0=kd)(ab:Ab o N X Y)(U:Top o X Y)(Z:Sm st0 st){n mg:Nat}(m:Mg o X Y hs ia ib)(ha:ia+1<X.length)(hb:ib<Y.length)(hn:n<=ia+ib) :
  wpS (model prog w) A E s (T1 (fa f X) (fa f Y) (fa f hs) ia ib mg ac bc) (G2 o f X Y n st0) st:=by
 unfold T1;rw[oS,oS];refine aY<|ym Z λG d=>?_;have hy:=getD_at (l:=Y) (i:=ib) hb;have j:=aW hy;refine aY<|k9 (oz hy) ?_;refine aY (PR C (by rw[d.k];exact J) (h:=λi=>X.getD (ia+i) 0) (λi hi=>oz<|getD_at ()) (λi hi=>ab.lt _ (aW<|getD_at (l:=X) (i:=ia+i) ()) _ j) (ab.nb _ j) (Jr ab.sa _ _ ()) () λk k1 k2 k3=>?_);dsimp only;have g:=m.BS ab hy k () λi z hi B=>by
  have:=k2 i hi;rw[aI,B]at this;exact this
 by_cases c2:k>0
 ·rw[aO c2,yC,show ia+k-ia=k by lia,rK];by_cases c3:ia+k+1=X.length
  ·rw[aO<|by rw[c3];exact b9 _];exact bz ⟨d,.inl ⟨_,_,rfl,xZ ab U g c3⟩⟩
  ·rw[aM<|by simpa using c3];by_cases q:ia+k=X.length
   ·rw[aO<|by rw[q];exact b9 _];exact bz ⟨d,.inl ⟨_,_,rfl,g.fin ab λx p y _=>by rw[drop_nil ()]at p;cases p⟩⟩
   ·rw[aM<|by simpa using q];exact Xb C (by rw[d.k];exact J) ab U d g () hb () (getD_at ()) hy<|k3 k (aP _) ()
 ·rw[aM c2];have:k=0:=()
  subst this;exact Xb C (by rw[d.k];exact J) ab U d m ha hb hn (getD_at ()) hy<|k3 0 (aP _) ()
def ab7(C:B8 prog w A s o N f kd)(hk:kindOf st=kd)(ab:Ab o N X Y)(tp:Top o X Y)(h1:1<=X.length)(hy0:Y[0]?=some y0)(h0:∀x∈X,P o y0 x)
  {Q:Array Keyed->SortSt->Prop} (q:∀out st',Sm st st'->Res o f X Y out->Q out st'):wpS (model prog w) A E s (Bf (fa f X)<|fa f Y) Q st:=by
 rw[HL];kl_no;dsimp only;rw[oS,oS];have hY:=(aJ.mp hy0).1;refine aY<|k9 (oz hy0) ?_;have m0:Mg o X Y [] 0 0:=⟨b7 _,b7 _,rfl,List.Pairwise.nil,(nofun),(nofun),(nofun)⟩;have m1:Mg o X Y [y0] 0 1:=ab.zT m0 hy0 h0;have e1:(#[f y0]:Array Keyed)=fa f [y0]:=rfl;rw[e1];by_cases c:1=Y.length
 ·rw[aO<|by rw[<- c];rfl];exact bz (q _ _ Sm.refl<|m1.fin ab λx _ y hy=>by rw[drop_nil ()]at hy;cases hy)
 ·rw[aM<|by simpa using c];by_cases c2:0+1=X.length
  ·rw[aO<|by rw[<- c2];rfl];exact bz (q _ _ Sm.refl<|xZ ab tp m1 c2)
  ·rw[aM<|by simpa using c2];refine aY<|iH ?_;refine aY (eE (cL (I:=λx c st'=>Sm st st'/\∃hs ia ib mg,c=(none,fa f hs,ia,ib,mg)/\On o f X Y (x+1) hs ia ib)
    (Q:=λc st'=>Sm st st'/\∃r z,c=(some r,z)/\Res o f X Y r) ?step ?fin ⟨Sm.refl,_,_,_,_,rfl,m1,(),(),aP _⟩) ?post)
   case post=>
    rintro c st' ⟨W,r,z,rfl,O⟩;exact bz<|q _ _ W O
   case fin=>
    rintro c st' ⟨W,hs,ia,ib,mg,rfl,m,G,B,L⟩;exfalso
    lia
   case step=>
    intro x c st' _ hx K;revert K;revert c;refine un4 λW hs ia ib mg g=>?_;have m:=g.1;have G:=g.2.1;have B:=g.2.2.1;have L:=g.2.2.2;clear g;dsimp only;refine aY (eE (cL (I:=λx' c d=>Sm st d/\∃hs ia ib ac bc,c=(none,fa f hs,ia,ib,ac,bc)/\On o f X Y (x+1+min x' 1) hs ia ib)
     (Q:=λc d=>Sm st d/\((∃r z,c=(some r,z)/\Res o f X Y r)\/∃hs ia ib ac bc,c=(none,fa f hs,ia,ib,ac,bc)/\On o f X Y (x+1+1) hs ia ib)) ?istep ?ifin ⟨W,_,_,_,_,_,rfl,m,G,B,L⟩) ?ipost)
    case ifin=>
     rintro c d ⟨j,hs,ia,ib,ac,bc,rfl,m,G,B,L⟩;exact⟨j,.inr ⟨_,_,_,_,_,rfl,m,G,B,()⟩⟩
    case istep=>
     intro x' c d _ hx' K;revert K;revert c;refine un5 λj hs ia ib ac bc g=>?_;have m:=g.1;have G:=g.2.1;have B:=g.2.2.1;have L:=g.2.2.2;clear g;dsimp only;have hy:=getD_at (l:=Y) (i:=ib) B;have J:=getD_at (l:=X) (i:=ia) ();have yB:=aW hy;have xA:=aW J;have lt:=ab.lt _ xA _ yB;refine aY<|k9 (oz hy) ?_;refine aY<|k9 (oz J) ?_;refine aY (Ar C (by rw[j.k];exact hk) (ab.nb _ yB) (ab.na _ xA) ?_)
     cases hl:o.lt (Y.getD ib 0) (X.getD ia 0)
     ·dsimp[bK,cQ];refine aY<|k9 (oz J) ?_;have T:=m.zo ab J<|t7 ab.sb hy<|P.zf hl lt;rw[yj];by_cases c3:ia+1+1=X.length
      ·rw[aO<|by rw[c3];exact b9 _];exact bz ⟨j,.inl ⟨_,_,rfl,xZ ab tp T c3⟩⟩
      ·rw[aM<|by simpa using c3];by_cases V:ac+1>=mg
       ·rw[aO V];exact bz ⟨j,.inr ⟨_,_,_,_,_,rfl,T,(),B,()⟩⟩
       ·rw[aM V];exact bz ⟨j,_,_,_,_,_,rfl,T,(),B,()⟩
     ·dsimp[dD];refine aY<|k9 (oz hy) ?_;have T:=ab.zT m hy<|t7 ab.sa J<|P.of_lt hl;rw[yj];by_cases c3:ib+1=Y.length
      ·rw[aO<|by rw[c3];exact b9 _];exact bz ⟨j,.inl ⟨_,_,rfl,T.fin ab λx _ y hy=>by rw[drop_nil ()]at hy;cases hy⟩⟩
      ·rw[aM<|by simpa using c3];by_cases V:bc+1>=mg
       ·rw[aO V];exact bz ⟨j,.inr ⟨_,_,_,_,_,rfl,T,G,(),()⟩⟩
       ·rw[aM V];exact bz ⟨j,_,_,_,_,_,rfl,T,G,(),()⟩
    case ipost=>
     intro c d K;revert K;revert c;refine uo5 (λj r z O=>?_) λj hs ia ib ac bc g=>?_
     ·dsimp only;exact bz ⟨j,r,_,rfl,O⟩
     ·have m:=g.1;have G:=g.2.1;have B:=g.2.2.1;have L:=g.2.2.2;clear g;dsimp only;kl_no;refine aY (eE (cL (I:=λx' c d=>Sm st d/\∃hs ia ib mg ac bc,c=(none,fa f hs,ia,ib,mg,ac,bc)/\On o f X Y (x+1+1) hs ia ib)
       (Q:=λc d=>Sm st d/\((∃r z,c=(some r,z)/\Res o f X Y r)\/∃hs ia ib mg ac bc,c=(none,fa f hs,ia,ib,mg,ac,bc)/\On o f X Y (x+1+1) hs ia ib)) ?jstep ?jfin ⟨j,_,_,_,_,_,_,rfl,m,G,B,L⟩) ?jpost)
      case jfin=>
       rintro c U ⟨p,K⟩;exact⟨p,.inr K⟩
      case jstep=>
       intro x' c U _ hx' K;revert K;revert c;refine un6 λp hs ia ib mg ac bc g=>?_;have m:=g.1;have G:=g.2.1;have B:=g.2.2.1;have L:=g.2.2.2;clear g;dsimp only;have Z:=λmg=>abu (n:=x+1+1) (mg:=mg) (ac:=ac) (bc:=bc) (E:=E) C hk ab tp p m G B L;unfold T1 T2 T3 at Z;rw[oS,oS]at Z;refine eE (Q:=G2 o f X Y (x+1+1) st) ?_ ?_
       ·by_cases c3:mg>1
        ·rw[aO c3];exact Z (mg-1)
        ·rw[aM c3];exact Z mg
       ·rintro r st4 ⟨M,O⟩
        cases r with
        | done c=>exact⟨M,O⟩
        | yield c=>exact⟨M,O⟩
      case jpost=>
       intro c U K;revert K;revert c;refine uo6 (λp r z O=>?_) λp hs ia ib mg ac bc g=>?_
       ·dsimp only;exact bz ⟨p,r,_,rfl,O⟩
       ·have m:=g.1;have G:=g.2.1;have B:=g.2.2.1;have L:=g.2.2.2;clear g;dsimp only;refine aY<|ym p λst4 M=>?_;exact bz ⟨M,_,_,_,_,rfl,m,G,B,L⟩
end
def HH(a b:Array Keyed):AX a b=(do
 rule "list.sort.merge-hi"
 let all_:=a.size+b.size
 let end1 (acc:Array Keyed) (p q:Nat):=a.extract 0 p++b.extract 0 q++acc.reverse
 let end2 (acc:Array Keyed) (p q:Nat):=b.extract 0 q++a.extract 0 p++acc.reverse
 let mut p:=a.size-1
 let mut q:=b.size
 let mut acc:Array Keyed:=#[<- elem' a p]
 if p == 0 then return end1 acc p q
 if q == 1 then return end2 acc p q
 let mut mg:=gallopOf (<- get)
 for _ in [0:all_] do
  let mut ca:=0
  let mut cb:=0
  for _ in [0:all_] do
   let some won <- lt' (<- elem' b (q-1)) (<- elem' a (p-1))|return end1 acc p q
   if won then
    p:=p-1;acc:=acc.push<|<- elem' a p;ca:=ca+1;cb:=0
    if p == 0 then return end1 acc p q
    if ca>=mg then break
   else
    q:=q-1;acc:=acc.push<|<- elem' b q;cb:=cb+1;ca:=0
    if q == 1 then return end2 acc p q
    if cb>=mg then break
  rule "list.sort.gallop"
  mg:=mg+1
  for _ in [0:all_] do
   if mg>1 then mg:=mg-1
   zg mg
   let some t <- om false (<- elem' b (q-1)) a 0 p (p-1)|return end1 acc p q
   let k:=p-t
   ca:=k
   if k>0 then
    acc:=acc++(a.extract t p).reverse;p:=t
    if p == 0 then return end1 acc p q
   q:=q-1;acc:=acc.push (<- elem' b q)
   if q == 1 then return end2 acc p q
   let some t <- om true (<- elem' a (p-1)) b 0 q (q-1)|return end1 acc p q
   let k:=q-t
   cb:=k
   if k>0 then
    acc:=acc++(b.extract t q).reverse;q:=t
    if q == 1 then return end2 acc p q
    if q == 0 then return end1 acc p q
   p:=p-1;acc:=acc.push (<- elem' a p)
   if p == 0 then return end1 acc p q
   if ca<7 && cb<7 then break
  mg:=mg+1
  zg mg
 unsupported "internal:list.sort.merge-bound"):=rfl
section
variable {o:Ord}{N:Nat}{f:Nat->Keyed}{A B ts:am}{na nb:Nat}
def Rz(l:am):(fa f l).reverse=fa f l.reverse:=by
 unfold fa;rw[List.reverse_toArray,List.map_reverse]
def Ae(l:am)(i:Nat):(fa f l).extract 0 i=fa f (l.take i):=by
 rw[yC,List.drop_zero,Nat.sub_zero]
structure Mh (o:Ord)(A B ts:am)(na nb:Nat):Prop where
 la:na<=A.length
 lb:nb<=B.length
 len:ts.length+na+nb=A.length+B.length
 so:ts.Pairwise (P o)
 mem:∀x∈ts,x∈A\/x∈B
 ua:∀y∈A.take na,∀x∈ts,P o y x
 ub:∀y∈B.take nb,∀x∈ts,P o y x
def xR{l:am}{y:Nat}(h:y∈l.take i):∃j,j<i/\l[j]?=some y:=by
 obtain⟨k,d⟩:=fq h;have:=(aJ.mp d).1;rw[bN]at this;rw[dW ()]at d;exact⟨k,(),d⟩
def take_one{l:am}{i x:Nat}(h:l[i]?=some x):l.take (i+1)=l.take i++[x]:=by
 obtain⟨h1,e1⟩:=aJ.mp h;rw[dP h1,e1]
def Mh.zo(ab:Ab o N A B)(m:Mh o A B ts (na+1) nb){x:Nat}(J:A[na]?=some x)(h:∀y∈B.take nb,P o y x):Mh o A B (x::ts) na nb:=by
 have la:=m.la;have len:=m.len;have k:=take_one J;have g:x∈A.take (na+1):=by rw[k];exact bA _ (bg.mpr rfl)
 refine⟨(),m.lb,by rw[bH];lia,bX.mpr ⟨λy hy=>m.ua x g y hy,m.so⟩,λz f=>?_,λy hy z f=>?_,λy hy z f=>?_⟩
 ·rcases bG.mp f with rfl|d
  ·exact .inl (aW J)
  ·exact m.mem z d
 ·rcases bG.mp f with rfl|d
  ·obtain⟨j,q,p⟩:=xR hy;exact vj ab.sa p J q
  ·exact m.ua y (by rw[k];exact bM _ hy) z d
 ·rcases bG.mp f with rfl|d
  ·exact h y hy
  ·exact m.ub y hy z d
def Mh.Tr(ab:Ab o N A B)(m:Mh o A B ts na<|nb+1){x:Nat}(J:B[nb]?=some x)(h:∀y∈A.take na,P o y x):Mh o A B (x::ts) na nb:=by
 have lb:=m.lb;have len:=m.len;have k:=take_one J;have g:x∈B.take (nb+1):=by rw[k];exact bA _ (bg.mpr rfl)
 refine⟨m.la,(),by rw[bH];lia,bX.mpr ⟨λy hy=>m.ub x g y hy,m.so⟩,λz f=>?_,λy hy z f=>?_,λy hy z f=>?_⟩
 ·rcases bG.mp f with rfl|d
  ·exact .inr (aW J)
  ·exact m.mem z d
 ·rcases bG.mp f with rfl|d
  ·exact h y hy
  ·exact m.ua y hy z d
 ·rcases bG.mp f with rfl|d
  ·obtain⟨j,q,p⟩:=xR hy;exact vj ab.sb p J q
  ·exact m.ub y (by rw[k];exact bM _ hy) z d
def tY{l:am}(h:l.Pairwise<|P o){i x:Nat}(U:l[i]?=some x)(J:P o x y):∀z∈l.take (i+1),P o z y:=λz f=>by
 obtain⟨j,g,d⟩:=xR f;by_cases c:j=i
 ·subst c;rw[U]at d;cases d;exact J
 ·exact(vj h d U ()).trans J
theorem Mh.BS(ab:Ab o N A B){J:Nat}(hy:B[J]?=some y):∀(k:Nat) {ts:am}{at_:Nat},Mh o A B ts (at_+k) (J+1)->(∀i x,at_<=i->i<at_+k->A[i]?=some x->P o y x)->Mh o A B ((A.drop at_).take k++ts) at_ (J+1)
 | 0,ts,at_,m,_=>by rw[gz];exact m
 | k+1,ts,at_,m,h=>by
  have la:=m.la;have d:A[at_+k]?=some (A[at_+k]'()):=aH _;have f:=Mh.zo ab (show Mh o A B ts (at_+k+1) (J+1)from m) d<|tY ab.sb hy<|h _ _ () () d;have g:=Mh.BS ab hy k f λi x h1 h2=>h i x h1 ();rw[take_snoc d,bT];exact g
theorem Mh.A9(ab:Ab o N A B){J:Nat}(hy:A[J]?=some y):∀(k:Nat) {ts:am}{at_:Nat},Mh o A B ts (J+1) (at_+k)->(∀i x,at_<=i->i<at_+k->B[i]?=some x->P o y x)->Mh o A B ((B.drop at_).take k++ts) (J+1) at_
 | 0,ts,at_,m,_=>by rw[gz];exact m
 | k+1,ts,at_,m,h=>by
  have lb:=m.lb;have d:B[at_+k]?=some (B[at_+k]'()):=aH _;have f:=Mh.Tr ab (show Mh o A B ts (J+1) (at_+k+1)from m) d<|tY ab.sa hy<|h _ _ () () d;have g:=Mh.A9 ab hy k f λi x h1 h2=>h i x h1 ();rw[take_snoc d,bT];exact g
def zE{l:am}(h:l.Pairwise<|P o)(i:Nat):(l.take i).Pairwise (P o):=h.sublist<|List.take_sublist ..
def Mh.fin(ab:Ab o N A B)(m:Mh o A B ts na nb)(h:∀x∈A.take na,∀y∈B.take nb,P o x y):Res o f A B ((fa f A).extract 0 na++(fa f B).extract 0 nb++fa f ts):=by
 rw[Ae,Ae,rK,rK];have la:=m.la;have lb:=m.lb;have len:=m.len;refine⟨_,rfl,by rw[aV,aV,bN,bN];lia,?_,λx d=>?_⟩
 ·rw[cg,cg];refine⟨⟨zE ab.sa _,zE ab.sb _,h⟩,m.so,λx d y hy=>?_⟩
  rcases bq.mp d with z|z
  ·exact m.ua x z y hy
  ·exact m.ub x z y hy
 ·rcases bq.mp d with z|z
  ·rcases bq.mp z with z|z
   ·exact .inl (cB z)
   ·exact .inr<|cB z
  ·exact m.mem x z
def Mh.Zi(ab:Ab o N A B)(m:Mh o A B ts na nb)(h:∀x∈A.take na,∀y∈B.take nb,P o y x):Res o f A B ((fa f B).extract 0 nb++(fa f A).extract 0 na++fa f ts):=by
 rw[Ae,Ae,rK,rK];have la:=m.la;have lb:=m.lb;have len:=m.len;refine⟨_,rfl,by rw[aV,aV,bN,bN];lia,?_,λx d=>?_⟩
 ·rw[cg,cg];refine⟨⟨zE ab.sb _,zE ab.sa _,λx d y hy=>h y hy x d⟩,m.so,λx d y hy=>?_⟩
  rcases bq.mp d with z|z
  ·exact m.ub x z y hy
  ·exact m.ua x z y hy
 ·rcases bq.mp d with z|z
  ·rcases bq.mp z with z|z
   ·exact .inr (cB z)
   ·exact .inl<|cB z
  ·exact m.mem x z
abbrev Bot (o:Ord)(X Y:am):Prop:=∀y,Y[0]?=some y->∀x∈X,P o y x
def vZ(ab:Ab o N A B)(J:Bot o A B)(m:Mh o A B ts na nb)(h:nb=1):Res o f A B ((fa f B).extract 0 nb++(fa f A).extract 0 na++fa f ts):=
 m.Zi ab λx g y hy=>by
  obtain⟨j,k,d⟩:=xR hy;have:j=0:=()
  subst this;exact J y d x<|cB g
def Mh.G3(ab:Ab o N A B)(m:Mh o A B ts na nb)(h:na=0\/nb=0):Res o f A B ((fa f A).extract 0 na++(fa f B).extract 0 nb++fa f ts):=
 m.fin ab λx d y hy=>by
  rcases h with rfl|rfl
  ·rw[gz]at d;cases d
  ·rw[gz]at hy;cases hy
def zP(l:am)(x:Nat):(fa f l.reverse).push (f x)=fa f (x::l).reverse:=by rw[yj,List.reverse_cons]
def Pf(l m:am):fa f l.reverse++(fa f m).reverse=fa f (m++l).reverse:=by rw[Rz,rK,List.reverse_append]
def wR(l:am):(fa f l.reverse).reverse=fa f l:=by rw[Rz,List.reverse_reverse]
end
meta abbrev H:=Option (Array Keyed)×Nat×Nat×Array Keyed×Nat×Nat×Nat
abbrev U3 (a b out:Array Keyed)(na nb mg ac bc:Nat):StateT SortSt Sem (ForInStep H):=do
 let x <- elem' a (na-1)
 if (na-1 == 0)=true then pure (ForInStep.done (some<|a.extract 0 (na-1)++b.extract 0 nb++(out.push x).reverse,na-1,nb,out.push x,mg,ac,bc))
 else if (decide (ac<7) && decide (bc<7))=true then pure (ForInStep.done (none,na-1,nb,out.push x,mg,ac,bc))
 else pure (ForInStep.yield (none,na-1,nb,out.push x,mg,ac,bc))
abbrev U2 (a b out:Array Keyed)(na nb mg ac bc:Nat):StateT SortSt Sem (ForInStep H):=do
 let x <- elem' b (nb-1)
 if (nb-1 == 1)=true then pure (ForInStep.done (some<|b.extract 0 (nb-1)++a.extract 0 na++(out.push x).reverse,na,nb-1,out.push x,mg,ac,bc))
 else
  let y <- elem' a (na-1)
  let r <- om true y b 0 (nb-1) (nb-1-1)
  match r with
  | some t=>
   if nb-1-t>0 then
    if (t == 1)=true then pure (ForInStep.done (some<|b.extract 0 t++a.extract 0 na++(out.push x++(b.extract t<|nb-1).reverse).reverse,na,t,out.push x++(b.extract t<|nb-1).reverse,mg,ac,nb-1-t))
    else if (t == 0)=true then pure (ForInStep.done (some<|a.extract 0 na++b.extract 0 t++(out.push x++(b.extract t<|nb-1).reverse).reverse,na,t,out.push x++(b.extract t<|nb-1).reverse,mg,ac,nb-1-t))
    else U3 a b (out.push x++(b.extract t<|nb-1).reverse) na t mg ac (nb-1-t)
   else U3 a b (out.push x) na (nb-1) mg ac (nb-1-t)
  | _=>pure<|ForInStep.done (some<|a.extract 0 na++b.extract 0 (nb-1)++(out.push x).reverse,na,nb-1,out.push x,mg,ac,bc)
abbrev U1 (a b out:Array Keyed)(na nb mg ac bc:Nat):StateT SortSt Sem (ForInStep H):=do
 zg mg
 let x <- elem' b (nb-1)
 let r <- om false x a 0 na (na-1)
 match r with
 | some t=>
  if na-t>0 then
   if (t == 0)=true then pure (ForInStep.done (some<|a.extract 0 t++b.extract 0 nb++(out++(a.extract t na).reverse).reverse,t,nb,out++(a.extract t na).reverse,mg,na-t,bc))
   else U2 a b (out++(a.extract t na).reverse) t nb mg (na-t) bc
  else U2 a b out na nb mg (na-t) bc
 | _=>pure<|ForInStep.done (some<|a.extract 0 na++b.extract 0 nb++out.reverse,na,nb,out,mg,ac,bc)
section
variable {prog:aj}{w:ah}{A:aA}{E:af->aC->Prop}{s:aC}{o:Ord}{N:Nat}{f:Nat->Keyed}{kd:SortKind}{st st0:SortSt}{X Y ts:am}{na nb:Nat}
abbrev Oh (o:Ord)(X Y:am)(n:Nat)(ts:am)(na nb:Nat):Prop:=Mh o X Y ts na nb/\1<=na/\2<=nb/\na+nb+n<=X.length+Y.length
abbrev H2 (o:Ord)(f:Nat->Keyed)(X Y:am)(n:Nat)(st0:SortSt):ForInStep H->SortSt->Prop:=λr d=>Sm st0 d/\match r with
 | .done c=>(∃r z,c=(some r,z)/\Res o f X Y r)\/∃ts na nb mg j g,c=(none,na,nb,fa f ts.reverse,mg,j,g)/\Oh o X Y n ts na nb
 | .yield c=>∃ts na nb mg j g,c=(none,na,nb,fa f ts.reverse,mg,j,g)/\Oh o X Y n ts na nb
def Xv(ab:Ab o N X Y)(J:Sm st0 st){n mg x:Nat}(m:Mh o X Y ts (na+1)<|nb+1)(hb:1<=nb)(hn:na+1+(nb+1)+n<=X.length+Y.length)(Z:X[na]?=some x)(hy:Y[nb]?=some y)(U:P o y x) :
  wpS (model prog w) A E s (U3 (fa f X) (fa f Y) (fa f ts.reverse) (na+1) (nb+1) mg ac bc) (H2 o f X Y n st0) st:=by
 unfold U3;rw[show na+1-1=na by lia];refine aY<|k9 (oz Z) ?_;have m2:=m.zo ab Z<|tY ab.sb hy U;rw[zP,wR];by_cases c:na=0
 ·rw[aO<|by rw[c];rfl];exact bz ⟨J,.inl ⟨_,_,rfl,m2.G3 ab<|.inl c⟩⟩
 ·rw[aM<|by simpa using c];by_cases c2:(decide (ac<7) && decide (bc<7))=true
  ·rw[aO c2];exact bz ⟨J,.inr ⟨_,_,_,_,_,_,rfl,m2,(),(),()⟩⟩
  ·rw[aM c2];exact bz ⟨J,⟨_,_,_,_,_,_,rfl,m2,(),(),()⟩⟩
def WQ(C:B8 prog w A s o N f kd)(hk:kindOf st=kd)(ab:Ab o N X Y)(bt:Bot o X Y)(U:Sm st0 st){n mg x:Nat}(m:Mh o X Y ts (na+1)<|nb+1)(hb:1<=nb)(hn:na+1+(nb+1)+n<=X.length+Y.length)(J:X[na]?=some x)(hy:Y[nb]?=some y)(Z:P o x y) :
  wpS (model prog w) A E s (U2 (fa f X) (fa f Y) (fa f ts.reverse) (na+1) (nb+1) mg ac bc) (H2 o f X Y n st0) st:=by
 unfold U2;rw[show nb+1-1=nb by lia,show na+1-1=na by lia];refine aY<|k9 (oz hy) ?_;have g:=m.Tr ab hy<|tY ab.sa J Z;have lb:=m.lb;rw[zP,wR];by_cases c:nb=1
 ·rw[aO<|by rw[c];rfl];exact bz ⟨U,.inl ⟨_,_,rfl,vZ ab bt g c⟩⟩
 ·rw[aM<|by simpa using c];refine aY<|k9 (oz J) ?_;refine aY (QN C hk (h:=λi=>Y.getD (0+i) 0) (λi hi=>oz<|getD_at ()) (λi hi=>?_) (Jr ab.sb _ _ ()) () λt B t2 q=>?_)
  ·have:=aW<|getD_at (l:=Y) (i:=0+i) ();exact⟨ab.lt x (aW J) _ this,ab.nb _ this⟩
  ·dsimp only;have m3:=Mh.A9 ab J (nb-t) (at_:=t) (by rw[show t+(nb-t)=nb by lia];exact g) λi z d p k=>by
    have:=q i d ();rw[cG,aI (l:=Y),k]at this;exact this
   by_cases c2:nb-t>0
   ·rw[aO c2,yC Y t nb,Pf,wR];by_cases c3:t=1
    ·rw[aO<|by rw[c3];rfl];exact bz ⟨U,.inl ⟨_,_,rfl,vZ ab bt m3 c3⟩⟩
    ·rw[aM<|by simpa using c3];by_cases j:t=0
     ·rw[aO<|by rw[j];rfl];exact bz ⟨U,.inl ⟨_,_,rfl,m3.G3 ab<|.inr j⟩⟩
     ·rw[aM<|by simpa using j];obtain⟨u,rfl⟩:∃u,t=u+1:=⟨t-1,()⟩;have:=t2 u ();rw[cG]at this;exact Xv ab U m3 () () J (getD_at ()) this
   ·rw[aM c2];have:t=nb:=()
    subst this;obtain⟨u,rfl⟩:∃u,t=u+1:=⟨t-1,()⟩;have:=t2 u ();rw[cG]at this;exact Xv ab U g () () J (getD_at ()) this
def acz(C:B8 prog w A s o N f kd)(U:kindOf st0=kd)(ab:Ab o N X Y)(Z:Bot o X Y)(hm:Sm st0 st){n mg:Nat}(m:Mh o X Y ts (na+1)<|nb+1)(hb:1<=nb)(hn:na+1+(nb+1)+n<=X.length+Y.length) :
  wpS (model prog w) A E s (U1 (fa f X) (fa f Y) (fa f ts.reverse) (na+1) (nb+1) mg ac bc) (H2 o f X Y n st0) st:=by
 unfold U1;refine aY<|ym hm λB d=>?_;have lb:=m.lb;have la:=m.la;rw[show nb+1-1=nb by lia,show na+1-1=na by lia];have hy:=getD_at (l:=Y) (i:=nb) ();have p:=aW hy;refine aY<|k9 (oz hy) ?_;refine aY (PR C (by rw[d.k];exact U) (h:=λi=>X.getD (0+i) 0) (λi hi=>oz<|getD_at ()) (λi hi=>ab.lt _ (aW<|getD_at (l:=X) (i:=0+i) ()) _ p) (ab.nb _ p) (Jr ab.sa _ _ ()) () λt K t2 J=>?_);dsimp only;have m3:=Mh.BS ab hy (na+1-t) (at_:=t) (by rw[show t+(na+1-t)=na+1 by lia];exact m) λi z g G q=>by
  have:=J i g ();rw[cG,aI (l:=X),q]at this;exact this
 by_cases c2:na+1-t>0
 ·rw[aO c2,yC X t<|na+1,Pf,wR];by_cases j:t=0
  ·rw[aO<|by rw[j];rfl];exact bz ⟨d,.inl ⟨_,_,rfl,m3.G3 ab<|.inl j⟩⟩
  ·rw[aM<|by simpa using j];obtain⟨u,rfl⟩:∃u,t=u+1:=⟨t-1,()⟩;have:=t2 u ();rw[cG]at this;exact WQ C (by rw[d.k];exact U) ab Z d m3 hb () (getD_at ()) hy this
 ·rw[aM c2];have:t=na+1:=()
  subst this;have:=t2 na ();rw[cG]at this;exact WQ C (by rw[d.k];exact U) ab Z d m hb hn (getD_at ()) hy this
def abe(C:B8 prog w A s o N f kd)(hk:kindOf st=kd)(ab:Ab o N X Y)(tp:Top o X Y)(bt:Bot o X Y)(h1:1<=X.length)(h2:1<=Y.length)
  {Q:Array Keyed->SortSt->Prop} (q:∀out st',Sm st st'->Res o f X Y out->Q out st'):wpS (model prog w) A E s (AX (fa f X)<|fa f Y) Q st:=by
 rw[HH];kl_no;dsimp only;rw[oS,oS];have T:=getD_at (l:=X) (i:=X.length-1) ();refine aY<|k9 (oz T) ?_;have m0:Mh o X Y [] (X.length-1+1) Y.length:=⟨(),aP _,by rw[cP];lia,List.Pairwise.nil,(nofun),(λ_ _ _ h=>nomatch h),(λ_ _ _ h=>nomatch h)⟩;have m1:=m0.zo ab T λy hy=>tp _ _ T () y<|cB hy;obtain⟨Z,ex0⟩:∃Z,Z=X.getD (X.length-1) 0:=⟨_,rfl⟩;rw[<- ex0]at m1 ⊢;have e1:(#[f Z]:Array Keyed)=fa f [Z].reverse:=rfl;rw[e1,wR];by_cases c:X.length-1=0
 ·rw[aO<|by rw[c];rfl];exact bz (q _ _ Sm.refl<|m1.G3 ab<|.inl c)
 ·rw[aM<|by simpa using c];by_cases c2:Y.length=1
  ·rw[aO<|by rw[c2];rfl];exact bz (q _ _ Sm.refl<|vZ ab bt m1 c2)
  ·rw[aM<|by simpa using c2];refine aY<|iH ?_;refine aY (eE (cL (I:=λx c st'=>Sm st st'/\∃ts na nb mg,c=(none,na,nb,fa f ts.reverse,mg)/\Oh o X Y (x+1) ts na nb)
    (Q:=λc st'=>Sm st st'/\∃r z,c=(some r,z)/\Res o f X Y r) ?step ?fin ⟨Sm.refl,_,_,_,_,rfl,m1,(),(),()⟩) ?post)
   case post=>
    rintro c st' ⟨W,r,z,rfl,O⟩;exact bz<|q _ _ W O
   case fin=>
    rintro c st' ⟨W,ts,na,nb,mg,rfl,m,B,G,L⟩;exfalso
    lia
   case step=>
    intro x c st' _ hx K;revert K;revert c;refine un4 λW ts na nb mg g=>?_;have m:=g.1;have B:=g.2.1;have G:=g.2.2.1;have L:=g.2.2.2;clear g;dsimp only;refine aY (eE (cL (I:=λx' c d=>Sm st d/\∃ts na nb ac bc,c=(none,na,nb,fa f ts.reverse,ac,bc)/\Oh o X Y (x+1+min x' 1) ts na nb)
     (Q:=λc d=>Sm st d/\((∃r z,c=(some r,z)/\Res o f X Y r)\/∃ts na nb ac bc,c=(none,na,nb,fa f ts.reverse,ac,bc)/\Oh o X Y (x+1+1) ts na nb)) ?istep ?ifin ⟨W,_,_,_,_,_,rfl,m,B,G,L⟩) ?ipost)
    case ifin=>
     rintro c d ⟨j,ts,na,nb,ac,bc,rfl,m,B,G,L⟩;exact⟨j,.inr ⟨_,_,_,_,_,rfl,m,B,G,()⟩⟩
    case istep=>
     intro x' c d _ hx' K;revert K;revert c;refine un5 λj ts na nb ac bc g=>?_;have m:=g.1;have B:=g.2.1;have G:=g.2.2.1;have L:=g.2.2.2;clear g;dsimp only;obtain⟨u,rfl⟩:∃u,na=u+1:=⟨na-1,()⟩;obtain⟨v,rfl⟩:∃v,nb=v+1:=⟨nb-1,()⟩;have la:=m.la;have lb:=m.lb;rw[show u+1-1=u by lia,show v+1-1=v by lia];have hy:=getD_at (l:=Y) (i:=v) ();have J:=getD_at (l:=X) (i:=u) ();have yB:=aW hy;have xA:=aW J;have lt:=ab.lt _ xA _ yB;refine aY<|k9 (oz hy) ?_;refine aY<|k9 (oz J) ?_;refine aY (Ar C (by rw[j.k];exact hk) (ab.nb _ yB) (ab.na _ xA) ?_)
     cases hl:o.lt (Y.getD v 0) (X.getD u 0)
     ·dsimp[bK,cQ];refine aY<|k9 (oz hy) ?_;have m2:=m.Tr ab hy<|tY ab.sa J<|P.zf hl lt;rw[zP,wR];by_cases c3:v=1
      ·rw[aO<|by rw[c3];rfl];exact bz ⟨j,.inl ⟨_,_,rfl,vZ ab bt m2 c3⟩⟩
      ·rw[aM<|by simpa using c3];by_cases V:bc+1>=mg
       ·rw[aO V];exact bz ⟨j,.inr ⟨_,_,_,_,_,rfl,m2,B,(),()⟩⟩
       ·rw[aM V];exact bz ⟨j,_,_,_,_,_,rfl,m2,B,(),()⟩
     ·dsimp[dD];refine aY<|k9 (oz J) ?_;have m2:=m.zo ab J<|tY ab.sb hy<|P.of_lt hl;rw[zP,wR];by_cases c3:u=0
      ·rw[aO<|by rw[c3];rfl];exact bz ⟨j,.inl ⟨_,_,rfl,m2.G3 ab<|.inl c3⟩⟩
      ·rw[aM<|by simpa using c3];by_cases V:ac+1>=mg
       ·rw[aO V];exact bz ⟨j,.inr ⟨_,_,_,_,_,rfl,m2,(),G,()⟩⟩
       ·rw[aM V];exact bz ⟨j,_,_,_,_,_,rfl,m2,(),G,()⟩
    case ipost=>
     intro c d K;revert K;revert c;refine uo5 (λj r z O=>?_) λj ts na nb ac bc g=>?_
     ·dsimp only;exact bz ⟨j,r,_,rfl,O⟩
     ·have m:=g.1;have B:=g.2.1;have G:=g.2.2.1;have L:=g.2.2.2;clear g;dsimp only;kl_no;refine aY (eE (cL (I:=λx' c d=>Sm st d/\∃ts na nb mg ac bc,c=(none,na,nb,fa f ts.reverse,mg,ac,bc)/\Oh o X Y (x+1+1) ts na nb)
       (Q:=λc d=>Sm st d/\((∃r z,c=(some r,z)/\Res o f X Y r)\/∃ts na nb mg ac bc,c=(none,na,nb,fa f ts.reverse,mg,ac,bc)/\Oh o X Y (x+1+1) ts na nb)) ?jstep ?jfin ⟨j,_,_,_,_,_,_,rfl,m,B,G,L⟩) ?jpost)
      case jfin=>
       rintro c U ⟨p,K⟩;exact⟨p,.inr K⟩
      case jstep=>
       intro x' c U _ hx' K;revert K;revert c;refine un6 λp ts na nb mg ac bc g=>?_;have m:=g.1;have B:=g.2.1;have G:=g.2.2.1;have L:=g.2.2.2;clear g;dsimp only;obtain⟨u,rfl⟩:∃u,na=u+1:=⟨na-1,()⟩;obtain⟨v,rfl⟩:∃v,nb=v+1:=⟨nb-1,()⟩;have t1:=λmg=>acz (n:=x+1+1) (mg:=mg) (ac:=ac) (bc:=bc) (E:=E) C hk ab bt p m () L;unfold U1 U2 U3 at t1;refine eE (Q:=H2 o f X Y (x+1+1) st) ?_ ?_
       ·by_cases c3:mg>1
        ·rw[aO c3];exact t1 (mg-1)
        ·rw[aM c3];exact t1 mg
       ·rintro r st4 ⟨M,O⟩
        cases r with
        | done c=>exact⟨M,O⟩
        | yield c=>exact⟨M,O⟩
      case jpost=>
       intro c U K;revert K;revert c;refine uo6 (λp r z O=>?_) λp ts na nb mg ac bc g=>?_
       ·dsimp only;exact bz ⟨p,r,_,rfl,O⟩
       ·have m:=g.1;have B:=g.2.1;have G:=g.2.2.1;have L:=g.2.2.2;clear g;dsimp only;refine aY<|ym p λst4 M=>?_;exact bz ⟨M,_,_,_,_,rfl,m,B,G,L⟩
end
def IT(i:Nat):mergeAt' i=(do
 let s <- get
 let(some (a1,n1,pw),some (a2,n2,_)):=((pendingOf s)[i]?,(pendingOf s)[i+1]?)|unsupported "internal:list.sort.pending"
 set (setPending s<|((pendingOf s).setIfInBounds i (a1,n1+n2,pw)).eraseIdxIfInBounds<|i+1)
 let some k <- om false (<- elem' (arrOf s) a2) (arrOf s) a1 n1 0|return false
 let(a1,n1):=(a1+k,n1-k)
 if n1 == 0 then return true
 let some n2 <- om true (<- elem' (arrOf s) (a1+n1-1)) (arrOf s) a2 n2 (n2-1)|return false
 if n2 == 0 then return true
 let x:=(arrOf s).extract a1 a2
 let y:=(arrOf s).extract a2 (a2+n2)
 let both <- if n1<=n2 then Bf x y else AX x y
 modify λs=>setArr s (both.toList.zipIdx.foldl (λa (p,j)=>a.setIfInBounds (a1+j) p)<|arrOf s)
 return (failedOf<|<- get).isNone):=rfl
abbrev seg (g:Nat->Nat)(a n:Nat):am:=(List.range n).map λi=>g<|a+i
section
variable {o:Ord}{N:Nat}{f:Nat->Keyed}{g:Nat->Nat}
def qf(g:Nat->Nat)(a n:Nat):(seg g a n).length=n:=by unfold seg;rw[aK,cF]
def ud{a n i:Nat}(h:i<n):(seg g a n)[i]?=some (g<|a+i):=by unfold seg;rw[aQ,cK h];rfl
def rY{a n x:Nat}(h:x∈seg g a n):∃i,i<n/\x=g (a+i):=by
 obtain⟨i,hi,rfl⟩:=bC.mp h;exact⟨i,cE.mp hi,rfl⟩
def QZ{a n:Nat}(h:So o g a<|a+n):(seg g a n).Pairwise (P o):=by
 rw[dc];intro i j hi d f;rw[qf]at hi d;have e1:=ud (g:=g) (a:=a) hi;have e2:=ud (g:=g) (a:=a) d;rw[aH<|by rw[qf];exact hi]at e1;rw[aH<|by rw[qf];exact d]at e2;rw[bB e1,bB e2];exact h _ _ () () ()
def Ll{arr:Array Keyed}(hs:arr.size=N)(hg:∀i,i<N->arr[i]?=some (f<|g i)){a n:Nat}(h:a+n<=N):arr.extract a (a+n)=fa f (seg g a n):=by
 apply Array.ext_getElem?;intro i;rw[Qh,Array.getElem?_extract];by_cases c:i<n
 ·rw[aO (),ud c,hg _ ()];rfl
 ·rw[aM (),cj<|by rw[qf];lia];rfl
theorem C7{α:Type}(b:Nat):∀(l:List α) (n:Nat) (arr:Array α),((l.zipIdx n).foldl (λa (p,j)=>a.setIfInBounds (b+j) p) arr).size=arr.size
 | [],_,_=>rfl
 | x::l,n,arr=>by
  rw[jG,e_,C7 b l<|n+1];exact Array.size_setIfInBounds ..
theorem F_{α:Type}(b:Nat):∀(l:List α) (n:Nat) (arr:Array α) (k:Nat),b+n+l.length<=arr.size->((l.zipIdx n).foldl (λa (p,j)=>a.setIfInBounds (b+j) p) arr)[k]?=if b+n<=k/\k<b+n+l.length then l[k-(b+n)]? else arr[k]?
 | [],n,arr,k,h=>by rw[aM<|by rw[cP];lia];rfl
 | x::l,n,arr,k,h=>by
  rw[bH]at h;rw[jG,e_,F_ b l (n+1) _ k<|by rw[Array.size_setIfInBounds];lia,bH];by_cases c:k=b+n
  ·subst c;rw[aM (),aO (),gG];show(arr.setIfInBounds (b+n) x)[b+n]?=some x;rw[Array.getElem?_setIfInBounds_self_of_lt ()]
  ·by_cases c2:b+n<=k/\k<b+n+(l.length+1)
   ·rw[aO (),aO c2,show k-(b+n)=k-(b+(n+1))+1 by lia,List.getElem?_cons_succ]
   ·rw[aM (),aM c2]
    skip
    rw[iO ()]
end
section
variable {prog:aj}{w:ah}{A:aA}{E:af->aC->Prop}{s:aC}{o:Ord}{N:Nat}{f:Nat->Keyed}{kd:SortKind}{g:Nat->Nat}{st:SortSt}
def Vt{Q:PUnit->SortSt->Prop}(h:Q ⟨⟩ st'):wpS (model prog w) A E s (set st':StateT SortSt Sem PUnit) Q st:=by
 unfold wpS;rw[StateT.run_set];exact aL ⟨rfl,h⟩
def ab9(C:B8 prog w A s o N f kd){l1:List<|Nat×Nat×Nat}{sa na nb pw pv:Nat}(h:Sg N f kd g (l1++(sa,na,pw)::(sa+na,nb,pv)::l2).toArray st)(ha:1<=na)(hb:1<=nb)(hN:sa+na+nb<=N)
  (c1:Cl g sa<|sa+na) (s1:So o g sa<|sa+na) (c2:Cl g (sa+na)<|sa+na+nb) (s2:So o g (sa+na)<|sa+na+nb)
  {Q:Bool->SortSt->Prop} (q:∀g' st',Sg N f kd g' (l1++(sa,na+nb,pw)::l2).toArray st'->Rn o g g' sa (sa+na+nb)->Q true st'):wpS (model prog w) A E s (mergeAt' l1.length) Q st:=by
 rw[IT];refine aY<|iH ?_;have e1:(pendingOf st)[l1.length]?=some (sa,na,pw):=by rw[h.pend];simp
 have e2:(pendingOf st)[l1.length+1]?=some (sa+na,nb,pv):=by rw[h.pend];simp
 have e3:((pendingOf st).setIfInBounds l1.length (sa,na+nb,pw)).eraseIdxIfInBounds (l1.length+1)=(l1++(sa,na+nb,pw)::l2).toArray:=by
  rw[h.pend,List.setIfInBounds_toArray,fN];congr 1;rw[dz _ _<|aP _,gG,List.eraseIdx_append_of_length_le (),show l1.length+1-l1.length=1 by lia];rfl
 rw[e1,e2];dsimp only;rw[e3];refine aY<|Vt ?_;have h':Sg N f kd g (l1++(sa,na+nb,pw)::l2).toArray (setPending st (l1++(sa,na+nb,pw)::l2).toArray):=⟨h.size,h.get,h.lt,h.kind,h.failed,rfl⟩;obtain⟨J,Y⟩:∃J,J=setPending st (l1++(sa,na+nb,pw)::l2).toArray:=⟨_,rfl⟩;rw[<- Y]at h' ⊢;refine aY<|k9 (h.get (sa+na) ()) ?_;have b0:=c2 (sa+na) () ();refine aY (PR C h'.kind (h:=λi=>g<|sa+i) (λi hi=>h.get _ ()) (λi hi=>by have:=c1 (sa+i) () ();lia) () (λi j _ a b=>s1 _ _ () () ()) () λk k1 k2 k3=>?_);dsimp only;by_cases cz:na-k=0
 ·rw[aO<|by rw[cz];rfl];refine bz (q g J h' ⟨λ_ _=>rfl,λi a b=>?_,λi j a b c=>?_⟩)
  ·by_cases d:i<sa+na
   ·have:=c1 i a d;lia
   ·have:=c2 i () b;lia
  ·by_cases d:j<sa+na
   ·exact s1 i j a b d
   ·by_cases M:sa+na<=i
    ·exact s2 i j M b c
    ·have r:=k2 (i-sa) ();rw[show sa+(i-sa)=i by lia]at r;by_cases T:j=sa+na
     ·subst T;exact r
     ·exact r.trans<|s2 _ _ () () c
 ·rw[aM<|by simpa using cz];have U:sa+k+(na-k)-1=sa+na-1:=()
  rw[U];refine aY<|k9 (h.get (sa+na-1) ()) ?_;have a0:=c1 (sa+na-1) () ();refine aY (QN C h'.kind (h:=λi=>g<|sa+na+i) (λi hi=>h.get _ ()) (λi hi=>by have:=c2 (sa+na+i) () ();lia) (λi j _ a b=>s2 _ _ () () ()) () λt t1 t2 t3=>?_);dsimp only;by_cases cy:t=0
  ·rw[aO<|by rw[cy];rfl];subst cy;refine bz (q g J h' ⟨λ_ _=>rfl,λi a b=>?_,λi j a b c=>?_⟩)
   ·by_cases d:i<sa+na
    ·have:=c1 i a d;lia
    ·have:=c2 i () b;lia
   ·by_cases d:j<sa+na
    ·exact s1 i j a b d
    ·by_cases M:sa+na<=i
     ·exact s2 i j M b c
     ·have r:=t3 (j-(sa+na)) () ();rw[show sa+na+(j-(sa+na))=j by lia]at r;by_cases T:i=sa+na-1
      ·subst T;exact r
      ·exact(s1 i (sa+na-1) a () ()).trans r
  ·rw[aM<|by simpa using cy];have x1:(arrOf st).extract (sa+k) (sa+na)=fa f (seg g (sa+k)<|na-k):=by
    have:=Ll (f:=f) (g:=g) h.size h.get (a:=sa+k) (n:=na-k) ()
    rwa [show sa+k+(na-k)=sa+na by lia]at this
   have x2:(arrOf st).extract (sa+na) (sa+na+t)=fa f (seg g (sa+na) t):=Ll h.size h.get ();rw[x1,x2];have sx:So o g (sa+k) (sa+k+(na-k)):=λi j a b c=>s1 i j () b ();have sy:So o g (sa+na) (sa+na+t):=λi j a b c=>s2 i j a b ();have ab:Ab o N (seg g (sa+k)<|na-k) (seg g (sa+na) t):={
    sa:=QZ sx
    sb:=QZ sy
    lt:=λx V y hy=>by
     obtain⟨i,hi,rfl⟩:=rY V;obtain⟨j,O,rfl⟩:=rY hy;have:=c1 (sa+k+i) () ();have:=c2 (sa+na+j) () ()
     lia
    nb:=λy hy=>by
     obtain⟨j,O,rfl⟩:=rY hy;exact h.lt _ ()
    na:=λy hy=>by
     obtain⟨j,O,rfl⟩:=rY hy;exact h.lt _ ()}
   have tp:Top o (seg g (sa+k)<|na-k) (seg g (sa+na) t):=λi x V hi y hy=>by
    rw[qf]at hi;rw[ud ()]at V
    cases V
    obtain⟨j,O,rfl⟩:=rY hy;rw[show sa+k+i=sa+na-1 by lia];exact t2 j O
   have bt:Bot o (seg g (sa+k)<|na-k) (seg g (sa+na) t):=λy hy x V=>by
    rw[ud ()]at hy
    cases hy
    obtain⟨i,hi,rfl⟩:=rY V;have:=k3 (k+i) () ()
    rwa [<- iZ]at this
   have fin:∀out B,Sm J B->Res o f (seg g (sa+k)<|na-k) (seg g (sa+na) t) out->wpS (model prog w) A E s (do
     modify λs=>setArr s (out.toList.zipIdx.foldl (λa (p,j)=>a.setIfInBounds (sa+k+j) p)<|arrOf s)
     let s <- get
     pure (failedOf s).isNone) Q B:=by
    rintro out B P ⟨hs,rfl,G,hso,W⟩;rw[qf,qf]at G;refine aY<|gc<|aY<|iH ?_;have hf:(failedOf B)=none:=by rw[P.f];exact h'.failed
    have L:∀j x,hs[j]?=some x->(∃i,i<na-k/\x=g (sa+k+i))\/∃i,i<t/\x=g (sa+na+i):=λj x e=>by
     rcases W x (aW e)with z|z
     ·exact .inl (rY z)
     ·exact .inr<|rY z
    have ez:(fa f hs).toList=hs.map f:=by unfold fa;rfl
    have Z:sa+k+0+(hs.map f).length<=(arrOf B).size:=by rw[aK,G,P.a,h'.size];lia
    refine bz ?_
    skip
    rw[hf];refine q (λi=>if sa+k<=i/\i<sa+k+(na-k+t)then hs.getD (i-(sa+k)) 0 else g i) _ ⟨?_,λi hi=>?_,λi hi=>?_,by rw[show kindOf (setArr B _)=kindOf B from rfl,P.k];exact h'.kind,hf,by rw[show pendingOf (setArr B _)=pendingOf B from rfl,P.p];exact h'.pend⟩ ?_
    ·have:=C7 (sa+k) (fa f hs).toList 0<|arrOf B;rw[P.a,h'.size]at this;rw[<- this,<- P.a]
    ·skip
     rw[ez,F_ _ _ _ _ _ Z,aK,G,P.a];by_cases d:sa+k<=i/\i<sa+k+(na-k+t)
     ·rw[aO (),aO d,aQ,Nat.add_zero,getD_at (l:=hs) ()];rfl
     ·rw[aM (),aM d];exact h'.get i hi
    ·by_cases d:sa+k<=i/\i<sa+k+(na-k+t)
     ·rw[aO d]
      rcases L _ _ (getD_at (l:=hs) (i:=i-(sa+k)) ())with⟨j,O,e⟩|⟨j,O,e⟩
      ·rw[e];exact h.lt _ ()
      ·rw[e];exact h.lt _ ()
     ·rw[aM d];exact h.lt i hi
    ·have K:∀i,sa+k<=i->i<sa+na+t->(if sa+k<=i/\i<sa+k+(na-k+t)then hs.getD (i-(sa+k)) 0 else g i)=hs.getD (i-(sa+k)) 0:=λi a b=>aO ();have m:∀i,i<sa+k\/sa+na+t<=i->(if sa+k<=i/\i<sa+k+(na-k+t)then hs.getD (i-(sa+k)) 0 else g i)=g i:=λi a=>aM ();refine⟨λi hi=>m i (),λi a b=>?_,λi j a b c=>?_⟩
     ·by_cases d:sa+k<=i/\i<sa+na+t
      ·skip
       rw[K i d.1 d.2]
       rcases L _ _ (getD_at (l:=hs) (i:=i-(sa+k)) ())with⟨j,O,e⟩|⟨j,O,e⟩
       ·rw[e];have:=c1 (sa+k+j) () ();lia
       ·rw[e];have:=c2 (sa+na+j) () ();lia
      ·skip
       rw[m i ()];by_cases M:i<sa+na
       ·have:=c1 i a M;lia
       ·have:=c2 i () b;lia
     ·skip
      by_cases d1:i<sa+k
      ·rw[m i<|.inl d1];have r:=k2 (i-sa) ();rw[show sa+(i-sa)=i by lia]at r;by_cases M:j<sa+k
       ·rw[m j<|.inl M];exact s1 i j a b ()
       ·by_cases T:j<sa+na+t
        ·rw[K j () T]
         rcases L _ _ (getD_at (l:=hs) (i:=j-(sa+k)) ())with⟨v,hv,e⟩|⟨v,hv,e⟩
         ·rw[e];exact s1 _ _ a () ()
         ·rw[e];by_cases d4:v=0
          ·subst d4;exact r
          ·exact r.trans<|s2 _ _ () () ()
        ·rw[m j ()];exact r.trans<|s2 _ _ () () c
      ·by_cases M:i<sa+na+t
       ·rw[K i () M];by_cases T:j<sa+na+t
        ·rw[K j () T];exact vj hso (getD_at ()) (getD_at ()) ()
        ·rw[m j ()]
         rcases L _ _ (getD_at (l:=hs) (i:=i-(sa+k)) ())with⟨v,hv,e⟩|⟨v,hv,e⟩
         ·rw[e];have r:=t3 (j-(sa+na)) () ();rw[show sa+na+(j-(sa+na))=j by lia]at r;by_cases d4:sa+k+v=sa+na-1
          ·rw[d4];exact r
          ·exact(s1 _ (sa+na-1) () () ()).trans r
         ·rw[e];exact s2 _ _ () () c
       ·rw[m i (),m j ()];exact s2 i j () b c
   by_cases cl:na-k<=t
   ·rw[aO cl];exact aY (ab7 C h'.kind ab tp (by rw[qf];lia) (ud ()) (bt _<|ud ()) fin)
   ·rw[aM cl];exact aY<|abe C h'.kind ab tp bt (by rw[qf];lia) (by rw[qf];lia) fin
end
meta abbrev pr (x:Nat×Nat×Nat):Nat×Nat:=(x.1,x.2.1)
abbrev um (o:Ord)(g:Nat->Nat):List (Nat×Nat)->Nat->Nat->Prop
 | [],a,b=>a=b
 | x::l,a,b=>x.1=a/\1<=x.2/\Cl g a (a+x.2)/\So o g a (a+x.2)/\um o g l (a+x.2) b
abbrev PA (o:Ord)(g:Nat->Nat)(p:Array<|Nat×Nat×Nat)(b:Nat):Prop:=um o g (p.toList.map pr) 0 b
section
variable {o:Ord}{g:Nat->Nat}
def um.le:∀{l:List<|Nat×Nat}{a b:Nat},um o g l a b->a+l.length<=b
 | [],a,b,h=>by have h:a=b:=h;rw[cP];lia
 | x::l,a,b,h=>by
  have:=h.2.2.2.2.le;have:=h.2.1;rw[bH];lia
def um.congr{g':Nat->Nat}:∀{l:List<|Nat×Nat}{a b:Nat},um o g l a b->(∀i,a<=i->i<b->g' i=g i)->um o g' l a b
 | [],a,b,h,_=>h
 | x::l,a,b,h,e=>by
  have hb:=h.2.2.2.2.le;refine⟨h.1,h.2.1,λi h1 h2=>?_,λi j h1 h2 h3=>?_,h.2.2.2.2.congr λi h1 h2=>e i () h2⟩
  ·rw[e i h1 ()];exact h.2.2.1 i h1 h2
  ·rw[e i h1 (),e j () ()];exact h.2.2.2.1 i j h1 h2 h3
theorem um.app:∀{l m:List<|Nat×Nat}{a b:Nat},um o g (l++m) a b ↔ ∃c,um o g l a c/\um o g m c b
 | [],m,a,b=>⟨λh=>⟨a,rfl,h⟩,λ⟨c,h1,h2⟩=>by have h1:a=c:=h1;subst h1;exact h2⟩
 | x::l,m,a,b=>by
  constructor
  ·rintro⟨h1,h2,h3,d,f⟩;obtain⟨c,h6,j⟩:=um.app.mp f;exact⟨c,⟨h1,h2,h3,d,h6⟩,j⟩
  ·rintro⟨c,⟨h1,h2,h3,d,f⟩,h6⟩;exact⟨h1,h2,h3,d,um.app.mpr ⟨c,f,h6⟩⟩
def Zk{p:Array<|Nat×Nat×Nat}(h:i+1<p.size):∃l1 x y l2,p=(l1++x::y::l2).toArray/\l1.length=i:=by
 have h':i+1<p.toList.length:=h;refine⟨p.toList.take i,p.toList[i],p.toList[i+1],p.toList.drop<|i+2,?_,by rw[bN];lia⟩;apply Array.toList_inj.mp
 skip
 conv=>lhs;rw[<- cY i p.toList,bU<|show i<p.toList.length by lia,bU h']
end
section
variable {prog:aj}{w:ah}{A:aA}{E:af->aC->Prop}{s:aC}{o:Ord}{N:Nat}{f:Nat->Keyed}{kd:SortKind}{g:Nat->Nat}{p:Array (Nat×Nat×Nat)}{st:SortSt}
def HM(C:B8 prog w A s o N f kd)(h:Sg N f kd g p st){lo:Nat}(hp:PA o g p lo)(Z:lo<=N)(hi:i+1<p.size)
  {Q:Bool->SortSt->Prop} (q:∀g' p' st',Sg N f kd g' p' st'->PA o g' p' lo->p'.size+1=p.size->(∀k,lo<=k->g' k=g k)->Q true st'):wpS (model prog w) A E s (mergeAt' i) Q st:=by
 obtain⟨G,⟨d,na,B⟩,⟨M,nb,pv⟩,m,rfl,rfl⟩:=Zk hi;unfold PA at hp;rw[show(G++(d,na,B)::(M,nb,pv)::m).toArray.toList=G++(d,na,B)::(M,nb,pv)::m from rfl,bS]at hp;obtain⟨c,h1,h2⟩:=um.app.mp hp;obtain⟨e1,T,O,P,e2,K,J,L,rest⟩:=h2;have e1:d=c:=e1;subst e1;have e2:M=d+na:=e2;subst e2;have j:=rest.le;have T:1<=na:=T;have K:1<=nb:=K;have j:d+na+nb<=lo:=by
  have:d+na+nb+(List.map pr m).length<=lo:=j
  lia
 refine ab9 C h T K () O P J L λg' st' h' R=>q g' _ st' h' ?_ (by simp;lia) λk U=>R.out k ();unfold PA;rw[show(G++(d,na+nb,B)::m).toArray.toList=G++(d,na+nb,B)::m from rfl,bS];refine um.app.mpr ⟨d,h1.congr λi a b=>R.out i (),rfl,by show 1<=na+nb;lia,?_,?_,?_⟩
 ·show Cl g' d (d+(na+nb));rw[<- iZ];exact R.cl
 ·show So o g' d (d+(na+nb));rw[<- iZ];exact R.so
 ·skip
  rw[<- iZ];exact rest.congr λi a b=>R.out i<|.inr a
def CH{p:Array<|Nat×Nat×Nat}{lo:Nat}{u:Nat×Nat×Nat->Nat×Nat×Nat}(J:∀x,pr (u x)=pr x)(h:PA o g p lo):PA o g (p.modify i u) lo:=by
 unfold PA at h ⊢;have:(p.modify i u).toList.map pr=p.toList.map pr:=by
  rw[Array.toList_modify];apply dj;intro k;rw[aQ,aQ,List.getElem?_modify]
  cases p.toList[k]? with
  | none=>rfl
  | some x=>
   show some (pr<|if i=k then u x else x)=some (pr x);by_cases c:i=k
   ·rw[aO c,J x]
   ·rw[aM c]
 rw[this];exact h
def z_{p:Array<|Nat×Nat×Nat}{lo n v:Nat}(h:PA o g p lo)(hn:1<=n)(c:Cl g lo<|lo+n)(d:So o g lo<|lo+n):PA o g (p.push (lo,n,v)) (lo+n):=by
 unfold PA at h ⊢;rw[Array.toList_push,bS];exact um.app.mpr ⟨lo,h,rfl,hn,c,d,rfl⟩
def Uy(C:B8 prog w A s o N f kd)(h:Sg N f kd (λi=>i) #[] st)(hN:1<=N)
  {Q:Unit->SortSt->Prop} (q:∀g' p' st',Sg N f kd g' p' st'->Cl g' 0 N->So o g' 0 N->Q Unit.unit st'):wpS (model prog w) A E s sortRuns' Q st:=by
 rw[sortRuns'_eq];refine aY<|iH ?_;dsimp only;rw[h.size];refine aY (eE (cL
  (I:=λx c st'=>∃lo g p,c=(none,lo)/\lo<=N/\(x<=lo\/lo=N)/\Sg N f kd g p st'/\PA o g p lo/\(∀i,lo<=i->g i=i))
  (Q:=λc st'=>∃g p,c=(none,N)/\Sg N f kd g p st'/\PA o g p N) ?step ?fin ⟨0,_,_,rfl,b7 _,.inl<|aP _,h,rfl,λ_ _=>rfl⟩) ?post)
 case fin=>
  rintro c st' ⟨lo,g,p,rfl,h1,h2,h3,Y,L⟩;have:lo=N:=()
  subst this;exact⟨g,p,rfl,h3,Y⟩
 case step=>
  intro x c st' _ hx K;revert K;revert c;refine un3 λlo g p K=>?_;have h1:=K.1;have h2:=K.2.1;have h3:=K.2.2.1;have Y:=K.2.2.2.1;have L:=K.2.2.2.2;clear K;dsimp only;by_cases M:lo>=N
  ·rw[aO M];have:lo=N:=()
   subst this;exact bz ⟨g,p,rfl,h3,Y⟩
  ·rw[aM M];refine aY<|Az C h3 () () (λi a b=>L i a) λm g1 st1 s1 m1 m2 R1=>?_;dsimp only;by_cases c2:m<minRun' N N 0
   ·rw[aO c2];kl_no;refine aY<|Yr C s1 () m1 () R1 (λi a b=>L i ()) λg2 st2 J R2=>?_;rw[aM ⋯];have T:1<=min (N-lo) (minRun' N N 0):=()
    have W:lo+min (N-lo) (minRun' N N 0)<=N:=()
    refine aY<|iH ?_;rw[J.pend];have G:=um.congr Y λi a b=>R2.out i (.inl b)
    cases e:p.back? with
    | none=>
     dsimp only;refine aY (gc<|bz ⟨_,_,_,rfl,W,(),J.pen _,?_,λi hi=>by rw[R2.out i<|.inr hi,L i ()]⟩);rw[J.pend];exact z_ G T R2.cl R2.so
    | some y=>
     obtain⟨y1,y2,y3⟩:=y;dsimp only;refine aY (eE (cL (I:=λ_ c st'=>c=(none,Unit.unit)/\∃g' p',Sg N f kd g' p' st'/\PA o g' p' lo/\(∀k,lo<=k->g' k=g2 k)) (Q:=λc st'=>c=(none,Unit.unit)/\∃g' p',Sg N f kd g' p' st'/\PA o g' p' lo/\(∀k,lo<=k->g' k=g2 k)) ?vstep (λ_ _ h=>h) ⟨rfl,_,_,J,G,λ_ _=>rfl⟩) ?vpost)
     case vstep=>
      rintro x c st' _ hx ⟨rfl,g',p',h1,h2,h3⟩;refine aY<|iH ?_;rw[h1.pend];by_cases c:p'.size>1
      ·rw[aO c]
       cases e:p'[p'.size-2]? with
       | none=>exact bz ⟨rfl,g',p',h1,h2,h3⟩
       | some y=>
        obtain⟨y1,y2,y3⟩:=y;dsimp only;split
        ·exact bz ⟨rfl,g',p',h1,h2,h3⟩
        ·refine aY<|HM C h1 h2 () () λg3 p3 U V O _ z3=>?_;exact bz ⟨rfl,g3,p3,V,O,λk P=>by rw[z3 k P,h3 k P]⟩
      ·rw[aM c];exact bz ⟨rfl,g',p',h1,h2,h3⟩
     case vpost=>
      rintro c st' ⟨rfl,g',p',h1,h2,h3⟩;dsimp only;refine aY (gc<|aY<|gc<|bz ⟨_,_,_,rfl,W,(),(h1.pen _).pen _,?_,λi hi=>by rw[h3 i (),R2.out i<|.inr hi,L i ()]⟩)
      skip
      rw[h1.pend];exact z_ (CH (λ_=>rfl) h2) T (λi a b=>by rw[h3 i a];exact R2.cl i a b) λi j a b c=>by rw[h3 i a,h3 j ()];exact R2.so i j a b c
   ·rw[aM c2];have W:lo+m<=N:=()
    obtain⟨g2,hg2⟩:∃g2,g2=g1:=⟨_,rfl⟩;rw[<- hg2]at R1 s1;have R2:=R1;have J:=s1;have T:=m1;refine aY<|iH ?_;rw[J.pend];have G:=um.congr Y λi a b=>R2.out i (.inl b)
    cases e:p.back? with
    | none=>
     dsimp only;refine aY (gc<|bz ⟨_,_,_,rfl,W,(),J.pen _,?_,λi hi=>by rw[R2.out i<|.inr hi,L i ()]⟩);rw[J.pend];exact z_ G T R2.cl R2.so
    | some y=>
     obtain⟨y1,y2,y3⟩:=y;dsimp only;refine aY (eE (cL (I:=λ_ c st'=>c=(none,Unit.unit)/\∃g' p',Sg N f kd g' p' st'/\PA o g' p' lo/\(∀k,lo<=k->g' k=g2 k)) (Q:=λc st'=>c=(none,Unit.unit)/\∃g' p',Sg N f kd g' p' st'/\PA o g' p' lo/\(∀k,lo<=k->g' k=g2 k)) ?vstep (λ_ _ h=>h) ⟨rfl,_,_,J,G,λ_ _=>rfl⟩) ?vpost)
     case vstep=>
      rintro x c st' _ hx ⟨rfl,g',p',h1,h2,h3⟩;refine aY<|iH ?_;rw[h1.pend];by_cases c:p'.size>1
      ·rw[aO c]
       cases e:p'[p'.size-2]? with
       | none=>exact bz ⟨rfl,g',p',h1,h2,h3⟩
       | some y=>
        obtain⟨y1,y2,y3⟩:=y;dsimp only;split
        ·exact bz ⟨rfl,g',p',h1,h2,h3⟩
        ·refine aY<|HM C h1 h2 () () λg3 p3 U V O _ z3=>?_;exact bz ⟨rfl,g3,p3,V,O,λk P=>by rw[z3 k P,h3 k P]⟩
      ·rw[aM c];exact bz ⟨rfl,g',p',h1,h2,h3⟩
     case vpost=>
      rintro c st' ⟨rfl,g',p',h1,h2,h3⟩;dsimp only;refine aY (gc<|aY<|gc<|bz ⟨_,_,_,rfl,W,(),(h1.pen _).pen _,?_,λi hi=>by rw[h3 i (),R2.out i<|.inr hi,L i ()]⟩)
      skip
      rw[h1.pend];exact z_ (CH (λ_=>rfl) h2) T (λi a b=>by rw[h3 i a];exact R2.cl i a b) λi j a b c=>by rw[h3 i a,h3 j ()];exact R2.so i j a b c
 case post=>
  rintro c st' ⟨g,p,rfl,h1,h2⟩;dsimp only;refine aY (eE (cL
   (I:=λx c B=>c=(none,Unit.unit)/\∃g p,Sg N f kd g p B/\PA o g p N/\(p.size<=1\/p.size+x<=N))
   (Q:=λc B=>c=(none,Unit.unit)/\∃g p,Sg N f kd g p B/\PA o g p N/\p.size<=1) ?fstep ?ffin ⟨rfl,g,p,h1,h2,.inr ?finit⟩) ?fpost)
  case finit=>
   have:=um.le h2;rw[aK]at this;show p.toList.length+0<=N
   lia
  case ffin=>
   rintro c B ⟨rfl,g,p,h1,h2,h3⟩;exact⟨rfl,g,p,h1,h2,()⟩
  case fstep=>
   rintro x c B _ hx ⟨rfl,g,p,h1,h2,h3⟩;refine aY<|iH ?_;rw[h1.pend];by_cases c:p.size<=1
   ·rw[aO c];exact bz ⟨rfl,g,p,h1,h2,c⟩
   ·rw[aM c];have il:∀(d:Prop) [Decidable d],(if d then p.size-2-1 else p.size-2)+1<p.size:=λd _=>by
     by_cases hd:d
     ·rw[aO hd];lia
     ·rw[aM hd];lia
    refine aY<|HM C h1 h2 (aP _) (il _) λg' p' U V O z3 _=>?_;exact bz ⟨rfl,g',p',V,O,()⟩
  case fpost=>
   rintro c B ⟨rfl,g,p,h1,h2,h3⟩;dsimp only;refine bz ?_;unfold PA at h2;have h3:p.toList.length<=1:=h3
   match hl:p.toList,h3 with
   | [],_=>
    rw[hl]at h2;have:0=N:=h2
    lia
   | [x],_=>
    rw[hl]at h2;obtain⟨e1,e2,e3,Z,e5⟩:=h2;have e5:0+x.2.1=N:=e5;have e3:Cl g 0 (0+x.2.1):=e3;have Z:So o g 0 (0+x.2.1):=Z;rw[e5]at e3 Z;exact q g p B h1 e3 Z
end
def Hq(N:Nat):RO N:=λh2=>λC h q=>Uy C h () q
meta abbrev MF (h:aq)(a:ak)(vs:ba):aq:=((h.update a<|Obj.mapSeq λ_=>#[]).push<|seqObj "tuple" vs.toArray 0).push<|seqObj "list" #[] 0
def VW{h:aq}{a:ak}(hb:b≠a)(J:b<h.objs.size):(MF h a vs).get? b=h.get? b:=by
 rw[iI _ _ _<|by rw[size_push',iV];exact bD<|fj J,
  iI _ _ _ (by rw[iV];exact bD J),Heap.get?_update_ne _ _ _ _ hb]
meta abbrev vv (vs:ba)(i:Nat):Keyed:=(vs.getD i .none,vs.getD i .none)
def zip_get(vs:ba){i:Nat}(h:i<vs.length):(vs.toArray.zip vs.toArray)[i]?=some (vv vs i):=by
 have e:vs[i]?=some (vs.getD i .none):=by rw[aI,aH h];rfl
 rw[Array.getElem?_zip_eq_some];exact⟨by rw[eU];exact e,by rw[eU];exact e⟩
section
variable {prog:aj}{w:ah}{A:aA}{E:af->aC->Prop}{s:aC}{o:Ord}{kd:SortKind}
def CQ{a:ak}{vs:ba}{n:Nat}{P:PySem.Fin->aC->Prop}(Z:s.heap.get? a=some (seqObj "list" vs.toArray n))(hsz:vs.length<=sizeLine)(ro:RO vs.length)
  (hkk:2<=vs.length->∀Q:SortKind->aC->Prop,Q kd { s with heap:=MF s.heap a vs }->wpAny (model prog w) A (keyKind' vs.toArray) Q E { s with heap:=MF s.heap a vs })
  (C:2<=vs.length->B8 prog w A { s with heap:=MF s.heap a vs } o vs.length (vv vs) kd)
  (h:∀g,Cl g 0 vs.length->So o g 0 vs.length->P (.done<|.ret .none) { s with heap:=sortedHeap s.heap a vs ((List.range vs.length).map λi=>vs.getD (g i) .none).toArray }) :
  wpAny (model prog w) A (Builtin.«list.sort» ⟨[.ref a],[]⟩) P E s:=by
 rw[list_sort_plain];have B:a<s.heap.objs.size:=a_ Z;refine aG<|listItems_at Z rfl ?_;refine aG (listUpdate_at Z rfl ?_ (by rw[bf];exact hsz)<|b7 _);obtain⟨ep,G⟩:∃ep,(s.heap.update a<|Obj.mapSeq λ_=>#[]).get? a=some (seqObj "list" #[] ep):=⟨_,get?_update_seq Z λ_=>#[]⟩;refine aG<|seqEpoch_at G rfl ?_;refine aG<|wpAny_newTuple ?_;refine aG<|jD ?_;refine cH ?_;have m:(MF s.heap a vs).get? a=some (seqObj "list" #[] ep):=by
  rw[iI _ _ _<|by rw[size_push',iV];exact bD<|fj B,iI _ _ _<|by rw[iV];exact bD B];exact G
 skip
 dsimp only;have K:vs.toArray.size=vs.length:=by simp
 have L:∀i,i<vs.length->vs[i]?=some (vs.getD i .none):=λi hi=>by rw[aI,aH hi];rfl
 have xB:∀(arr:Array Keyed) (g:Nat->Nat),arr.size=vs.length->(∀i,i<vs.length->arr[i]?=some (vv vs<|g i))->arr.map (·.2)=((List.range vs.length).map λi=>vs.getD (g i) .none).toArray:=λarr g h1 k=>by
  apply Array.ext_getElem?;intro i;have e0:((List.range vs.length).map λi=>vs.getD (g i) Value.none).toArray[i]?=((List.range vs.length).map λi=>vs.getD (g i) Value.none)[i]?:=eU ..;rw[Array.getElem?_map,e0,aQ];by_cases c:i<vs.length
  ·rw[k i c,cK c];rfl
  ·rw[gb (),cj<|by rw[cF];lia];rfl
 by_cases k:vs.toArray.size<2
 ·rw[aO k,aO k];refine aG<|aL ?_;rw[StateT.run_pure];refine aG<|aL ?_;dsimp only;refine aG<|seqEpoch_at m rfl ?_;have oe:=xB (vs.toArray.zip vs.toArray) (λi=>i) (by rw[jT,K];lia) λi hi=>zip_get vs hi;refine aG (listUpdate_at m rfl ?_ (by simp) (hsz2:=by rw[size_map];show(vs.toArray.zip vs.toArray).size<=_;rw[jT,K];lia));dsimp[bne_self_eq_false,bK,cQ];refine aL ?_;have:=h (λi=>i) (λi a b=>⟨a,b⟩) λi j a b c=>();rw[<- oe]at this;exact this
 ·rw[aM k,aM k];have q:2<=vs.length:=()
  refine aG<|hkk q _ ?_;refine aG (c5 (ro q (f:=vv vs) (st:=SortSt.mk' kd (vs.toArray.zip vs.toArray) #[] 7 none)
   (Q:=λ_ d=>∃g p,Sg vs.length (vv vs) kd g p d/\Cl g 0 vs.length/\So o g 0 vs.length)
   (C q) ⟨by show(vs.toArray.zip vs.toArray).size=_;rw[jT,K];lia,λi hi=>zip_get vs hi,λi hi=>hi,rfl,rfl,rfl⟩ λO T d N U V=>⟨O,T,N,U,V⟩) ?_ λ_ _ e=>e)
  rintro⟨⟨⟩,d⟩ s' ⟨rfl,g,p,hS,hc,J⟩;dsimp only;refine aG<|seqEpoch_at m rfl ?_;have oe:=xB (arrOf d) g hS.size hS.get;refine aG (listUpdate_at m rfl ?_ (by simp) (hsz2:=by have M:(arrOf d).size=vs.length:=hS.size;show((arrOf d).map (·.2)).size<=_;rw[size_map,M];lia));rw[hS.failed];dsimp[bne_self_eq_false,bK,cQ];have:=h g hc J;rw[<- oe]at this;exact aL this
end
section
variable {prog:aj}{w:ah}{A:aA}{E:af->aC->Prop}{s:aC}
def NB(b:Bool)(x y:af):keyLt' (tuples' b) x y=(do
  let us <- Builtin.List.listItems x
  let vs <- Builtin.List.listItems y
  for ((u,v),k)in (us.toList.zip vs.toList).zipIdx do
   if !(<- eqBool u v)then return <- oneLt' (b && k == 0) u v
  return us.size<vs.size):=rfl
def K9(b:Bool){x y:Int}{t:Tok}{Q:Bool->aC->Prop}(h:Q (decide<|x<y) s):wpAny (model prog w) A (oneLt' b (.int x t)<|.int y u) Q E s:=by
 cases b with
 | true=>exact oneLt_int h
 | false=>
  rw[oneLt'_eq];dsimp[bK,cQ];exact aG<|PySem.P.lt_int<|dZ h
def HK(b:Bool){l k:ak}{xs ys:ba}{ns:ag}{Q:Bool->aC->Prop}(U:IsTup s.heap l xs.toArray)(Z:IsTup s.heap k ys.toArray)(hi:IntsAre xs ns)(hj:IntsAre ys ms)(h:Q (HT.lexLt ns ms) s) :
  wpAny (model prog w) A (keyLt' (tuples' b) (.ref l)<|.ref k) Q E s:=by
 rw[NB];obtain⟨N,g,_,O,C⟩:=U;obtain⟨M,m,_,L,B⟩:=Z;refine aG<|listItems_at g C ?_;refine aG<|listItems_at m B ?_;have G:∀(xs ys:ba) (ns ms:ag) (n:Nat),IntsAre xs ns->IntsAre ys ms->∀f:bj×Unit->aC->Prop,(∀r,(r=some (HT.lexLt ns ms)\/(r=none/\HT.lexLt ns ms=decide (xs.length<ys.length)))->f (r,Unit.unit) s) ->
   wpAny (model prog w) A (forIn ((xs.zip ys).zipIdx n) ((none,Unit.unit):bj×Unit) λx c=>match x with
      | ((p,q),i)=>do
       let e <- eqBool p q
       if (!e)=true then do
         let r <- oneLt' (b && i == 0) p q
         pure (ForInStep.done (some r,Unit.unit))
        else pure (ForInStep.yield (none,Unit.unit))) f E s:=by
  intro xs
  induction xs with
  | nil=>
   intro ys ns ms n h1 h2 f q
   cases h1
   rw[List.zip_nil_left,List.zipIdx_nil,jS];refine aL (q none<|.inr ⟨rfl,?_⟩)
   cases h2 with
   | nil=>rw[HT.tH];rfl
   | cons a t h2=>rw[HT.pJ,aX<|by simp]
  | cons v vs K=>
   intro ys ns ms n h1 h2 f q
   cases h1 with
   | cons a t h1=>
    cases h2 with
    | nil=>
     rw[List.zip_nil_right,List.zipIdx_nil,jS];exact aL<|q none<|.inr ⟨rfl,by rw[HT.rE,bw<|by simp]⟩
    | cons c u h2=>
     rw[List.zip_cons_cons,jG,jP];rw[HT.pF]at q;dsimp only;refine aG<|aG<|wpAny_eqBool_int ?_;by_cases e:a=c
     ·rw[aO e]at q;subst e;dsimp[b9,c7,bK,cQ];refine aL (K _ _ _ _ h1 h2 _ λr d=>q r ?_)
      rcases d with d|⟨d,j⟩
      ·exact .inl d
      ·exact .inr ⟨d,by rw[j];simp⟩
     ·rw[aM e]at q;have J:(a == c)=false:=by simpa using e
      dsimp[J,c6,dD];exact aG<|K9 _<|aL<|aL<|q _<|.inl rfl
 refine aG (G xs ys ns ms 0 hi hj _ λr d=>?_)
 rcases d with rfl|⟨rfl,j⟩
 ·exact aL h
 ·dsimp only;rw[bf,bf,<- j];exact aL h
end
theorem vQ:∀a:ag,HT.lexLt a a=false
 | []=>HT.tH
 | x::a=>by rw[HT.pF,aO rfl];exact vQ a
theorem Bj:∀{a b c:ag},HT.lexLt a b=true->HT.lexLt b c=true->HT.lexLt a c=true
 | [],[],_,h,_=>by rw[HT.tH]at h;cases h
 | x::a,[],_,h,_=>by rw[HT.rE]at h;cases h
 | _,y::b,[],_,h=>by rw[HT.rE]at h;cases h
 | [],y::b,z::c,_,_=>HT.pJ ..
 | x::a,y::b,z::c,h1,h2=>by
  rw[HT.pF]at h1 h2 ⊢;by_cases e1:x=y
  ·rw[aO e1]at h1;by_cases e2:y=z
   ·rw[aO e2]at h2;rw[aO<|e1.trans e2];exact Bj h1 h2
   ·rw[aM e2]at h2;have:=bJ h2;rw[aM<|by omega];exact aX<|by omega
  ·rw[aM e1]at h1;have d:=bJ h1;by_cases e2:y=z
   ·rw[aM<|by omega];exact aX (by omega)
   ·rw[aM e2]at h2;have:=bJ h2;rw[aM<|by omega];exact aX<|by omega
theorem zK:∀{a b:ag},HT.lexLt a b=false->HT.lexLt b a=false->a=b
 | [],[],_,_=>rfl
 | [],y::b,h,_=>by rw[HT.pJ]at h;cases h
 | x::a,[],_,h=>by rw[HT.pJ]at h;cases h
 | x::a,y::b,h1,h2=>by
  rw[HT.pF]at h1 h2;by_cases e:x=y
  ·rw[aO e]at h1;rw[aO e.symm]at h2;rw[e,zK h1 h2]
  ·rw[aM e]at h1;rw[aM λz=>e z.symm]at h2;have:=eO h1;have:=eO h2;omega
def KJ{a c:ag}(h:HT.lexLt a c=true):HT.lexLt a b=true\/HT.lexLt b c=true:=by
 cases e:HT.lexLt a b with
 | true=>exact .inl rfl
 | false=>
  right
  cases e2:HT.lexLt b a with
  | true=>exact Bj e2 h
  | false=>rw[<- zK e e2];exact h
abbrev MU (J:List<|ag):Ord where
 lt i j:=HT.lexLt (J.getD i []) (J.getD j [])
 RB i:=vQ _
 tr i j k:=Bj
 neg i j k:=KJ
section
variable {prog:aj}{w:ah}{A:aA}{E:af->aC->Prop}{s:aC}
theorem Ju{α β:Type}{f:α->Sem β}(r:α->β):∀(l:List α),(∀a∈l,∀Q:β->aC->Prop,Q (r a) s->wpAny M A (f a) Q E s)->∀Q:List β->aC->Prop,Q (l.map r) s->wpAny M A (l.mapM f) Q E s
 | [],_,Q,q=>by rw[List.mapM_nil];exact aL q
 | a::l,h,Q,q=>by
  rw[List.mapM_cons];refine aG<|h a (aR ..) _<|aG<|Ju r l (λb hb=>h b<|aS _ hb) _<|aL q
def Kc{α β:Type}{f:α->Sem β}(r:α->β)(l:List α)(h:∀a∈l,∀Q:β->aC->Prop,Q (r a) s->wpAny M A (f a) Q E s)(Q:Array β->aC->Prop)(q:Q (l.map r).toArray s):wpAny M A (l.toArray.mapM f) Q E s:=by
 rw[List.mapM_toArray,map_eq_pure_bind];exact aG<|Ju r l h _<|aL q
def Tj(u:af):firstOfTuple' u=(do
  if (<- typeOf u) != .type "tuple" then return none
  return (<- Builtin.List.listItems u)[0]?):=rfl
def MX{vs:ba}(h0:vs≠[])(J:∀v∈vs,∃(l:ak) (xs:ba) (n:Int) (t:Tok),v=.ref l/\IsTup s.heap l (.int n t::xs).toArray){Q:SortKind->aC->Prop}(q:Q (tuples' true) s) :
  wpAny (model prog w) A (keyKind' vs.toArray) Q E s:=by
 have g:∀v,∃x:Int×Tok,v∈vs->∃(l:ak) (xs:ba),v=.ref l/\IsTup s.heap l (.int x.1 x.2::xs).toArray:=λv=>by
  by_cases c:v∈vs
  ·obtain⟨l,xs,n,t,e1,e2⟩:=J v c;exact⟨(n,t),λ_=>⟨l,xs,e1,e2⟩⟩
  ·exact⟨(0,0),λz=>absurd z c⟩
 obtain⟨F,k⟩:=Classical.axiomOfChoice g;rw[keyKind'_eq];refine aG (Kc (λv=>some<|Value.int (F v).1 (F v).2) vs (λv hv p q'=>?_) _ ?_)
 ·obtain⟨l,xs,rfl,o,f,hc,n,j⟩:=k v hv;rw[Tj];refine aG<|jl (T := "tuple") ⟨o,f,hc⟩ ?_;rw[aM ⋯];exact aG (listItems_at f j<|aL q')
 ·rw[aO<|by simp];refine aG<|fH ?_;have e1:(vs.map λv=>some<|Value.int (F v).1 (F v).2).toArray.filterMap id=(vs.map λv=>Value.int (F v).1 (F v).2).toArray:=by
   rw[List.filterMap_toArray,List.filterMap_map];congr 1;rw[show(id ∘ λv=>some<|Value.int (F v).1 (F v).2)=λv=>some (Value.int (F v).1 (F v).2)from rfl];exact congrFun List.filterMap_eq_map' vs
  rw[e1,oneTypeOnly'_eq];refine aG (aG<|Kc (λ_=>Value.type "int") _ (λv hv p q'=>?_) _ ?_)
  ·obtain⟨u,_,rfl⟩:=bC.mp hv;exact aL q'
  ·rw[bF];obtain⟨v0,d,rfl⟩:∃v0 d,vs=v0::d:=by
    cases vs with
    | nil=>exact absurd rfl h0
    | cons a b=>exact⟨a,b,rfl⟩
   have ha:((List.map ((λ_=>Value.type "int") ∘ λv=>Value.int (F v).1 (F v).2) (v0::d)).toArray.all λx=>x == Value.type "int")=true:=by
    dsimp[List.all_toArray,all_map,iW];intro _ _;rfl
   have m:(List.map ((λ_=>Value.type "int") ∘ λv=>Value.int (F v).1 (F v).2) (v0::d)).toArray[0]?=some (Value.type "int"):=by simp
   rw[m];dsimp[ha,dD];exact aL<|aL q
end
end Sx
namespace L2
open PySem PySem.Spec PyProof.Rows
section
variable {X:Cx}
theorem yw:∀{rs:bb}{its:ba},Vals (rs.map V.ref) its->its=rs.map Value.ref
 | [],_,r=>by cases r;rfl
 | a::rs,_,r=>by
  cases r with
  | cons h t=>
   have e:_=Value.ref a:=h;rw[e,yw t];rfl
theorem C9:∀(rs:bb),Vals (rs.map V.ref) (rs.map Value.ref)
 | []=>.nil
 | a::rs=>.cons (show RelV (.ref a) (.ref a)from rfl)<|C9 rs
def C5{s:aC}{H:Hp}{Q:VK}{h':aq}{tk:Nat}{rs:bb}{b4:List<|ag}(I1:Inv X ai σ H { s with heap:=h',toks:=tk })(ro:Sx.RO b4.length)(hlen:rs.length=b4.length)(hz:rs.length<=sizeLine)
  (hT:∀(i:Nat) (r:ak) (ks:ag),rs[i]?=some r->b4[i]?=some ks->qu X.K H r (ks.map V.int)/\ks≠[])
  (q:∀l g,H l=none->Sx.Cl g 0 b4.length->Sx.So (Sx.MU b4) g 0 b4.length->Q (.ref l) (upd H l<|.lst<|((List.range b4.length).map λi=>rs.getD (g i) 0).map V.ref)) :
  wpAny (model X.prog X.w) X.A.in1 (do
   let l <- newList (rs.map Value.ref)
   let _ <- holding [l] (call (Value.builtin "list.sort") [l] [])
   ret l) (λfin s'=>∃v,fin=Fin.done (Flow.ret v)/\EP X ai σ Q v s') X.xe { s with heap:=h',toks:=tk }:=by
 have m:(rs.map Value.ref).length=b4.length:=by rw[aK,hlen]
 refine aG<|jD ?_;have f:(h'.push<|seqObj "list" (rs.map Value.ref).toArray 0).get? h'.objs.size=some (seqObj "list" (rs.map Value.ref).toArray 0):=bu _ rfl
 skip
 have tup:∀(i:Nat) (r:ak) (ks:ag),rs[i]?=some r->b4[i]?=some ks->∃d:ba,IntsAre d ks/\IsTup (Sx.MF (h'.push<|seqObj "list" (rs.map Value.ref).toArray 0) h'.objs.size<|rs.map Value.ref) r d.toArray:=λi r ks e1 e2=>by
  obtain⟨d,T,⟨o,L,hc,n,Z⟩,_⟩:=I1.tuple (hT i r ks e1 e2).1;refine⟨d,intsAre_of T,o,?_,hc,n,Z⟩;have lt:r<h'.objs.size:=a_ L;rw[Sx.VW (bD lt)<|by rw[dN];exact fj lt];exact aN _ L
 refine aG (cH<|cD slot_list_sort ⟨_,f,rfl⟩ entry_list_sort (Sx.CQ (o:=Sx.MU b4) (kd:=tuples' true) f (by rw[m];lia) (by rw[m];exact ro) (λh2 G q'=>?_) (λh2 i j hi J U G q'=>?_) λg hc hs=>⟨_,rfl,?_⟩)<|args_list_sort _)
 ·refine Sx.MX (λz=>by rw[z]at h2;simp at h2) (λv hv=>?_) q';obtain⟨i,hi⟩:=fq hv;rw[aQ]at hi;obtain⟨r,B,rfl⟩:=bh.mp hi;have lt:=(aJ.mp B).1;have e2:b4[i]?=some b4[i]:=aH ();obtain⟨d,h1,h3⟩:=tup i r _ B e2;have k:=(hT i r _ B e2).2;generalize b4[i]=ks at h1 k
  cases h1 with
  | nil=>exact absurd rfl k
  | cons a t h1=>exact⟨r,_,a,t,rfl,h3⟩
 ·rw[m]at hi J;have e1:rs[i]?=some (rs[i]'()):=aH _;have e2:rs[j]?=some (rs[j]'()):=aH _;have k1:b4[i]?=some b4[i]:=aH hi;have k2:b4[j]?=some b4[j]:=aH J;obtain⟨x1,N,P⟩:=tup i _ _ e1 k1;obtain⟨x2,a2,M⟩:=tup j _ _ e2 k2;have v1:(rs.map Value.ref).getD i .none=.ref (rs[i]'()):=by rw[aI,aQ,e1];rfl
  have v2:(rs.map Value.ref).getD j .none=.ref (rs[j]'()):=by rw[aI,aQ,e2];rfl
  show wpAny _ _ (keyLt' (tuples' true) ((rs.map Value.ref).getD i .none)<|(rs.map Value.ref).getD j .none) G U _;rw[v1,v2];refine Sx.HK true P M N a2 ?_;have O:b4.getD i []=b4[i]:=by rw[aI,k1];rfl
  have W:b4.getD j []=b4[j]:=by rw[aI,k2];rfl
  have:(Sx.MU b4).lt i j=HT.lexLt b4[i] b4[j]:=by show HT.lexLt _ _=_;rw[O,W]
  rw[<- this];exact q'
 ·rw[m]at hc hs ⊢;obtain⟨e,Y⟩:=sortedHeap_at (out:=((List.range b4.length).map λi=>(rs.map Value.ref).getD (g i) .none).toArray) f;have old:∀b C,h'.get? b=some C->(sortedHeap (h'.push<|seqObj "list" (rs.map Value.ref).toArray 0) h'.objs.size (rs.map Value.ref) ((List.range b4.length).map λi=>(rs.map Value.ref).getD (g i) .none).toArray).get? b=some C:=λb C p=>by
   rw[sortedHeap_old (bD<|a_ p)<|by rw[dN];exact fj<|a_ p];exact aN _ p
  refine aL ⟨_,rfl,.ref h'.objs.size,_,I1.laid (t':=tk) (o:=.lst<|((List.range b4.length).map λi=>rs.getD (g i) 0).map V.ref) old (aP _) ?_,rfl,q _ g (I1.hok.fresh<|aP _) hc hs⟩;refine⟨by rw[aK,aK,cF];lia,((List.range b4.length).map λi=>rs.getD (g i) 0).map Value.ref,e,C9 _,?_⟩;rw[Y];congr 2;rw[bF];congr 1;refine cM λi hi=>?_;have:=(hc i (b7 _)<|cE.mp hi).2;have lt:g i<rs.length:=()
  show(rs.map Value.ref).getD (g i) .none=Value.ref (rs.getD (g i) 0);rw[aI,aQ,aH lt,aI,aH lt];rfl
def DE:kR X (.builtin "sorted") (λxs H Q=>∃(p:ak) (rs:bb) (b4:List<|ag),xs=[.ref p]/\qX X.K H p (rs.map V.ref)/\Sx.RO b4.length/\rs.length=b4.length /\
  (∀(i:Nat) (r:ak) (ks:ag),rs[i]?=some r->b4[i]?=some ks->qu X.K H r (ks.map V.int)/\ks≠[]) /\
  ∀l g,H l=none->Sx.Cl g 0 b4.length->Sx.So (Sx.MU b4) g 0 b4.length->Q (.ref l) (upd H l<|.lst<|((List.range b4.length).map λi=>rs.getD (g i) 0).map V.ref)):=by
 w_up;obtain⟨p,rs,b4,rfl,C,k,d,J,q⟩:=h;kj_on
 cases rx
 obtain⟨L,M,pl,j⟩:=I.list C;have O:=yw M;subst O;obtain⟨o,P,f,n,N⟩:=pl.isList;rw[aK]at j;have B:(rs.map Value.ref).length=b4.length:=by rw[aK,d]
 kst_p;unfold Builtin.«sorted»;refine aG (m:=checkCount "sorted" 1 1 _)<|aL ?_;refine aG<|wpAny_collect_seq p (.inl rfl) P f N (λh' G=>C5 (s:=s) (I.kept (t':=s.toks) G) k d j J q)<|by rw[bf,B];lia
end
end L2
namespace Am
open PySem
inductive A where
 | unb|non|bl (b:Bool)|int (i:Int)|str (x:Str)|tup (xs:List A)|frz (xs:List A)|rng (lo hi:Int)|ref (n:Nat)|exn (c:Str)|ty (n:String)|ktu (xs:List A)
@[reducible]def ae:=List A
inductive O where
 | lst (xs:ae)|dct (kvs:List<|ag×A)|rC (kvs:List<|Int×A)|dks (kvs:List<|Str×A)|dcp (kvs:List<|L2.NK×A)|dcf (kvs:List<|ag×A)|dkf (kvs:List<|Int×A)|ins (c:Str) (fs:List<|Str×A)
meta abbrev j5:=List O
inductive R (α:Type) where
 | ok (a:α) (S:j5)|ex (c:Str) (S:j5)|no
abbrev R.bind {α β:Type}(r:R α)(f:α->j5->R β):R β:=match r with
 | .ok a S=>f a S
 | .ex c S=>.ex c S
 | .no=>.no
abbrev R.post {α:Type}(r:R α)(P:α->j5->Prop)(E:Str->j5->Prop):Prop:=match r with
 | .ok a S=>P a S
 | .ex c S=>E c S
 | .no=>False
def kh{α β:Type}{r:R α}{f:α->j5->R β}{P:β->j5->Prop}{E:Str->j5->Prop}(h:(r.bind f).post P E):r.post (λa S=>(f a S).post P E) E:=by
 cases r<;>exact h
def yR{α:Type}{r:R α}{P J:α->j5->Prop}{E U:Str->j5->Prop}(h:r.post P E)(hp:∀a S,P a S->J a S)(Z:∀c S,E c S->U c S):r.post J U:=by
 cases r with
 | ok a S=>exact hp _ _ h
 | ex c S=>exact Z _ _ h
 | no=>exact h.elim
abbrev gd {α:Type}(c:Prop)[Decidable c](r:R α):R α:=if c then r else .no
abbrev opt {α β:Type}(o:Option β)(f:β->R α):R α:=match o with
 | some b=>f b
 | none=>.no
def kO{α:Type}{c:Prop}[Decidable c]{r:R α}{P:α->j5->Prop}{E:Str->j5->Prop}(h:(gd c r).post P E):c/\r.post P E:=by
 unfold gd at h;by_cases hc:c
 ·rw[aO hc]at h;exact⟨hc,h⟩
 ·rw[aM hc]at h;exact h.elim
def kj{α β:Type}{o:Option β}{f:β->R α}{P:α->j5->Prop}{E:Str->j5->Prop}(h:(opt o f).post P E):∃b,o=some b/\(f b).post P E:=by
 cases o with
 | none=>exact h.elim
 | some b=>exact⟨b,rfl,h⟩
def aaX{α:Type}{c:Prop}[Decidable c]{r:R α}(h:c):gd c r=r:=aO h
abbrev j4 (S:j5)(n:Nat):Option (ae):=match S[n]? with
 | some (.lst xs)=>some xs
 | _=>none
def kI{n:Nat}(h:j4 S n=some xs):S[n]?=some (.lst xs):=by
 unfold j4 at h;split at h
 ·rename_i e;cases h;exact e
 ·cases h
def yg{S:j5}{n:Nat}(h:S[n]?=some (.lst xs)):j4 S n=some xs:=by
 unfold j4;rw[h]
inductive RS where
 | nx (τ:ae) (S:j5)|rt (a:A) (S:j5)|bk (τ:ae) (S:j5)|ct (τ:ae) (S:j5)|ex (c:Str) (S:j5)|no
meta abbrev Ex:=ae->j5->R A
meta abbrev rT:=ae->j5->R (ae)
meta abbrev Te:=ae->j5->R Bool
meta abbrev Sm:=ae->j5->RS
meta abbrev Tg:=A->ae->j5->R (ae)
end Am
namespace Am
open PySem L2
section
variable (K:au) (ρ:bb) (H:Hp)
abbrev GZ (K:au)(c:Str)(C:ak):Prop:=PySem.W.nsIn K mainGlobals c=some (some<|.ref C)
abbrev Fz (K:au)(H:Hp)(a:ak)(vs:List V):Prop:=
 (∃o,H a=some (.frz o<|.lst vs))\/∃(o:Obj) (d:Array af) (n:Nat),K.lookup a=some o/\o.cls=.type "list" /\ o.dict=none/\o.data=.seq d n/\d.size<=sizeLine/\Vals vs d.toList
abbrev KTp (K:au)(a:ak)(vs:List V):Prop:=∃(o:Obj) (d:Array af) (n:Nat),K.lookup a=some o/\o.cls=.type "tuple" /\ o.dict=none/\o.data=.seq d n/\d.size<=sizeLine/\Vals vs d.toList
mutual
inductive AV:A->V->Prop
 | non:AV .non .non
 | bl (b:Bool):AV (.bl b) (.bl b)
 | int (i:Int):AV (.int i) (.int i)
 | str (x:Str):AV (.str x) (.str x)
 | ty (n:String):AV (.ty n) (.ty n)
 | tup {a:ak} {xs:ae} {vs:List V} (h:H a=some (.tup vs)) (r:AVs xs vs):AV (.tup xs) (.ref a)
 | frz {a:ak} {xs:ae} {vs:List V} (h:Fz K H a vs) (r:AVs xs vs):AV (.frz xs) (.ref a)
 | rng {a:ak} {lo hi:Int} (h:H a=some (.rng lo hi)):AV (.rng lo hi) (.ref a)
 | ref {a:ak} {n:Nat} (h:ρ[n]?=some a):AV (.ref n) (.ref a)
 | exn {a C:ak} {c:Str} {oe:Obj} (n:GZ K c C) (h:H a=some (.frz oe xu)) (x:XO C oe):AV (.exn c) (.ref a)
 | ktu {a:ak} {xs:ae} {vs:List V} (h:KTp K a vs) (r:AVs xs vs):AV (.ktu xs)<|.ref a
inductive AVs:ae->List V->Prop
 | nil:AVs [] []
 | cons {x:A} {v:V} {xs:ae} {vs:List V} (h:AV x v) (t:AVs xs vs):AVs (x::xs) (v::vs)
end
abbrev DV:List (ag×A)->List (List Key×V)->Prop
 | [],[]=>True
 | p::r,q::r'=>(q.1=p.1.map Sum.inl/\AV K ρ H p.2 q.2)/\DV r r'
 | _,_=>False
abbrev DI:List (Int×A)->List (Key×V)->Prop
 | [],[]=>True
 | p::r,q::r'=>(q.1=Sum.inl p.1/\AV K ρ H p.2 q.2)/\DI r r'
 | _,_=>False
abbrev DS:List (Str×A)->List (Key×V)->Prop
 | [],[]=>True
 | p::r,q::r'=>(q.1=Sum.inr p.1/\AV K ρ H p.2 q.2)/\DS r r'
 | _,_=>False
abbrev DP:List (L2.NK×A)->List (L2.NK×ak×af)->Prop
 | [],[]=>True
 | p::r,q::r'=>(q.1=p.1/\L2.Fd H q.2.1 q.1/\∃v,RelV v q.2.2/\AV K ρ H p.2 v)/\DP r r'
 | _,_=>False
abbrev OR (a:ak):O->Prop
 | .lst xs=>∃vs,H a=some (.lst vs)/\AVs K ρ H xs vs
 | .dct d=>∃ks,H a=some (.dT ks)/\DV K ρ H d ks
 | .rC d=>∃ks,H a=some (.dK ks)/\DI K ρ H d ks
 | .dks d=>∃ks,H a=some (.dK ks)/\DS K ρ H d ks
 | .dcp d=>∃xs,H a=some (.ext<|L2.ads a xs)/\DP K ρ H d xs
 | .dcf d=>∃o ks,H a=some (.frz o<|.dT ks)/\DV K ρ H d ks
 | .dkf d=>∃o ks,H a=some (.frz o<|.dK ks)/\DI K ρ H d ks
 | .ins _ _=>∃o u,H a=some (.frz o u)
structure Rel (S:j5):Prop where
 len:ρ.length=S.length
 nd:ρ.Nodup
 «at»:∀(n:Nat) (a:ak) (o:O),ρ[n]?=some a->S[n]?=some o->OR K ρ H a o
end
abbrev Imm:HO->Prop
 | .tup _=>True
 | .rng _ _=>True
 | .frz _ _=>True
 | _=>False
structure Ext0 (ρ ρ':bb)(H H':Hp):Prop where
 pre:ρ <+: ρ'
 im:∀a u,Imm u->H a=some u->H' a=some u
structure Ext (ρ ρ':bb)(H H':Hp):Prop extends Ext0 ρ ρ' H H' where
 fr:∀a u,H a=some u->a∉ρ->H' a=some u
 nw:∀a,a∈ρ'->a∈ρ\/H a=none
def Ext.refl{H:Hp}:Ext ρ ρ H H:=⟨⟨dU _,λ_ _ _ h=>h⟩,λ_ _ h _=>h,λ_ h=>.inl h⟩
def Ext.trans{H H1 H2:Hp}(a:Ext ρ ρ1 H H1)(b:Ext ρ1 ρ2 H1 H2):Ext ρ ρ2 H H2:=⟨⟨a.pre.trans b.pre,λx u i h=>b.im x u i<|a.im x u i h⟩,λx u h n=>b.fr x u (a.fr x u h n) λz=>(a.nw x z).elim n λz=>by(rw[z]at h;cases h),λx h=>by
 by_cases d:x∈ρ
 ·exact .inl d
 ·right
  cases q:H x with
  | none=>rfl
  | some u=>
   rcases b.nw x h with z|z
   ·exact((a.nw x z).elim d λz=>by(rw[z]at q;cases q)).elim
   ·rw[a.fr x u q d]at z;cases z⟩
def Ext0.get{H H':Hp}(e:Ext0 ρ ρ' H H'){n:Nat}{a:ak}(h:ρ[n]?=some a):ρ'[n]?=some a:=by
 obtain⟨t,rfl⟩:=e.pre;rw[bE (aJ.mp h).1];exact h
section
variable {K:au}{ρ ρ':bb}{H H':Hp}
def Ext0.sqT(e:Ext0 ρ ρ' H H'){a:ak}(h:qu K H a vs):qu K H' a vs:=by
 rcases h with(h|⟨o,h⟩)|h
 ·exact .inl (.inl<|e.im _ _ trivial h)
 ·exact .inl (.inr ⟨o,e.im _ _ trivial h⟩)
 ·exact .inr h
def Ext0.fz(e:Ext0 ρ ρ' H H'){a:ak}(h:Fz K H a vs):Fz K H' a vs:=by
 rcases h with⟨o,h⟩|h
 ·exact .inl ⟨o,e.im _ _ trivial h⟩
 ·exact .inr h
def Fz.Uc{a:ak}(h:Fz K H a vs):qX K H a vs:=by
 rcases h with⟨o,h⟩|h
 ·exact .inl (.inr ⟨o,h⟩)
 ·exact .inr h
mutual
theorem AV.mF(e:Ext0 ρ ρ' H H'):∀{x:A}{v:V},AV K ρ H x v->AV K ρ' H' x v
 | _,_,.non=>.non
 | _,_,.bl b=>.bl b
 | _,_,.int i=>.int i
 | _,_,.str x=>.str x
 | _,_,.ty x=>.ty x
 | _,_,.tup h r=>.tup (e.im _ _ trivial h) (AVs.mF e r)
 | _,_,.frz h r=>.frz (e.fz h) (AVs.mF e r)
 | _,_,.rng h=>.rng (e.im _ _ trivial h)
 | _,_,.ref h=>.ref (e.get h)
 | _,_,.exn n h x=>.exn n (e.im _ _ trivial h) x
 | _,_,.ktu h r=>.ktu h<|AVs.mF e r
theorem AVs.mF(e:Ext0 ρ ρ' H H'):∀{xs:ae}{vs:List V},AVs K ρ H xs vs->AVs K ρ' H' xs vs
 | _,_,.nil=>.nil
 | _,_,.cons h t=>.cons (AV.mF e h)<|AVs.mF e t
end
theorem DV.mF(e:Ext0 ρ ρ' H H'):∀{xs:List<|ag×A}{vs:List<|List Key×V},DV K ρ H xs vs->DV K ρ' H' xs vs
 | [],[],_=>trivial
 | _::_,_::_,⟨⟨a,b⟩,r⟩=>⟨⟨a,AV.mF e b⟩,DV.mF e r⟩
def DV.ext{x:List<|ag×A}{v:List<|List Key×V}(h:DV K ρ H x v)(e:Ext ρ ρ' H H'):DV K ρ' H' x v:=DV.mF e.toExt0 h
theorem DI.mF(e:Ext0 ρ ρ' H H'):∀{xs:List<|Int×A}{vs:List<|Key×V},DI K ρ H xs vs->DI K ρ' H' xs vs
 | [],[],_=>trivial
 | _::_,_::_,⟨⟨a,b⟩,r⟩=>⟨⟨a,AV.mF e b⟩,DI.mF e r⟩
def DI.ext{x:List<|Int×A}{v:List<|Key×V}(h:DI K ρ H x v)(e:Ext ρ ρ' H H'):DI K ρ' H' x v:=DI.mF e.toExt0 h
theorem DS.mF(e:Ext0 ρ ρ' H H'):∀{xs:List<|Str×A}{vs:List<|Key×V},DS K ρ H xs vs->DS K ρ' H' xs vs
 | [],[],_=>trivial
 | _::_,_::_,⟨⟨a,b⟩,r⟩=>⟨⟨a,AV.mF e b⟩,DS.mF e r⟩
def DS.ext{x:List<|Str×A}{v:List<|Key×V}(h:DS K ρ H x v)(e:Ext ρ ρ' H H'):DS K ρ' H' x v:=DS.mF e.toExt0 h
def Fd.mF{k:L2.NK}(e:Ext0 ρ ρ' H H'):L2.Fd H b k->L2.Fd H' b k:=λ⟨r1,r2,h1,h2,h3⟩=>⟨r1,r2,e.im _ _ trivial h1,e.im _ _ trivial h2,e.im _ _ trivial h3⟩
theorem DP.mF(e:Ext0 ρ ρ' H H'):∀{xs:List<|L2.NK×A}{vs:List<|L2.NK×ak×af},DP K ρ H xs vs->DP K ρ' H' xs vs
 | [],[],_=>trivial
 | _::_,_::_,⟨⟨a,k,v,c,b⟩,r⟩=>⟨⟨a,Fd.mF e k,v,c,AV.mF e b⟩,DP.mF e r⟩
def DP.ext{x:List<|L2.NK×A}{v:List<|L2.NK×ak×af}(h:DP K ρ H x v)(e:Ext ρ ρ' H H'):DP K ρ' H' x v:=DP.mF e.toExt0 h
def AV.ext{x:A}{v:V}(h:AV K ρ H x v)(e:Ext ρ ρ' H H'):AV K ρ' H' x v:=AV.mF e.toExt0 h
def AVs.ext{x:ae}{v:List V}(h:AVs K ρ H x v)(e:Ext ρ ρ' H H'):AVs K ρ' H' x v:=AVs.mF e.toExt0 h
theorem AVs.length:∀{xs:ae}{vs:List V},AVs K ρ H xs vs->xs.length=vs.length
 | _,_,.nil=>rfl
 | _,_,.cons _ t=>dG (·+1)<|AVs.length t
theorem AVs.append:∀{xs ys:ae}{vs ws:List V},AVs K ρ H xs vs->AVs K ρ H ys ws->AVs K ρ H (xs++ys) (vs++ws)
 | _,_,_,_,.nil,s=>s
 | _,_,_,_,.cons h t,s=>.cons h<|AVs.append t s
theorem AVs.take:∀{xs:ae}{vs:List V}(n:Nat),AVs K ρ H xs vs->AVs K ρ H (xs.take n) (vs.take n)
 | _,_,0,_=>.nil
 | _,_,_+1,.nil=>.nil
 | _,_,n+1,.cons h t=>.cons h<|AVs.take n t
theorem AVs.drop:∀{xs:ae}{vs:List V}(n:Nat),AVs K ρ H xs vs->AVs K ρ H (xs.drop n) (vs.drop n)
 | _,_,0,r=>r
 | _,_,_+1,.nil=>.nil
 | _,_,n+1,.cons _ t=>AVs.drop n t
theorem AVs.get:∀{xs:ae}{vs:List V}{i:Nat}{x:A},AVs K ρ H xs vs->xs[i]?=some x->∃v,vs[i]?=some v/\AV K ρ H x v
 | _,_,_,_,.nil,e=>by simp at e
 | _,_,0,_,.cons h _,e=>by simp at e;subst e;exact⟨_,rfl,h⟩
 | _,_,i+1,x,.cons _ t,e=>by
  obtain⟨u,h1,h2⟩:=AVs.get (i:=i) (x:=x) t (by simpa using e);exact⟨u,by simpa using h1,h2⟩
theorem AVs.set{x:A}{v:V}(h:AV K ρ H x v):∀{xs:ae}{vs:List V}(i:Nat),AVs K ρ H xs vs->AVs K ρ H (xs.set i x) (vs.set i v)
 | _,_,_,.nil=>.nil
 | _,_,0,.cons _ t=>.cons h t
 | _,_,i+1,.cons q t=>.cons q<|AVs.set h i t
def AVs.one{x:A}{v:V}(h:AV K ρ H x v):AVs K ρ H [x] [v]:=.cons h .nil
theorem AVs.eraseIdx:∀{xs:ae}{vs:List V}(i:Nat),AVs K ρ H xs vs->AVs K ρ H (xs.eraseIdx i) (vs.eraseIdx i)
 | _,_,_,.nil=>.nil
 | _,_,0,.cons _ t=>t
 | _,_,i+1,.cons q t=>.cons q<|AVs.eraseIdx i t
theorem qi:∀(ns:ag),AVs K ρ H (ns.map .int) (ns.map .int)
 | []=>.nil
 | n::ns=>.cons (.int n)<|qi ns
def Rel.lay{S:j5}{p:ak}(R:Rel K ρ H S)(hp:H p=none)(r:AVs K ρ H xs vs):Ext ρ (ρ++[p]) H (upd H p<|.lst vs)/\Rel K (ρ++[p]) (upd H p<|.lst vs) (S++[.lst xs])/\(ρ++[p])[S.length]?=some p:=by
 have ex:Ext ρ (ρ++[p]) H (upd H p<|.lst vs):=⟨⟨eS _ _,λa u _ h=>by rw[j8<|kF h hp];exact h⟩,λa u h _=>by rw[j8<|kF h hp];exact h,λa h=>by
  rcases bq.mp h with z|z
  ·exact .inl z
  ·have e:a=p:=by simpa using z
   rw[e];exact .inr hp⟩
 have np:∀(n:Nat) (a:ak),ρ[n]?=some a->a≠p:=by
  intro n a e z;subst z;have hn:n<S.length:=by rw[<- R.len];exact(aJ.mp e).1
  have:=R.at n a S[n] e (aH hn)
  cases g:S[n]with
  | lst xs=>rw[g]at this;obtain⟨vs,h,_⟩:=this;rw[hp]at h;cases h
  | dct _|rC _|dks _|dcp _=>rw[g]at this;obtain⟨vs,h,_⟩:=this;rw[hp]at h;cases h
  | dcf _|dkf _=>rw[g]at this;obtain⟨_,vs,h,_⟩:=this;rw[hp]at h;cases h
  | ins _ _=>rw[g]at this;obtain⟨_,_,h⟩:=this;rw[hp]at h;cases h
 have d:(ρ++[p])[S.length]?=some p:=by rw[<- R.len];simp
 refine⟨ex,⟨by simp[R.len],?_,?_⟩,d⟩
 ·rw[b8];o_rec;have:b=p:=by simpa using hb
  obtain⟨n,hn,k⟩:=i_.mp ha;exact np n a (by rw[aH hn,k])<|e.trans this
 ·intro n a o h1 h2;by_cases hn:n<S.length
  ·rw[bE<|by rw[R.len];exact hn]at h1;rw[bE hn]at h2;have:=R.at n a o h1 h2
   cases o with
   | lst ys=>obtain⟨f,e,q⟩:=this;exact⟨f,by rw[j8<|np n a h1];exact e,q.ext ex⟩
   | dct _|rC _|dks _|dcp _=>obtain⟨f,e,q⟩:=this;exact⟨f,by rw[j8<|np n a h1];exact e,q.ext ex⟩
   | dcf _|dkf _=>obtain⟨j,f,e,q⟩:=this;exact⟨j,f,by rw[j8<|np n a h1];exact e,q.ext ex⟩
   | ins _ _=>obtain⟨j,m,e⟩:=this;exact⟨j,m,by rw[j8<|np n a h1];exact e⟩
  ·have e:n=S.length:=by
    have:=(aJ.mp h2).1;simp at this
    lia
   subst e;rw[d]at h1
   cases h1
   simp at h2;subst h2;exact⟨vs,kP,r.ext ex⟩
def Rel.im{p:ak}(R:Rel K ρ H S)(hp:H p=none):Ext ρ ρ H (upd H p u)/\Rel K ρ (upd H p u) S:=by
 have ex:Ext ρ ρ H (upd H p u):=⟨⟨dU _,λa u _ h=>by rw[j8<|kF h hp];exact h⟩,λa u h _=>by rw[j8<|kF h hp];exact h,λ_ h=>.inl h⟩;refine⟨ex,R.len,R.nd,λn a o h1 h2=>?_⟩;have:=R.at n a o h1 h2
 cases o with
 | lst ys=>obtain⟨d,e,q⟩:=this;exact⟨d,by rw[j8<|kF e hp];exact e,q.ext ex⟩
 | dct _|rC _|dks _|dcp _=>obtain⟨d,e,q⟩:=this;exact⟨d,by rw[j8<|kF e hp];exact e,q.ext ex⟩
 | dcf _|dkf _=>obtain⟨f,d,e,q⟩:=this;exact⟨f,d,by rw[j8<|kF e hp];exact e,q.ext ex⟩
 | ins _ _=>obtain⟨f,g,e⟩:=this;exact⟨f,g,by rw[j8<|kF e hp];exact e⟩
def Rel.put{S:j5}{n:Nat}{a:ak}(R:Rel K ρ H S)(ha:ρ[n]?=some a)(hS:S[n]?=some (.lst xs))(r:AVs K ρ H ys ws):Ext ρ ρ H (upd H a<|.lst ws)/\Rel K ρ (upd H a<|.lst ws) (S.set n<|.lst ys):=by
 obtain⟨vs,e,_⟩:=R.at n a _ ha hS;have ex:Ext ρ ρ H (upd H a<|.lst ws):=⟨⟨dU _,λb u i h=>by
  have:b≠a:=by
   intro z;subst z;rw[e]at h;cases h;exact i
  rw[j8 this];exact h⟩,λb u h n=>by
  rw[j8 λz=>n<|by rw[z];exact aW ha];exact h,λ_ h=>.inl h⟩
 refine⟨ex,by rw[bW];exact R.len,R.nd,λm b o h1 h2=>?_⟩;by_cases j:m=n
 ·subst j;rw[ha]at h1;cases h1;rw[bP (aJ.mp hS).1]at h2
  cases h2
  exact⟨ws,kP,r.ext ex⟩
 ·rw[bV<|Ne.symm j]at h2;have nb:b≠a:=λz=>by
   subst z;obtain⟨B,e1⟩:=aJ.mp ha;obtain⟨p,e2⟩:=aJ.mp h1;exact j<|(dF R.nd).mp<|e2.trans e1.symm
  have:=R.at m b o h1 h2
  cases o with
  | lst ys=>obtain⟨d,f,q⟩:=this;exact⟨d,by rw[j8 nb];exact f,q.ext ex⟩
  | dct _|rC _|dks _|dcp _=>obtain⟨d,f,q⟩:=this;exact⟨d,by rw[j8 nb];exact f,q.ext ex⟩
  | dcf _|dkf _=>obtain⟨g,d,f,q⟩:=this;exact⟨g,d,by rw[j8 nb];exact f,q.ext ex⟩
  | ins _ _=>obtain⟨g,k,f⟩:=this;exact⟨g,k,by rw[j8 nb];exact f⟩
def Rel.lst{n:Nat}{a:ak}(R:Rel K ρ H S)(ha:ρ[n]?=some a)(hS:S[n]?=some (.lst xs)):∃vs,H a=some (.lst vs)/\AVs K ρ H xs vs:=R.at n a _ ha hS
structure SR (K:au)(ρ:bb)(H:Hp)(τ:ae)(σ:St):Prop where
 len:τ.length=σ.length
 «at»:∀(i:Nat) (a:A),τ[i]?=some a->a=.unb\/∃v,σ[i]?=some (some v)/\AV K ρ H a v
def SR.mF(s:SR K ρ H τ σ)(e:Ext0 ρ ρ' H H'):SR K ρ' H' τ σ:=⟨s.len,λi a h=>by
 rcases s.at i a h with z|⟨v,h1,h2⟩
 ·exact .inl z
 ·exact .inr ⟨v,h1,AV.mF e h2⟩⟩
def SR.ext(s:SR K ρ H τ σ)(e:Ext ρ ρ' H H'):SR K ρ' H' τ σ:=s.mF e.toExt0
def Rel.out{D:ak}(R:Rel K ρ H S)(J:H D=some (.lst vs))(hn:D∉ρ):Ext0 ρ ρ H (upd H D<|.lst ws)/\Rel K ρ (upd H D<|.lst ws) S:=by
 have ex:Ext0 ρ ρ H (upd H D<|.lst ws):=⟨dU _,λb u i h=>by
  have:b≠D:=by
   intro z;subst z;rw[J]at h;cases h;exact i
  rw[j8 this];exact h⟩
 refine⟨ex,R.len,R.nd,λn a o h1 h2=>?_⟩;have na:a≠D:=λz=>hn (by rw[<- z];exact aW h1);have:=R.at n a o h1 h2
 cases o with
 | lst ys=>obtain⟨d,e,q⟩:=this;exact⟨d,by rw[j8 na];exact e,AVs.mF ex q⟩
 | dct _|rC _|dks _|dcp _=>obtain⟨d,e,q⟩:=this;exact⟨d,by rw[j8 na];exact e,q.mF ex⟩
 | dcf _|dkf _=>obtain⟨f,d,e,q⟩:=this;exact⟨f,d,by rw[j8 na];exact e,q.mF ex⟩
 | ins _ _=>obtain⟨f,g,e⟩:=this;exact⟨f,g,by rw[j8 na];exact e⟩
def Rel.take{S:j5}{D:ak}(R:Rel K ρ H S)(J:H D=some (.lst vs))(hn:D∉ρ)(r:AVs K ρ H xs vs):Rel K (ρ++[D]) H (S++[.lst xs])/\(ρ++[D])[S.length]?=some D:=by
 have ex:Ext0 ρ (ρ++[D]) H H:=⟨eS _ _,λ_ _ _ h=>h⟩;have d:(ρ++[D])[S.length]?=some D:=by rw[<- R.len];simp
 refine⟨⟨by simp[R.len],?_,λn a o h1 h2=>?_⟩,d⟩
 ·rw[b8];o_rec;have:b=D:=by simpa using hb
  exact hn<|by rw[<- this,<- e];exact ha
 ·by_cases hs:n<S.length
  ·rw[bE<|by rw[R.len];exact hs]at h1;rw[bE hs]at h2;have:=R.at n a o h1 h2
   cases o with
   | lst ys=>obtain⟨f,e,q⟩:=this;exact⟨f,e,AVs.mF ex q⟩
   | dct _|rC _|dks _|dcp _=>obtain⟨f,e,q⟩:=this;exact⟨f,e,q.mF ex⟩
   | dcf _|dkf _=>obtain⟨g,f,e,q⟩:=this;exact⟨g,f,e,q.mF ex⟩
   | ins _ _=>obtain⟨g,j,e⟩:=this;exact⟨g,j,e⟩
  ·have e:n=S.length:=by
    have:=(aJ.mp h2).1;simp at this
    lia
   subst e;rw[d]at h1
   cases h1
   simp at h2;subst h2;exact⟨vs,J,AVs.mF ex r⟩
def SR.set{τ:ae}{σ:St}{a:A}{v:V}(s:SR K ρ H τ σ)(h:AV K ρ H a v):SR K ρ H (τ.set i a) (σ.set i<|some v):=by
 refine⟨by simp[s.len],λj b e=>?_⟩;by_cases d:j=i
 ·subst d;have f:j<τ.length:=by
   have:=(aJ.mp e).1;simpa using this
  rw[bP f]at e
  cases e
  exact .inr ⟨v,bP<|by rw[<- s.len];exact f,h⟩
 ·rw[bV<|Ne.symm d]at e;rw[bV<|Ne.symm d];exact s.at j b e
end
end Am
namespace Am
open PySem PySem.Spec PyProof.Rows L2
abbrev XE (X:Cx)(ρ:bb)(H:Hp):Str->j5->Prop:=λc d=>∀(C:ak) (ρ':bb) (H':Hp),GZ X.K c C->Ext ρ ρ' H H'->Rel X.K ρ' H' d->EX X (.ref C) none H'
def XE.ext{X:Cx}{H H':Hp}{c:Str}(h:XE X ρ H c S)(e:Ext ρ ρ' H H'):XE X ρ' H' c S:=λC ρ2 H2 n e2=>h C ρ2 H2 n<|e.trans e2
abbrev zQ (X:Cx)(ρ:bb)(H:Hp)(Q:VK):A->j5->Prop:=λa d=>∀ρ' H' v,Ext ρ ρ' H H'->Rel X.K ρ' H' d->AV X.K ρ' H' a v->Q v H'
abbrev okB (X:Cx)(ρ:bb)(H:Hp)(Q:Bool->Hp->Prop):Bool->j5->Prop:=λb d=>∀ρ' H',Ext ρ ρ' H H'->Rel X.K ρ' H' d->Q b H'
abbrev okL (X:Cx)(ρ:bb)(H:Hp)(Q:List V->Hp->Prop):ae->j5->Prop:=λas d=>∀ρ' H' vs,Ext ρ ρ' H H'->Rel X.K ρ' H' d->AVs X.K ρ' H' as vs->Q vs H'
def zQ.ext{X:Cx}{H H':Hp}{Q:VK}{a:A}(h:zQ X ρ H Q a S)(e:Ext ρ ρ' H H'):zQ X ρ' H' Q a S:=λρ2 H2 v e2=>h ρ2 H2 v<|e.trans e2
def okB.ext{X:Cx}{H H':Hp}{Q:Bool->Hp->Prop}{a:Bool}(h:okB X ρ H Q a S)(e:Ext ρ ρ' H H'):okB X ρ' H' Q a S:=λρ2 H2 e2=>h ρ2 H2<|e.trans e2
def j6{α:Type}{X:Cx}{H H':Hp}{r:R α}{P J:α->j5->Prop}(h:r.post P<|XE X ρ H)(e:Ext ρ ρ' H H')(hp:∀a S,P a S->J a S):r.post J (XE X ρ' H'):=yR h hp λ_ _ z=>z.ext e
abbrev tE (X:Cx)(c:Ex):TE:=λσ H Q=>∃ρ S τ,Rel X.K ρ H S/\SR X.K ρ H τ σ/\(c τ S).post (zQ X ρ H Q) (XE X ρ H)
abbrev tT (X:Cx)(c:Te):TT:=λσ H Q=>∃ρ S τ,Rel X.K ρ H S/\SR X.K ρ H τ σ/\(c τ S).post (okB X ρ H Q) (XE X ρ H)
abbrev tL (X:Cx)(c:rT):TA:=λσ H Q=>∃ρ S τ,Rel X.K ρ H S/\SR X.K ρ H τ σ/\(c τ S).post (okL X ρ H Q) (XE X ρ H)
abbrev AE (X:Cx)(e:aE)(c:Ex):Prop:=PE X e<|tE X c
abbrev AT (X:Cx)(e:aE)(c:Te):Prop:=PT X e<|tT X c
abbrev AW (X:Cx)(e:aE)(c:Te):Prop:=PW X e<|tT X c
abbrev AL (X:Cx)(es:List aE)(c:rT):Prop:=PA X es<|tL X c
def PE.imp{X:Cx}{e:aE}{t t':TE}(h:PE X e t)(i:∀σ H Q,t' σ H Q->t σ H Q):PE X e t':=λai s σ H Q I q=>h ai s σ H Q I<|i σ H Q q
def PT.imp{X:Cx}{e:aE}{t t':TT}(h:PT X e t)(i:∀σ H Q,t' σ H Q->t σ H Q):PT X e t':=λai s σ H Q I q=>h ai s σ H Q I<|i σ H Q q
def PW.imp{X:Cx}{e:aE}{t t':TT}(h:PW X e t)(i:∀σ H Q,t' σ H Q->t σ H Q):PW X e t':=λw ai s σ H Q I q=>h w ai s σ H Q I<|i σ H Q q
def PA.imp{X:Cx}{e:List aE}{t t':TA}(h:PA X e t)(i:∀σ H Q,t' σ H Q->t σ H Q):PA X e t':=λp ai s σ H Q I q=>h p ai s σ H Q I<|i σ H Q q
def AW.at{X:Cx}{e:aE}{c:Te}(h:AW X e c):AT X e c:=h _
abbrev A.pU:A->Bool
 | .unb=>true
 | _=>false
abbrev jZ (i:Nat):Ex:=λτ S=>if (τ.getD i .unb).pU then .no else .ok (τ.getD i .unb) S
abbrev eC (a:A):Ex:=λ_ S=>.ok a S
section
variable {X:Cx}{pos:Pos}{a b:aE}
def jX(i:Nat){x:Str}(J:X.N[i]?=some x<|>ε)(hv:Vis X.env.scope x:=by first|exact Or.inl rfl|exact Or.inr (Or.inl rfl)|exact Or.inr<|Or.inr rfl)(U:(x == ("__debug__" : Str))=false:=by decide)
  (hcd:(x == ("__classdict__" : Str))=false:=by decide):AE X (.Name x pos) (jZ i):=PE.imp (Pb J hv U hcd) λσ H Q h9=>by
 room;unfold jZ at h
 cases hi:τ[i]? with
 | none=>
  rw[aI,hi]at h;exact h.elim
 | some x=>
  rw[aI,hi]at h
  rcases r.at i x hi with z|⟨v,e,q⟩
  ·subst z;exact h.elim
  ·refine⟨v,e,?_⟩
   cases x<;>first|(exact h ρ H v .refl R q)|exact h.elim
def kg{i:Int}{j pos}:AE X (.Constant (.int i) j pos) (eC<|.int i):=PE.imp XU λσ H Q ⟨ρ,S,τ,R,r,h⟩=>h ρ H _ .refl R<|.int i
def Lu{j pos}:AE X (.Constant (.bool i) j pos) (eC<|.bl i):=PE.imp acg λσ H Q ⟨ρ,S,τ,R,r,h⟩=>h ρ H _ .refl R<|.bl i
def O2{j pos}:AE X (.Constant .none j pos) (eC .non):=PE.imp X_ λσ H Q ⟨ρ,S,τ,R,r,h⟩=>h ρ H _ .refl R .non
def rO{x:Str}{j pos}:AE X (.Constant (.str x) j pos) (eC<|.str x):=PE.imp NR λσ H Q ⟨ρ,S,τ,R,r,h⟩=>h ρ H _ .refl R<|.str x
def uW{x:Str}{i:Int}{t:Tok}(J:X.mg x=some (.int i t))(hg:Gl X x<|>ε)(U:(x == ("__debug__" : Str))=false<|>δ):AE X (.Name x pos) (eC<|.int i):=
 PE.imp (DN (v:=.int i) hg J ⟨t,rfl⟩ U) λσ H Q ⟨ρ,S,τ,R,r,h⟩=>h ρ H _ .refl R<|.int i
abbrev ko (f:A->A->j5->R A)(ca cb:Ex):Ex:=λτ S=>(ca τ S).bind λa S1=>(cb τ S1).bind λb S2=>f a b S2
abbrev r2 (X:Cx)(f:A->A->j5->R A):R2:=λx y H Q=>∃ρ S a b,Rel X.K ρ H S/\AV X.K ρ H a x/\AV X.K ρ H b y/\(f a b S).post (zQ X ρ H Q) (XE X ρ H)
abbrev r1 (X:Cx)(f:A->j5->R A):V->Hp->VK->Prop:=λx H Q=>∃ρ S a,Rel X.K ρ H S/\AV X.K ρ H a x/\(f a S).post (zQ X ρ H Q) (XE X ρ H)
abbrev rN (X:Cx)(f:ae->j5->R A):List V->Hp->VK->Prop:=λxs H Q=>∃ρ S as,Rel X.K ρ H S/\AVs X.K ρ H as xs/\(f as S).post (zQ X ρ H Q) (XE X ρ H)
def qx.imp{f:af->af->Sem af}{r J:R2}(h:qx X f r)(i:∀x y H Q,J x y H Q->r x y H Q):qx X f J:=λai s σ H x y v u Q I rx ry q=>h ai s σ H x y v u Q I rx ry<|i _ _ _ _ q
def kR.imp{f:af}{r J:List V->Hp->VK->Prop}(h:kR X f r)(i:∀x H Q,J x H Q->r x H Q):kR X f J:=λai s σ H x v Q I rx q=>h ai s σ H x v Q I rx<|i _ _ _ q
def wB{f:A->A->j5->R A}{ca cb:Ex}{H:Hp}{Q:VK}(h:tE X (ko f ca cb) σ H Q):tOp (r2 X f) (tE X ca) (tE X cb) σ H Q:=by
 kln_w;refine⟨ρ,S,τ,R,r,j6 (kh h) .refl λa S1 h1 ρ1 H1 x e1 R1 v1=>⟨ρ1,S1,τ,R1,r.ext e1,j6 (kh h1) e1 λb S2 h2 ρ2 H2 y e2 R2 v2=>?_⟩⟩;exact⟨ρ2,S2,a,b,R2,v1.ext e2,v2,j6 h2 (e1.trans e2) λc S3 h3=>h3.ext<|e1.trans e2⟩
def kD{f:A->A->j5->R A}{ca cb:Ex}(J:qx X (binaryOp op)<|r2 X f)(ha:AE X a ca)(hb:AE X b cb):AE X (.BinOp a op b pos) (ko f ca cb):=
 PE.imp (ab1 J ha hb) λσ H Q h=>wB h
def IF{J:CmpOp}{f:A->A->j5->R A}{ca cb:Ex}(U:qx X (compareOp J)<|r2 X f)(ha:AE X a ca)(hb:AE X b cb)(Z:behindInMarks J b=false:=by first|exact O_ _|with_unfolding_all rfl):AE X (.Compare a [J] [b] pos) (ko f ca cb):=
 PE.imp (UP U ha hb Z) λσ H Q h=>wB h
abbrev A.U8:A->j5->bj
 | .non,_=>some false
 | .bl b,_=>some b
 | .int i,_=>some (i != 0)
 | .str x,_=>if x.length<=sizeLine then some ((x.length:Int) != 0)else none
 | .tup xs,_=>some (!xs.isEmpty)
 | .frz xs,_=>some (!xs.isEmpty)
 | .ref n,S=>(j4 S n).map λxs=>!xs.isEmpty
 | _,_=>none
abbrev rL (c:Ex):Te:=λτ S=>(c τ S).bind λa S1=>opt (a.U8 S1) λb=>.ok b S1
abbrev wK (c:Ex):Te:=λτ S=>(c τ S).bind λa S1=>match a with
 | .bl b=>.ok b S1
 | _=>.no
def Gv{K:au}{H:Hp}{b:Bool}{v:V}(h:AV K ρ H (.bl b) v):v=.bl b:=by cases h;rfl
def mh{J:CmpOp}{f:A->A->j5->R A}{ca cb:Ex}(U:qx X (compareOp J)<|r2 X f)(ha:AE X a ca)(hb:AE X b cb)(Z:behindInMarks J b=false:=by first|exact O_ _|with_unfolding_all rfl):AT X (.Compare a [J] [b] pos) (wK<|ko f ca cb):=
 PT.imp (Wr U ha hb Z) λσ H Q h9=>by
  room;refine wB ⟨ρ,S,τ,R,r,j6 (kh h) .refl λc S1 h1 ρ1 H1 x e1 R1 v1=>?_⟩
  cases c with
  | bl k=>cases Gv v1;exact⟨k,rfl,h1 ρ1 H1 e1 R1⟩
  | _=>exact h1.elim
def YK{K:au}{H:Hp}{x:A}{v:V}{b:Bool}(R:Rel K ρ H S)(h:AV K ρ H x v)(e:x.U8 S=some b):ZL K v H b:=by
 have d:∀{xs:ae} {vs:List V},AVs K ρ H xs vs->(!xs.isEmpty)=!vs.isEmpty:=λr=>by cases r<;>rfl
 cases h with
 | non=>exact(bB e).symm
 | bl b=>exact(bB e).symm
 | int i=>exact(bB e).symm
 | str x=>
  by_cases f:x.length<=sizeLine
  ·exact⟨f,by have:=(aO f).symm.trans e;exact(bB this).symm⟩
  ·have:=(aM f).symm.trans e;cases this
 | tup h r=>exact .inr (.inl ⟨_,qu.of h,by rw[<- d r];exact(bB e).symm⟩)
 | frz h r=>exact .inl ⟨_,h.Uc,by rw[<- d r];exact(bB e).symm⟩
 | rng h=>cases e
 | ty n=>cases e
 | exn n h x=>cases e
 | ktu h r=>cases e
 | @ref a n h=>
  have e:(j4 S n).map (λxs=>!xs.isEmpty)=some b:=e;obtain⟨xs,hn,e⟩:=bh.mp e;obtain⟨vs,h1,h2⟩:=R.lst h<|kI hn;exact .inl ⟨vs,qX.of h1,by rw[<- d h2];exact e.symm⟩
def qA{ca:Ex}(ha:AE X a ca)(J:(∀whole,isTrue a X.env whole=(do let v <- whole;standAt a.pos;holding [v] (truthy v)))<|>η):AT X a (rL ca):=
 PT.imp (PD ha J) λσ H Q ⟨ρ,S,τ,R,r,h⟩=>⟨ρ,S,τ,R,r,j6 (kh h) .refl λc S1 h1 ρ1 H1 x e1 R1 v1=>by
  obtain⟨b,hb,h1⟩:=kj h1;exact⟨b,YK R1 v1 hb,h1 ρ1 H1 e1 R1⟩⟩
abbrev Tt (c:Te):Te:=λτ S=>(c τ S).bind λb S1=>.ok (!b) S1
abbrev RP (c d:Te):Te:=λτ S=>(c τ S).bind λb S1=>match b with|true=>d τ S1|false=>.ok false S1
abbrev bOr (c d:Te):Te:=λτ S=>(c τ S).bind λb S1=>match b with|true=>.ok true S1|false=>d τ S1
def IA{c:Te}(h:AT X a c):AT X (.UnaryOp .Not a pos) (Tt c):=PT.imp (aaC h) λσ H Q ⟨ρ,S,τ,R,r,h⟩=>⟨ρ,S,τ,R,r,j6 (kh h) .refl λb S1 h1=>h1⟩
def and_imp{c d:Te}{H:Hp}{Q:Bool->Hp->Prop}(h:tT X (RP c d) σ H Q):abV (tT X c) (tT X d) σ H Q:=by
 kln_w;refine⟨ρ,S,τ,R,r,j6 (kh h) .refl λb S1 h1 ρ1 H1 e1 R1=>?_⟩
 cases b with
 | true=>
  rw[aO rfl];exact⟨ρ1,S1,τ,R1,r.ext e1,j6 h1 e1 λ_ _ z=>z.ext e1⟩
 | false=>
  rw[aM br];exact h1 ρ1 H1 e1 R1
def or_imp{c d:Te}{H:Hp}{Q:Bool->Hp->Prop}(h:tT X (bOr c d) σ H Q):tOr (tT X c) (tT X d) σ H Q:=by
 kln_w;refine⟨ρ,S,τ,R,r,j6 (kh h) .refl λb S1 h1 ρ1 H1 e1 R1=>?_⟩
 cases b with
 | false=>
  rw[aM br];exact⟨ρ1,S1,τ,R1,r.ext e1,j6 h1 e1 λ_ _ z=>z.ext e1⟩
 | true=>
  rw[aO rfl];exact h1 ρ1 H1 e1 R1
variable {rest:List aE}
def JS{c:Te}(h:AT X a c):AW X (.BoolOp .And [a] pos) c:=Vz h
def PV{c:Te}(h:AT X a c):AW X (.BoolOp .Or [a] pos) c:=Z4 h
def P6{c d:Te}(h:AT X a c)(h2:AW X (.BoolOp .And (b::rest) pos) d):AW X (.BoolOp .And (a::b::rest) pos) (RP c d):=PW.imp (Yn h h2) λ_ _ _ q=>and_imp q
def XD{c d:Te}(h:AT X a c)(h2:AW X (.BoolOp .Or (b::rest) pos) d):AW X (.BoolOp .Or (a::b::rest) pos) (bOr c d):=PW.imp (acm h h2) λ_ _ _ q=>or_imp q
abbrev RQ (c d:Ex):Ex:=λτ S=>(c τ S).bind λa S1=>match a with | .bl true=>d τ S1 | .bl false=>.ok (.bl false) S1|_=>.no
abbrev eOr (c d:Ex):Ex:=λτ S=>(c τ S).bind λa S1=>match a with | .bl true=>.ok (.bl true) S1 | .bl false=>d τ S1|_=>.no
abbrev UH (c:Ex):Ex:=λτ S=>(c τ S).bind λa S1=>match a with | .bl b=>.ok (.bl !b) S1|_=>.no
def RC{op}{c:Ex}(h:AE X a c):AE X (.BoolOp op [a] pos) c:=YM h
def TY{c d:Ex}(h:AE X a c)(h2:AE X (.BoolOp .And (b::rest) pos) d):AE X (.BoolOp .And (a::b::rest) pos) (RQ c d):=PE.imp (YW h h2) λσ H Q h9=>by
 room;refine⟨ρ,S,τ,R,r,j6 (kh h) .refl λb S1 h1 ρ1 H1 x e1 R1 v1=>?_⟩
 cases b with
 | bl k=>
  cases Gv v1
  refine⟨k,rfl,?_⟩
  cases k with
  | true=>
   rw[aO rfl];exact⟨ρ1,S1,τ,R1,r.ext e1,j6 h1 e1 λ_ _ z=>z.ext e1⟩
  | false=>
   rw[aM br];exact h1 ρ1 H1 _ e1 R1<|.bl false
 | _=>exact h1.elim
def Pg{c:Ex}(h:AE X a c):AE X (.UnaryOp .Not a pos) (UH c):=PE.imp (Zq h) λσ H Q h9=>by
 room;refine⟨ρ,S,τ,R,r,j6 (kh h) .refl λb S1 h1 ρ1 H1 x e1 R1 v1=>?_⟩
 cases b with
 | bl k=>
  cases Gv v1
  exact⟨k,rfl,h1 ρ1 H1 _ e1 R1<|.bl _⟩
 | _=>exact h1.elim
abbrev eIf (t:Te)(c d:Ex):Ex:=λτ S=>(t τ S).bind λb S1=>match b with|true=>c τ S1|false=>d τ S1
abbrev ki:rT:=λ_ S=>.ok [] S
abbrev jY (c:Ex)(d:rT):rT:=λτ S=>(c τ S).bind λa S1=>(d τ S1).bind λas S2=>.ok (a::as) S2
def kc:AL X [] ki:=PA.imp xg λσ H Q ⟨ρ,S,τ,R,r,h⟩=>h ρ H _ .refl R .nil
def j3{e:aE}{c:Ex}{d:rT}(ha:AE X e c)(J:AL X es d)(hs:starEach (e::es) X.env=(false,eval e X.env)::starEach es X.env<|>ε):AL X (e::es) (jY c d):=
 PA.imp (qP ha J hs) λσ H Q h9=>by
  room;refine⟨ρ,S,τ,R,r,j6 (kh h) .refl λa S1 h1 ρ1 H1 x e1 R1 v1=>⟨ρ1,S1,τ,R1,r.ext e1,j6 (kh h1) e1 λas S2 h2 ρ2 H2 xs e2 R2 v2=>?_⟩⟩;exact h2 ρ2 H2 _ (e1.trans e2) R2<|.cons (v1.ext e2) v2
abbrev rW (d:rT):Ex:=λτ S=>(d τ S).bind λas S1=>gd (as.length<=sizeLine)<|.ok (.tup as) S1
abbrev newL (as:ae)(S:j5):R A:=gd (as.length<=sizeLine)<|.ok (.ref S.length)<|S++[.lst as]
abbrev t9 (d:rT):Ex:=λτ S=>(d τ S).bind λas S1=>newL as S1
def vX{H H0:Hp}{Q:VK}(R:Rel X.K ρ H S)(r:AVs X.K ρ H as vs)(e:Ext ρ0 ρ H0 H)(h:zQ X ρ0 H0 Q (.tup as) S):∀p,H p=none->Q (.ref p) (upd H p<|.tup vs):=λp hp=>by
 obtain⟨ex,d⟩:=R.im (u:=.tup vs) hp;exact h ρ _ _ (e.trans ex) d<|.tup kP<|r.ext ex
def n_{H H0:Hp}{S:j5}{Q:VK}(R:Rel X.K ρ H S)(r:AVs X.K ρ H as vs)(e:Ext ρ0 ρ H0 H)(h:zQ X ρ0 H0 Q (.ref S.length)<|S++[.lst as]):∀p,H p=none->Q (.ref p) (upd H p<|.lst vs):=λp hp=>by
 obtain⟨ex,d,g⟩:=R.lay hp r;exact h _ _ _ (e.trans ex) d<|.ref g
def UN{H H0:Hp}{vs:List V}{Q:VK}(R:Rel X.K ρ H S)(r:AVs X.K ρ H as vs)(e:Ext ρ0 ρ H0 H)(h:(newL as S).post (zQ X ρ0 H0 Q)<|XE X ρ0 H0):vs.length<=sizeLine/\∀p,H p=none->Q (.ref p) (upd H p<|.lst vs):=by
 obtain⟨d,h⟩:=kO h;exact⟨by rw[<- r.length];exact d,n_ R r e h⟩
def rP{d:rT}{x1}(h:AL X es d):AE X (.Tuple es x1 pos) (rW d):=PE.imp (ZW h) λσ H Q h9=>by
 room;refine⟨ρ,S,τ,R,r,j6 (kh h) .refl λas S1 h1 ρ1 H1 xs e1 R1 v1=>?_⟩;obtain⟨f,h1⟩:=kO h1;exact⟨by rw[<- v1.length];exact f,vX R1 v1 e1 h1⟩
def nN{d:rT}(h:AL X es d):AE X (.List es pos) (t9 d):=PE.imp (ZA h) λσ H Q ⟨ρ,S,τ,R,r,h⟩=>
 ⟨ρ,S,τ,R,r,j6 (kh h) .refl λas S1 h1 ρ1 H1 xs e1 R1 v1=>UN R1 v1 e1 h1⟩
end
section
variable {X:Cx}{pos:Pos}{a b:aE}
abbrev aSub (a b:A)(S:j5):R A:=match a,b with
 | .int i,.int j=>.ok (.int<|i-j) S
 | _,_=>.no
def qj:qx X (binaryOp .Sub) (r2 X aSub):=qx.imp Y3 λx y H Q h9=>by
 z_go
 cases va<;>first|exact h.elim|(cases vb<;>first|exact h.elim|exact⟨_,_,rfl,rfl,h _ _ _ .refl R<|.int _⟩)
abbrev Fb (i j:Int):Bool:=(decide (-(2 ^ 64)<i) && decide (i<2 ^ 64)) || (decide (-(2 ^ 64)<j) && decide (j<2 ^ 64))
def mulOk_of{i j:Int}(h:Fb i j=true):Vw i j:=by
 unfold Fb at h;dsimp[Bool.or_eq_true,bZ,decide_eq_true_eq]at h;exact h
abbrev wG (a b:A)(S:j5):R A:=match a,b with
 | .int i,.int j=>gd (Fb i j) (.ok (.int<|i * j) S)
 | .ref n,.int k=>opt (j4 S n) λxs=>gd (-(2 ^ 63)<=k/\k<2 ^ 63/\xs.length * k.toNat<=sizeLine) (.ok (.ref S.length)<|S++[.lst (List.replicate k.toNat xs).flatten])
 | _,_=>.no
theorem AVs.rep{K:au}{H:Hp}(r:AVs K ρ H xs vs):∀k:Nat,AVs K ρ H (List.replicate k xs).flatten (List.replicate k vs).flatten
 | 0=>.nil
 | k+1=>by rw[dg,dg,d7,d7];exact r.append<|AVs.rep r k
def zx:qx X (binaryOp .Mult) (r2 X wG):=λai s σ H x y v u Q I rx ry h9=>by
 z_go
 cases va with
 | int i=>
  cases vb with
  | int j=>
   obtain⟨d,h⟩:=kO h;exact Yv ai s σ H _ _ v u Q I rx ry ⟨i,j,rfl,rfl,mulOk_of d,h _ _ _ .refl R<|.int _⟩
  | _=>exact h.elim
 | @ref p n hp=>
  cases vb with
  | int k=>
   kd_p;obtain⟨hc,h⟩:=kO h;obtain⟨vs,h1,h2⟩:=R.lst hp<|kI hn;exact YF ai s σ H _ _ v u Q I rx ry ⟨p,k,vs,rfl,rfl,h1,hc.1,hc.2.1,by rw[<- h2.length];exact hc.2.2,n_ R (h2.rep _) .refl h⟩
  | _=>exact h.elim
 | _=>exact h.elim
abbrev FQ (a b:A)(S:j5):R A:=match a,b with
 | .int i,.int j=>gd (0<j/\j<18446744073709551616) (.ok (.int<|i / j) S)
 | _,_=>.no
def IM:qx X (binaryOp .FloorDiv) (r2 X FQ):=qx.imp Rv λx y H Q h9=>by
 z_go
 cases va<;>first|exact h.elim|(cases vb<;>first|exact h.elim|exact⟨_,_,rfl,rfl,(kO h).1,(kO h).2 _ _ _ .refl R<|.int _⟩)
abbrev Dr (a b:A)(S:j5):R A:=match a,b with
 | .int i,.int j=>gd (0<j) (.ok (.int<|i % j) S)
 | _,_=>.no
def CB:qx X (binaryOp .Mod) (r2 X Dr):=qx.imp aaa λx y H Q h9=>by
 z_go
 cases va<;>first|exact h.elim|(cases vb<;>first|exact h.elim|exact⟨_,_,rfl,rfl,(kO h).1,(kO h).2 _ _ _ .refl R<|.int _⟩)
abbrev Z1 (a b:A)(S:j5):R A:=match a,b with
 | .int i,.int j=>gd (0<=j/\j<=1000000/\i.natAbs<2 ^ 64) (.ok (.int<|i ^ j.toNat) S)
 | _,_=>.no
def ab8:qx X (binaryOp .Pow) (r2 X Z1):=qx.imp Yk λx y H Q h9=>by
 z_go
 cases va<;>first|exact h.elim|(cases vb<;>first|exact h.elim|exact⟨_,_,rfl,rfl,(kO h).1,(kO h).2 _ _ _ .refl R<|.int _⟩)
abbrev oH (a b:A)(S:j5):R A:=match a,b with
 | .int i,.int j=>.ok (.int<|i+j) S
 | .tup xs,.tup ys=>gd (xs.length+ys.length<=sizeLine) (.ok (.tup<|xs++ys) S)
 | .str x,.str y=>gd (x.length+y.length<=sizeLine) (.ok (.str<|x++y) S)
 | .ref n,.ref m=>opt (j4 S n) λxs=>opt (j4 S m) λys=>gd (xs.length+ys.length<=sizeLine) (.ok (.ref S.length)<|S++[.lst<|xs++ys])
 | _,_=>.no
def AVs.nil_inv{K:au}{H:Hp}(r:AVs K ρ H xs vs):xs=[] ↔ vs=[]:=by cases r<;>simp
def pG:qx X (binaryOp .Add) (r2 X oH):=λai s σ H x y v u Q I rx ry h9=>by
 z_go
 cases va with
 | int i=>
  cases vb with
  | int j=>exact Za ai s σ H _ _ v u Q I rx ry ⟨i,j,rfl,rfl,h _ _ _ .refl R<|.int _⟩
  | _=>exact h.elim
 | str x=>
  cases vb with
  | str y=>
   obtain⟨hc,h⟩:=kO h;exact Ib ai s σ H _ _ v u Q I rx ry ⟨x,y,rfl,rfl,hc,h _ _ _ .refl R<|.str _⟩
  | _=>exact h.elim
 | @tup p xs vs h1 r1=>
  cases vb with
  | @tup q ys d h2 r2=>
   obtain⟨hc,h⟩:=kO h;by_cases hv:vs=[]
   ·have B:=r1.nil_inv.mpr hv;subst hv B;exact NX ai s σ H _ _ v u Q I rx ry ⟨p,q,d,rfl,rfl,qu.of h1,qu.of h2,h _ _ _ .refl R<|.tup h2 r2⟩
   ·refine UZ ai s σ H _ _ v u Q I rx ry ⟨p,q,vs,d,rfl,rfl,qu.of h1,qu.of h2,hv,by rw[<- r1.length,<- r2.length];exact hc,λe=>?_,λ_=>vX R (r1.append r2) .refl h⟩;have hy:=r2.nil_inv.mpr e;subst hy;rw[bR]at h;exact h _ _ _ .refl R<|.tup h1 r1
  | _=>exact h.elim
 | @ref p n hp=>
  cases vb with
  | @ref q m g=>
   kd_p;obtain⟨ys,k,h⟩:=kj h;obtain⟨hc,h⟩:=kO h;obtain⟨vs,h1,h2⟩:=R.lst hp<|kI hn;obtain⟨d,h3,f⟩:=R.lst g<|kI k;exact Zp ai s σ H _ _ v u Q I rx ry ⟨p,q,vs,d,rfl,rfl,h1,h3,by rw[<- h2.length,<- f.length];exact hc,n_ R (h2.append f) .refl h⟩
  | _=>exact h.elim
 | _=>exact h.elim
abbrev A.ints:ae->Option (ag)
 | []=>some []
 | .int i::xs=>(A.ints xs).map (i::·)
 | _=>none
def Zf{x:A}{bs:ag}(e:A.ints (x::xs)=some bs):∃b cs,x=.int b/\A.ints xs=some cs/\bs=b::cs:=by
 unfold A.ints at e;split at e
 ·rename_i z;cases z
 ·rename_i i ys z
  cases z
  obtain⟨cs,h1,h2⟩:=bh.mp e;exact⟨i,cs,rfl,h1,h2.symm⟩
 ·cases e
def wj{K:au}{H:Hp}:∀{xs:ae}{vs:List V}{bs:ag},AVs K ρ H xs vs->A.ints xs=some bs->vs=bs.map V.int:=by
 intro xs
 induction xs with
 | nil=>
  intro vs bs h e
  cases h
  cases e
  rfl
 | cons x xs d=>
  intro vs bs h e;obtain⟨b,cs,rfl,e1,rfl⟩:=Zf e
  cases h with
  | cons h t=>
   cases h
   rw[d t e1];rfl
abbrev Hu (a b:A)(S:j5):R A:=match a,b with
 | .int i,.int j=>.ok (.bl<|decide<|i<j) S
 | _,_=>.no
def Nc(J:X.A.units+64<cLine):qx X (compareOp .Lt) (r2 X Hu):=λai s σ H x y v u Q I rx ry h9=>by
 z_go
 cases va with
 | int i=>
  cases vb with
  | int j=>exact abo ai s σ H _ _ v u Q I rx ry ⟨i,j,rfl,rfl,h _ _ _ .refl R<|.bl _⟩
  | _=>exact h.elim
 | _=>exact h.elim
abbrev aLe (a b:A)(S:j5):R A:=match a,b with
 | .int i,.int j=>.ok (.bl<|decide<|i<=j) S
 | _,_=>.no
def Z8:qx X (compareOp .LtE) (r2 X aLe):=qx.imp abd λx y H Q h9=>by
 z_go
 cases va<;>first|exact h.elim|(cases vb<;>first|exact h.elim|exact⟨_,_,rfl,rfl,h _ _ _ .refl R<|.bl _⟩)
abbrev Hi (a b:A)(S:j5):R A:=match a,b with
 | .int i,.int j=>.ok (.bl<|decide<|j<i) S
 | _,_=>.no
def BW(J:X.A.units+64<cLine):qx X (compareOp .Gt) (r2 X Hi):=λai s σ H x y v u Q I rx ry h9=>by
 z_go
 cases va with
 | int i=>
  cases vb with
  | int j=>exact acr ai s σ H _ _ v u Q I rx ry ⟨i,j,rfl,rfl,h _ _ _ .refl R<|.bl _⟩
  | _=>exact h.elim
 | _=>exact h.elim
abbrev aGe (a b:A)(S:j5):R A:=match a,b with
 | .int i,.int j=>.ok (.bl<|decide<|j<=i) S
 | _,_=>.no
abbrev M_ (J:Bool)(a b:A)(S:j5):R A:=match a,b with
 | .bl i,.bl j=>.ok (.bl<|if J then i != j else i == j) S
 | .non,.non=>.ok (.bl<|!J) S
 | .unb,.non=>.no
 | .exn _,.non=>.no
 | _,.non=>.ok (.bl J) S
 | _,_=>.no
def YQ{n:Bool}{a b:A}(h1:b≠.non)(h2:∀j,b≠.bl j):M_ n a b S=.no:=by
 unfold M_;split<;>first|rfl|exact absurd rfl h1|exact absurd rfl<|h2 _
def ZC{n:Bool}{a b:A}{F:A->j5->Prop}{G:Str->j5->Prop}(h:(M_ n a b S).post F G)(h1:b≠.non)(h2:∀j,b≠.bl j):False:=by
 rw[YQ h1 h2]at h;exact h
def adB:qx X (compareOp .Is) (r2 X<|M_ false):=λai s σ H x y v u Q I rx ry h9=>by
 z_go
 cases vb with
 | non=>
  refine Yx ai s σ H _ _ v u Q I rx ry ⟨rfl,?_⟩
  cases va<;>first|exact h _ _ _ .refl R (.bl _)|exact h.elim
 | bl j=>
  cases va with
  | bl i=>exact aaA ai s σ H _ _ v u Q I rx ry ⟨i,j,rfl,rfl,h _ _ _ .refl R<|.bl _⟩
  | _=>exact h.elim
 | _=>
  exact(ZC h (λz=>nomatch z) nofun).elim
abbrev eUn (f:A->j5->R A)(c:Ex):Ex:=λτ S=>(c τ S).bind λa S1=>f a S1
abbrev OL (a:A)(S:j5):R A:=match a with
 | .int i=>.ok (.int<|-i) S
 | _=>.no
def aa7:UnR X (unaryOp .USub) (r1 X OL):=λai s σ H x v Q I rx h9=>by
 obtain⟨ρ,S,a,R,va,h⟩:=h9
 cases va with
 | int i=>exact aaz ai s σ H _ v Q I rx ⟨i,rfl,h _ _ _ .refl R<|.int _⟩
 | _=>exact h.elim
def XT{f:A->j5->R A}{c:Ex}{H:Hp}{Q:VK}(h:tE X (eUn f c) σ H Q):tUn (r1 X f) (tE X c) σ H Q:=by
 kln_w;exact⟨ρ,S,τ,R,r,j6 (kh h) .refl λa S1 h1 ρ1 H1 x e1 R1 v1=>⟨ρ1,S1,a,R1,v1,j6 h1 e1 λc S3 h3=>h3.ext e1⟩⟩
def Zx{c:Ex}(h:AE X a c):AE X (.UnaryOp .USub a pos) (eUn OL c):=PE.imp (abZ aa7 h) λ_ _ _ q=>XT q
abbrev qk (a b:A)(S:j5):R A:=match a,b with
 | .tup xs,.int i=>opt (rF xs i) λx=>.ok x S
 | .frz xs,.int i=>opt (rF xs i) λx=>.ok x S
 | .ref n,.int i=>opt (j4 S n) λxs=>opt (rF xs i) λx=>.ok x S
 | .str z,.int i=>gd (z.length<=sizeLine) (opt (rF z.cps.toList i) λc=>.ok (.str ⟨#[c]⟩) S)
 | _,_=>.no
def AVs.rF{K:au}{H:Hp}{i:Int}{x:A}(r:AVs K ρ H xs vs)(h:L2.rF xs i=some x):∃v,L2.rF vs i=some v/\AV K ρ H x v:=by
 unfold L2.rF at h ⊢;rw[<- r.length]
 cases d:B9 xs.length i with
 | none=>rw[d]at h;cases h
 | some j=>
  rw[d]at h;exact r.get h
def abz:Xi X (r2 X qk):=λf d ai s σ H x y v u Q I rx ry ⟨ρ,S,a,b,R,va,vb,h⟩ hs=>by
 cases va with
 | @tup p xs vs h1 r1=>
  cases vb with
  | int i=>
   obtain⟨x,g,h⟩:=kj h;obtain⟨z,e,q⟩:=r1.rF g;exact Zj f d ai s σ H _ _ v u Q I rx ry ⟨p,vs,i,z,rfl,rfl,qu.of h1,e,h _ _ _ .refl R q⟩ hs
  | _=>exact h.elim
 | @frz p xs vs h1 r1=>
  cases vb with
  | int i=>
   obtain⟨x,g,h⟩:=kj h;obtain⟨z,e,q⟩:=r1.rF g;exact Lx f d ai s σ H _ _ v u Q I rx ry ⟨p,vs,i,z,rfl,rfl,h1.Uc,e,h _ _ _ .refl R q⟩ hs
  | _=>exact h.elim
 | @ref p n hp=>
  cases vb with
  | int i=>
   kd_p;obtain⟨x,g,h⟩:=kj h;obtain⟨vs,h1,r1⟩:=R.lst hp<|kI hn;obtain⟨z,e,q⟩:=r1.rF g;exact Lx f d ai s σ H _ _ v u Q I rx ry ⟨p,vs,i,z,rfl,rfl,qX.of h1,e,h _ _ _ .refl R q⟩ hs
  | _=>exact h.elim
 | str z=>
  cases vb with
  | int i=>
   obtain⟨j,h⟩:=kO h;obtain⟨c,hc,h⟩:=kj h;exact aak f d ai s σ H _ _ v u Q I rx ry ⟨z,i,c,rfl,rfl,j,hc,h _ _ _ .refl R<|.str _⟩ hs
  | _=>exact h.elim
 | _=>exact h.elim
def lZ{ca cb:Ex}(ha:AE X a ca)(hb:AE X b cb)(hs:Aj b<|>ι):AE X (.Subscript a b pos) (ko qk ca cb):=PE.imp (Qq abz ha hb hs) λσ H Q h=>wB h
end
abbrev ab_ (f:A->A->bj)(xs ys:ae):bj:=match ys with
 | []=>some xs.isEmpty
 | _=>none
abbrev W7 (S:j5):Nat->A->A->bj
 | _,.int i,.int j=>some (i == j)
 | _,.bl i,.bl j=>some (i == j)
 | _,.str i,.str j=>some (i == j)
 | _,.ref n,.ref m=>(j4 S n).bind λxs=>(j4 S m).bind λys=>ab_ (λ_ _=>none) xs ys
 | _,_,_=>none
def SD{a:A}{k:Bool}(e:W7 S 12 a b=some k):(∃i j,a=.int i/\b=.int j/\k=(i == j))\/(∃i j,a=.bl i/\b=.bl j/\k=(i == j))\/(∃i j,a=.str i/\b=.str j/\k=(i == j))\/∃n m xs,a=.ref n/\b=.ref m/\j4 S n=some xs/\j4 S m=some []/\k=xs.isEmpty:=by
 unfold W7 at e;split at e
 ·cases e;exact .inl ⟨_,_,rfl,rfl,rfl⟩
 ·cases e;exact .inr (.inl ⟨_,_,rfl,rfl,rfl⟩)
 ·cases e;exact .inr (.inr<|.inl ⟨_,_,rfl,rfl,rfl⟩)
 ·obtain⟨xs,h1,e⟩:=cZ.mp e;obtain⟨ys,h2,e⟩:=cZ.mp e
  cases ys with
  | nil=>cases e;exact .inr (.inr<|.inr ⟨_,_,xs,rfl,rfl,h1,h2,rfl⟩)
  | cons=>cases e
 ·cases e
section
variable {X:Cx}
abbrev Hh (J:Bool)(a b:A)(S:j5):R A:=opt (W7 S 12 a b) λk=>.ok (.bl<|if J then !k else k) S
def Z2{H:Hp}{s:aC}{n:Nat}{xs:ae}{x:V}{v:af}(I:Inv X ai σ H s)(R:Rel X.K ρ H S)(va:AV X.K ρ H (.ref n) x)(vb:AV X.K ρ H (.ref m) y)(rx:RelV x v)(ry:RelV y u)(h:j4 S n=some xs)(h':j4 S m=some []) :
  ∃p q us,v=.ref p/\u=.ref q/\s.heap.IsList p us/\s.heap.IsList q #[]/\us.size=xs.length:=by
 cases va with
 | ref hp=>cases vb with
  | ref f=>
   obtain⟨k,h1,r⟩:=R.lst hp<|kI h;obtain⟨d,h2,g⟩:=R.lst f (kI h')
   cases g
   cases rx
   cases ry
   obtain⟨us,r1,p1,_⟩:=I.list<|.inl<|.inl h1;obtain⟨j,r2,p2,_⟩:=I.list (.inl<|.inl h2)
   cases r2
   exact⟨_,_,us.toArray,rfl,rfl,p1.isList,p2.isList,by rw[bf,<- r1.length,<- r.length]⟩
def MW(J:X.A.units+64<cLine):qx X (compareOp .NotEq) (r2 X<|Hh true):=λai s σ H x y v u Q I rx ry h9=>by
 z_go;obtain⟨k,e,h⟩:=kj h;have h:=h _ _ _ .refl R (.bl _)
 rcases SD e with⟨i,j,rfl,rfl,rfl⟩|⟨i,j,rfl,rfl,rfl⟩|⟨i,j,rfl,rfl,rfl⟩|⟨n,m,xs,rfl,rfl,B,f,rfl⟩
 ·cases va;cases vb;ksr_p;obtain⟨g,rfl⟩:=ry;exact ne_int ⟨.bl _,H,I,rfl,h⟩
 ·cases va;cases vb;cases rx;cases ry;exact ne_bool ⟨.bl _,H,I,rfl,h⟩
 ·cases va;cases vb;ksr_p;obtain⟨g,rfl⟩:=ry;exact SeqAt.RcNeAt.str_str _ _ _ _ _ _ _ _ ⟨.bl _,H,I,rfl,h⟩
 ·obtain⟨p,q,us,rfl,rfl,p1,p2,d⟩:=Z2 I R va vb rx ry B f
  cases xs with
  | nil=>exact SeqAt.RcNeAt.lists p1 p2 d (by omega) (e:=λ_=>true) (λj C=>absurd C<|by rw[d];exact fh _) _ _ _ _ (by rw[d];exact⟨.bl _,H,I,rfl,h⟩)
  | cons z zs=>exact SeqAt.RcNeAt.lists_lengths p1 p2 (by rw[d];simp) (by omega) _ _ _ _ ⟨.bl _,H,I,rfl,h⟩
end
section
variable {X:Cx}{pos:Pos}{a b:aE}
meta abbrev Pt:=ae->j5->R (bi)
abbrev aaV:Pt:=λ_ S=>.ok none S
abbrev CV (c:Ex):Pt:=λτ S=>(c τ S).bind λa S1=>match a with
 | .int i=>.ok (some i) S1
 | _=>.no
abbrev tO (X:Cx)(c:Pt):TO:=λσ H Q=>∃ρ S τ,Rel X.K ρ H S/\SR X.K ρ H τ σ/\(c τ S).post (λo d=>∀ρ' H',Ext ρ ρ' H H'->Rel X.K ρ' H' d->Q o H') (XE X ρ H)
abbrev AO (X:Cx)(e:Option aE)(c:Pt):Prop:=PO X e<|tO X c
def Jx{c:Ex}(ha:AE X a c):AO X (some a) (CV c):=λai s σ H Q I ⟨ρ,S,τ,R,r,h⟩=>Wa ha ai s σ H Q I ⟨ρ,S,τ,R,r,j6 (kh h) .refl λx S1 h1 ρ1 H1 v e1 R1 v1=>by
 cases v1<;>first|exact h1.elim|exact⟨_,rfl,h1 ρ1 H1 e1 R1⟩⟩
abbrev Eg (xs:ae)(lo hi:bi):ae:=(xs.drop<|HT.pI xs.length 0 lo).take<|HT.pI xs.length xs.length hi-HT.pI xs.length 0 lo
def AVs.cut{K:au}{H:Hp}(r:AVs K ρ H xs vs)(lo hi:bi):AVs K ρ H (Eg xs lo hi) (Ge vs lo hi):=by
 unfold Eg Ge;rw[r.length];exact(r.drop _).take _
abbrev aSl (a:A)(lo hi:bi)(S:j5):R A:=match a with
 | .ref n=>opt (j4 S n) λxs=>.ok (.ref S.length) (S++[.lst<|Eg xs lo hi])
 | .frz xs=>.ok (.ref S.length) (S++[.lst<|Eg xs lo hi])
 | .tup xs=>gd (¬(HT.pI xs.length 0 lo=0/\HT.pI xs.length xs.length hi=xs.length)) (.ok (.tup<|Eg xs lo hi) S)
 | _=>.no
abbrev eSl (c:Ex)(lo hi:Pt):Ex:=λτ S=>(c τ S).bind λa S1=>(lo τ S1).bind λl S2=>(hi τ S2).bind λu S3=>aSl a l u S3
abbrev rS (X:Cx):V->bi->bi->Hp->VK->Prop:=λx lo hi H Q=>∃ρ S a,Rel X.K ρ H S/\AV X.K ρ H a x/\(aSl a lo hi S).post (zQ X ρ H Q) (XE X ρ H)
def ZR:SlR X (rS X):=λai s σ H x v d g lo hi f Q I rx hs pl j h9=>by
 obtain⟨ρ,S,a,R,va,h⟩:=h9
 cases va with
 | @tup p xs vs h1 r1=>
  obtain⟨hc,h⟩:=kO h;exact Yz ai s σ H _ v d g lo hi f Q I rx hs pl j ⟨p,vs,rfl,(qu.of h1),by rw[<- r1.length];exact hc,vX R (r1.cut lo hi) .refl h⟩
 | @frz p xs vs h1 r1=>exact J9 ai s σ H _ v d g lo hi f Q I rx hs pl j ⟨p,vs,rfl,h1.Uc,n_ R (r1.cut lo hi) .refl h⟩
 | @ref p n hp=>
  kd_p;obtain⟨vs,h1,r1⟩:=R.lst hp<|kI hn;exact J9 ai s σ H _ v d g lo hi f Q I rx hs pl j ⟨p,vs,rfl,qX.of h1,n_ R (r1.cut lo hi) .refl h⟩
 | _=>exact h.elim
def abJ{e:aE}{lo:Option aE}{c:Ex}{cl ch:Pt}(J:AE X e c)(U:AO X lo cl)(hh:AO X hi ch):AE X (.Subscript e (.Slice lo hi none p2) pos) (eSl c cl ch):=PE.imp (OV ZR J U hh) λσ H Q h9=>by
 room;refine⟨ρ,S,τ,R,r,j6 (kh h) .refl λa S1 h1 ρ1 H1 x e1 R1 v1=>⟨ρ1,S1,τ,R1,r.ext e1,j6 (kh h1) e1 λl S2 h2 ρ2 H2 e2 R2=>⟨ρ2,S2,τ,R2,r.ext<|e1.trans e2,j6 (kh h2) (e1.trans e2) λu S3 h3 ρ3 H3 e3 R3=>?_⟩⟩⟩;exact⟨ρ3,S3,a,R3,v1.ext<|e2.trans e3,j6 h3 (e1.trans<|e2.trans e3) λ_ _ z=>z.ext<|e1.trans<|e2.trans e3⟩
abbrev aba (a:A)(S:j5):R A:=match a with
 | .ref n=>opt (j4 S n) λxs=>.ok (.ref S.length) (S++[.lst xs.reverse])
 | .tup xs=>.ok (.tup xs.reverse) S
 | _=>.no
abbrev kK (f:ae->j5->R A)(d:rT):Ex:=λτ S=>(d τ S).bind λas S1=>f as S1
def GJ{f:ae->j5->R A}{d:rT}{H:Hp}{Q:VK}(h:tE X (kK f d) σ H Q):tCB (rN X f) (tL X d) σ H Q:=by
 kln_w;exact⟨ρ,S,τ,R,r,j6 (kh h) .refl λas S1 h1 ρ1 H1 vs e1 R1 v1=>⟨ρ1,S1,as,R1,v1,j6 h1 e1 λ_ _ z=>z.ext e1⟩⟩
variable {x:Str}{p:Pos}{e:aE}{es:List aE}{id T:String}{f:ae->j5->R A}{d:rT}
def kC(hc:kR X (.builtin id)<|rN X f)(Z:X.mg x=none)(hv:bootBuiltins x=some (.builtin id))(ha:AL X (e::es) d)(hg:Gl X x<|>ε)(hn:x ≠ "__name__"<|>δ)(J:(x == ("__debug__" : Str))=false<|>δ)
  (he:starEach (e::es) X.env=(false,eval e X.env)::starEach es X.env<|>ε) (U:((backTo pos<|starEach es X.env).any (·.1)=false)<|>ε):AE X (.Call (.Name x p) (e::es) [] pos) (kK f d):=
 PE.imp (Gp hc hg Z hv ha hn J he U) λ_ _ _ h=>GJ h
def nB(hc:kR X (.type T)<|rN X f)(Z:X.mg x=none)(hv:bootBuiltins x=some (.type T))(ha:AL X (e::es) d)(hg:Gl X x<|>ε)(hn:x ≠ "__name__"<|>δ)(J:(x == ("__debug__" : Str))=false<|>δ)
  (he:starEach (e::es) X.env=(false,eval e X.env)::starEach es X.env<|>ε) (U:((backTo pos<|starEach es X.env).any (·.1)=false)<|>ε):AE X (.Call (.Name x p) (e::es) [] pos) (kK f d):=
 PE.imp (Nq hc hg Z hv ha hn J he U) λ_ _ _ h=>GJ h
def WY(U:X.mg x=none)(hv:bootBuiltins x=some (.type T))(hg:Gl X x<|>ε)(hn:x ≠ "__name__"<|>δ)(J:(x == ("__debug__" : Str))=false<|>δ):AE X (.Name x pos) (eC<|.ty T):=
 PE.imp (JW (v:=.ty T) hg U hv rfl hn J) λσ H Q ⟨ρ,S,τ,R,r,h⟩=>h ρ H _ .refl R<|.ty T
abbrev A.seq (S:j5):A->Option (ae)
 | .tup xs=>some xs
 | .frz xs=>some xs
 | .ref n=>j4 S n
 | _=>none
def Sf{K:au}{H:Hp}{x:A}{v:V}(R:Rel K ρ H S)(h:AV K ρ H x v)(e:x.seq S=some xs):∃p vs,v=.ref p/\(qX K H p vs\/qu K H p vs)/\AVs K ρ H xs vs:=by
 cases h with
 | tup h r=>cases bB e;exact⟨_,_,rfl,.inr<|qu.of h,r⟩
 | frz h r=>cases bB e;exact⟨_,_,rfl,.inl h.Uc,r⟩
 | ref h=>
  obtain⟨vs,h1,r1⟩:=R.lst h<|kI e;exact⟨_,vs,rfl,.inl<|qX.of h1,r1⟩
 | _=>cases e
def Um{K:au}{H:Hp}{x:A}(h:AVs K ρ H [x] vs):∃v,vs=[v]/\AV K ρ H x v:=by
 cases h with
 | cons h t=>cases t;exact⟨_,rfl,h⟩
def Zu{K:au}{H:Hp}{x:A}(h:AVs K ρ H [x,y] vs):∃v w,vs=[v,w]/\AV K ρ H x v/\AV K ρ H y w:=by
 cases h with
 | cons h t=>obtain⟨w,rfl,h'⟩:=Um t;exact⟨_,_,rfl,h,h'⟩
abbrev f1 (g:A->j5->R A):ae->j5->R A:=λas S=>match as with
 | [x]=>g x S
 | _=>.no
abbrev f2 (g:A->A->j5->R A):ae->j5->R A:=λas S=>match as with
 | [x,y]=>g x y S
 | _=>.no
def UI{g:A->j5->R A}{P:A->j5->Prop}{E:Str->j5->Prop}(h:(f1 g as S).post P E):∃x,as=[x]/\(g x S).post P E:=by
 match as,h with
 | [],h=>exact h.elim
 | [x],h=>exact⟨x,rfl,h⟩
 | _::_::_,h=>exact h.elim
def VT{g:A->A->j5->R A}{P:A->j5->Prop}{E:Str->j5->Prop}(h:(f2 g as S).post P E):∃x y,as=[x,y]/\(g x y S).post P E:=by
 match as,h with
 | [],h=>exact h.elim
 | [_],h=>exact h.elim
 | [x,y],h=>exact⟨x,y,rfl,h⟩
 | _::_::_::_,h=>exact h.elim
def My{g:A->j5->R A}{H:Hp}{Q:VK}(h:rN X (f1 g) vs H Q):∃v,vs=[v]/\∃ρ S x,Rel X.K ρ H S/\AV X.K ρ H x v/\(g x S).post (zQ X ρ H Q) (XE X ρ H):=by
 obtain⟨ρ,S,as,R,v,h⟩:=h;obtain⟨x,rfl,h⟩:=UI h;obtain⟨w,rfl,hv⟩:=Um v;exact⟨w,rfl,ρ,S,x,R,hv,h⟩
def rn2{g:A->A->j5->R A}{H:Hp}{Q:VK}(h:rN X (f2 g) vs H Q):∃v w,vs=[v,w]/\∃ρ S x y,Rel X.K ρ H S/\AV X.K ρ H x v/\AV X.K ρ H y w/\(g x y S).post (zQ X ρ H Q) (XE X ρ H):=by
 obtain⟨ρ,S,as,R,v,h⟩:=h;obtain⟨x,y,rfl,h⟩:=VT h;obtain⟨w,f,rfl,hv,d⟩:=Zu v;exact⟨w,f,rfl,ρ,S,x,y,R,hv,d,h⟩
abbrev nM (x:A)(S:j5):R A:=match x with
 | .str x=>gd (x.length<=sizeLine) (.ok (.int x.length) S)
 | .tup xs=>.ok (.int xs.length) S
 | .frz xs=>.ok (.int xs.length) S
 | .ref n=>opt (j4 S n) λxs=>.ok (.int xs.length) S
 | _=>.no
def nE:kR X (.builtin "len") (rN X<|f1 nM):=kR.imp Rq λvs H Q h0=>by
 k_ne;clear h0
 cases hv with
 | str z=>
  obtain⟨d,h⟩:=kO h;exact⟨_,_,rfl,⟨d,rfl⟩,h _ _ _ .refl R<|.int _⟩
 | @tup p xs us h1 r=>exact⟨_,us.length,rfl,.inr ⟨us,(qu.of h1),rfl⟩,by rw[<- r.length];exact h _ _ _ .refl R<|.int _⟩
 | @frz p xs us h1 r=>exact⟨_,us.length,rfl,.inl ⟨us,h1.Uc,rfl⟩,by rw[<- r.length];exact h _ _ _ .refl R<|.int _⟩
 | ref hp=>
  kd_p;obtain⟨us,h1,r⟩:=R.lst hp<|kI hn;exact⟨_,us.length,rfl,.inl ⟨us,qX.of h1,rfl⟩,by rw[<- r.length];exact h _ _ _ .refl R<|.int _⟩
 | _=>exact h.elim
abbrev Yu (x:A)(S:j5):R A:=match x with
 | .int i=>.ok (.int<|if i<0 then -i else i) S
 | _=>.no
def abr:kR X (.builtin "abs") (rN X<|f1 Yu):=kR.imp SA λvs H Q h0=>by
 k_ne;clear h0
 cases hv<;>first|exact h.elim|exact⟨_,rfl,h _ _ _ .refl R<|.int _⟩
abbrev Lb (x y:A)(S:j5):R A:=match x,y with
 | .int i,.int j=>.ok (.int<|if j>i then j else i) S
 | _,_=>.no
def RW(hc:X.calm=true):kR X (.builtin "max") (rN X<|f2 Lb):=kR.imp (MS hc) λvs H Q h0=>by
 obtain⟨w,f,rfl,ρ,S,x,y,R,hv,d,h⟩:=rn2 h0;clear h0
 cases hv<;>first|exact h.elim|(cases d<;>first|exact h.elim|exact⟨_,_,rfl,h _ _ _ .refl R<|.int _⟩)
abbrev K6 (x y:A)(S:j5):R A:=match x,y with
 | .int i,.int j=>.ok (.int<|if j<i then j else i) S
 | _,_=>.no
def OJ(hc:X.calm=true):kR X (.builtin "min") (rN X<|f2 K6):=kR.imp (Mu hc) λvs H Q h0=>by
 obtain⟨w,f,rfl,ρ,S,x,y,R,hv,d,h⟩:=rn2 h0;clear h0
 cases hv<;>first|exact h.elim|(cases d<;>first|exact h.elim|exact⟨_,_,rfl,h _ _ _ .refl R<|.int _⟩)
abbrev Fx (x:A)(S:j5):R A:=match x with
 | .int i=>.ok (.int i) S
 | .bl k=>.ok (.int<|if k then 1 else 0) S
 | .str y=>opt (PySem.intText? y) λn=>gd (y.length<=640) (.ok (.int n) S)
 | _=>.no
def PU:kR X (.type "int") (rN X<|f1 Fx):=λai s σ H xs us Q I d h0=>by
 k_ne;clear h0
 cases hv with
 | int i=>exact CA ai s σ H _ us Q I d (.inl ⟨i,rfl,h _ _ _ .refl R<|.int _⟩)
 | bl k=>exact CA ai s σ H _ us Q I d (.inr ⟨k,rfl,h _ _ _ .refl R<|.int _⟩)
 | str y=>
  obtain⟨n,hn,h⟩:=kj h;obtain⟨f,h⟩:=kO h;exact Ml ai s σ H _ us Q I d ⟨y,n,rfl,f,hn,h _ _ _ .refl R<|.int _⟩
 | _=>exact h.elim
abbrev zS (x y:A)(S:j5):R A:=match x,y with
 | .int i,.int j=>.ok (.rng i j) S
 | _,_=>.no
def Gu:kR X (.type "range") (rN X<|f2 zS):=kR.imp DF λvs H Q h0=>by
 obtain⟨w,g,rfl,ρ,S,x,y,R,hv,d,h⟩:=rn2 h0;clear h0
 cases hv with
 | int i=>
  cases d with
  | int j=>
   refine⟨i,j,rfl,λp hp=>?_⟩;obtain⟨ex,f⟩:=R.im (u:=.rng i j) hp;exact h ρ _ _ ex f<|.rng kP
  | _=>exact h.elim
 | _=>exact h.elim
abbrev Bt (i j:Int):Prop:=(-(2 ^ 62)<=i/\i<2 ^ 62/\-(2 ^ 62)<=j/\j<2 ^ 62)/\(j-i).toNat<=1000
instance (i j:Int):Decidable (Bt i j):=by unfold Bt;infer_instance
abbrev zh (x:A)(S:j5):R A:=match x with
 | .rng i j=>gd (Bt i j) (.ok (.ref S.length)<|S++[.lst<|(lE i j).map .int])
 | .tup xs=>.ok (.ref S.length) (S++[.lst xs])
 | .frz xs=>.ok (.ref S.length) (S++[.lst xs])
 | .ref n=>opt (j4 S n) λxs=>.ok (.ref S.length) (S++[.lst xs])
 | _=>.no
def HD(hc:X.calm=true):kR X (.type "list") (rN X<|f1 zh):=λai s σ H vs us Q I rx h0=>by
 k_ne;clear h0
 cases hv with
 | @rng p i j hp=>
  obtain⟨d,h⟩:=kO h;exact Cj hc ai s σ H _ us Q I rx ⟨p,i,j,rfl,hp,d.1,d.2,n_ R (qi _) .refl h⟩
 | @tup p xs vs h1 r=>exact ug ai s σ H _ us Q I rx ⟨p,vs,rfl,.inr<|qu.of h1,n_ R r .refl h⟩
 | @frz p xs vs h1 r=>exact ug ai s σ H _ us Q I rx ⟨p,vs,rfl,.inl h1.Uc,n_ R r .refl h⟩
 | @ref p n hp=>
  kd_p;obtain⟨vs,h1,r⟩:=R.lst hp<|kI hn;exact ug ai s σ H _ us Q I rx ⟨p,vs,rfl,.inl<|qX.of h1,n_ R r .refl h⟩
 | _=>exact h.elim
abbrev ve (x:A)(S:j5):R A:=match x with
 | .rng i j=>gd (Bt i j) (.ok (.tup<|(lE i j).map .int) S)
 | .tup xs=>.ok (.tup xs) S
 | .frz xs=>.ok (.tup xs) S
 | .ref n=>opt (j4 S n) λxs=>.ok (.tup xs) S
 | _=>.no
def DO(hc:X.calm=true):kR X (.type "tuple") (rN X<|f1 ve):=λai s σ H vs us Q I rx h0=>by
 k_ne;clear h0
 cases hv with
 | @rng p i j hp=>
  obtain⟨d,h⟩:=kO h;exact BI hc ai s σ H _ us Q I rx ⟨p,i,j,rfl,hp,d.1,d.2,vX R (qi _) .refl h⟩
 | @tup p xs vs h1 r=>exact sY ai s σ H _ us Q I rx ⟨p,vs,rfl,.inr ⟨(qu.of h1),h _ _ _ .refl R<|.tup h1 r⟩⟩
 | @frz p xs vs h1 r=>exact sY ai s σ H _ us Q I rx ⟨p,vs,rfl,.inl ⟨h1.Uc,vX R r .refl h⟩⟩
 | @ref p n hp=>
  kd_p;obtain⟨vs,h1,r⟩:=R.lst hp<|kI hn;exact sY ai s σ H _ us Q I rx ⟨p,vs,rfl,.inl ⟨qX.of h1,vX R r .refl h⟩⟩
 | _=>exact h.elim
abbrev A.Ue:ae->Option (List Bool)
 | []=>some []
 | .bl b::xs=>(A.Ue xs).map (b::·)
 | _=>none
theorem Sv{K:au}{H:Hp}:∀{xs:ae}{vs:List V}{bs:List Bool},AVs K ρ H xs vs->A.Ue xs=some bs->vs=bs.map V.bl
 | _,_,_,.nil,e=>by cases e;rfl
 | x::xs,_,bs,.cons h t,e=>by
  cases x with
  | bl b=>
   obtain⟨cs,e1,rfl⟩:=bh.mp (show(A.Ue xs).map (b::·)=some bs from e)
   cases h
   rw[Sv t e1];rfl
  | _=>cases e
abbrev Y5 (x:A)(S:j5):R A:=match x with
 | .ref n=>opt (j4 S n) λxs=>opt (A.Ue xs) λbs=>.ok (.bl<|bs.any λb=>b) S
 | _=>.no
def ach(hc:X.calm=true):kR X (.builtin "any") (rN X<|f1 Y5):=kR.imp (Mq hc) λvs H Q h0=>by
 k_ne;clear h0
 cases hv with
 | @ref p n hp=>
  kd_p;obtain⟨bs,hb,h⟩:=kj h;obtain⟨vs,h1,r⟩:=R.lst hp<|kI hn;rw[Sv r hb]at h1;exact⟨p,bs,rfl,qX.of h1,h _ _ _ .refl R<|.bl _⟩
 | _=>exact h.elim
abbrev maxOf:ag->bi
 | []=>none
 | [x]=>some x
 | x::xs=>(maxOf xs).map λm=>if m>x then m else x
theorem BH:∀{ns:ag}{m:Int},maxOf ns=some m->m∈ns/\∀a∈ns,a<=m
 | [],_,e=>nomatch e
 | [x],m,e=>by cases e;exact⟨aR,λa h=>by rw[bg]at h;lia⟩
 | x::y::xs,m,e=>by
  obtain⟨f,e1,rfl⟩:=bh.mp<|show(maxOf (y::xs)).map (λm=>if m>x then m else x)=some m from e;obtain⟨h1,h2⟩:=BH e1;by_cases d:f>x
  ·rw[aO d];exact⟨aS _ h1,λa h=>(bG.mp h).elim (λz=>())<|h2 a⟩
  ·rw[aM d];exact⟨aR,λa h=>(bG.mp h).elim (λz=>()) λz=>by have:=h2 a z;lia⟩
abbrev N2 (x:A)(S:j5):R A:=match x with
 | .ref n=>opt (j4 S n) λxs=>opt (A.ints xs) λns=>opt (maxOf ns) λm=>.ok (.int m) S
 | _=>.no
def XM(hc:X.calm=true):kR X (.builtin "max") (rN X<|f1 N2):=kR.imp (MZ hc) λvs H Q h0=>by
 k_ne;clear h0
 cases hv with
 | @ref p n hp=>
  kd_p;obtain⟨ns,hb,h⟩:=kj h;obtain⟨m,f,h⟩:=kj h;obtain⟨vs,h1,r⟩:=R.lst hp<|kI hn;rw[wj r hb]at h1;obtain⟨d,g2⟩:=BH f;refine⟨p,ns,rfl,qX.of h1,iJ d,λM g j=>?_⟩;have:M=m:=jQ (g2 M g)<|j m d;rw[this];exact h _ _ _ .refl R<|.int _
 | _=>exact h.elim
abbrev insI (x:Int):ag->ag
 | []=>[x]
 | y::ys=>if x<=y then x::y::ys else y::insI x ys
abbrev sortI:ag->ag
 | []=>[]
 | x::xs=>insI x<|sortI xs
theorem insI_perm(x:Int):∀ys:ag,(insI x ys).Perm (x::ys)
 | []=>fV _
 | y::ys=>by
  unfold insI;by_cases h:x<=y
  ·rw[aO h]
  ·rw[aM h];exact((insI_perm x ys).cons y).trans (List.Perm.swap x y ys)
theorem sortI_perm:∀xs:ag,(sortI xs).Perm xs
 | []=>fV _
 | x::xs=>(insI_perm x<|sortI xs).trans<|(sortI_perm xs).cons x
theorem Ld(x:Int):∀ys:ag,ys.Pairwise (·<=·)->(insI x ys).Pairwise (·<=·)
 | [],_=>cR _ _
 | y::ys,h=>by
  unfold insI;obtain⟨h1,h2⟩:=bX.mp h;by_cases f:x<=y
  ·rw[aO f];exact bX.mpr ⟨λz d=>(bG.mp d).elim (λe=>e ▸ f) λd=>Int.le_trans f<|h1 z d,h⟩
  ·rw[aM f];refine bX.mpr ⟨λz d=>?_,Ld x ys h2⟩
   rcases bG.mp ((insI_perm x ys).mem_iff.mp d)with e|d
   ·subst e;lia
   ·exact h1 z d
theorem xK:∀xs:ag,(sortI xs).Pairwise (·<=·)
 | []=>List.Pairwise.nil
 | x::xs=>Ld x _<|xK xs
abbrev QM (x:A)(S:j5):R A:=opt (x.seq S) λxs=>opt (A.ints xs) λns=>gd (ns.length<64)<|.ok (.ref S.length)<|S++[.lst<|(sortI ns).map .int]
def Vb:kR X (.builtin "sorted") (rN X<|f1 QM):=kR.imp DH λvs H Q h0=>by
 k_ne;clear h0;kd_p;obtain⟨ns,hb,h⟩:=kj h;obtain⟨g,h⟩:=kO h;obtain⟨p,us,rfl,hs,r⟩:=Sf R hv hn;rw[wj r hb]at hs;refine⟨p,ns,rfl,hs,g,λl f d hp hw=>?_⟩;have:f=sortI ns:=Mc (hp.trans (sortI_perm ns).symm) hw<|xK ns;rw[this];exact n_ R (qi _) .refl h l d
abbrev A.kd:A->j5->Option Kd
 | .non,_=>some .non
 | .bl _,_=>some .bl
 | .int _,_=>some .int
 | .str _,_=>some .str
 | .tup _,_=>some .tup
 | .ref n,S=>(j4 S n).map λ_=>.lst
 | _,_=>none
def VR{K:au}(k:Kd):kitOne K k.ty (.type "str")=some (decide<|k=.str):=by cases k<;>rfl
abbrev Ny (k:Kd)(c:String):bj:=if c = "int" then some (decide<|k=.int\/k=.bl)else if c = "bool" then some (decide<|k=.bl)else if c = "tuple" then some (decide<|k=.tup)else if c = "list" then some (decide<|k=.lst)else if c = "str" then some (decide<|k=.str)else none
def KZ{K:au}{k:Kd}{c:String}{b:Bool}(h:Ny k c=some b):kitOne K k.ty (.type c)=some b:=by
 unfold Ny at h;split at h
 ·rename_i e;subst e;rw[<- h];exact VY k
 ·split at h
  ·rename_i e;subst e;rw[<- h];exact P5 k
  ·split at h
   ·rename_i e;subst e;rw[<- h];exact kit_tuple k
   ·split at h
    ·rename_i e;subst e;rw[<- h];exact Pe k
    ·split at h
     ·rename_i e;subst e;rw[<- h];exact VR k
     ·cases h
abbrev UW (x y:A)(S:j5):R A:=match y with
 | .ty c=>opt (x.kd S) λk=>opt (Ny k c) λb=>.ok (.bl b) S
 | _=>.no
def abw{K:au}{H:Hp}{x:A}{v:V}{k:Kd}(R:Rel K ρ H S)(h:AV K ρ H x v)(e:x.kd S=some k):(∃p vs,v=.ref p/\qu K H p vs/\k=.tup)\/X5 H v k:=by
 cases h with
 | non=>cases e;exact .inr rfl
 | bl b=>cases e;exact .inr ⟨b,rfl⟩
 | int i=>cases e;exact .inr ⟨i,rfl⟩
 | str i=>cases e;exact .inr ⟨i,rfl⟩
 | tup h r=>cases e;exact .inl ⟨_,_,rfl,(qu.of h),rfl⟩
 | ref h=>
  obtain⟨xs,e1,e2⟩:=bh.mp e;obtain⟨vs,h1,_⟩:=R.lst h (kI e1)
  cases e2
  exact .inr ⟨_,vs,rfl,h1⟩
 | _=>cases e
def WM:kR X (.builtin "isinstance") (rN X<|f2 UW):=λai s σ H vs us Q I rx h0=>by
 obtain⟨w,K,rfl,ρ,S,x,y,R,hv,f,h⟩:=rn2 h0;clear h0
 cases f with
 | ty c=>
  obtain⟨k,j,h⟩:=kj h;obtain⟨b,hb,d⟩:=kj h;have d:zQ X ρ H Q (.bl b) S:=d;clear h
  rcases abw R hv j with⟨p,vs,rfl,g,rfl⟩|B
  ·obtain⟨J,C,rfl,r1,r2⟩:=vals2 rx;obtain⟨m,q,⟨o,h1,h2,_⟩,_⟩:=I.tuple g
   cases(show _=Value.ref p from r1)
   cases(show _=Value.type c from r2)
   exact cN PySem.W.kitx_tuple I.AH ⟨o,h1,h2⟩ (KZ hb) (λz=>nomatch z) λG=>⟨.bl b,H,I.tok _,rfl,d _ _ _ .refl R<|.bl _⟩
  ·exact G7 (c:=c) ai s σ H _ us Q I rx ⟨w,_,b,rfl,B.ac_,KZ hb,d _ _ _ .refl R<|.bl _⟩
 | _=>exact h.elim
end
abbrev Ms (x:ag):List (ag)->List (ag)
 | []=>[x]
 | y::ys=>if HT.lexLt y x=true then y::Ms x ys else x::y::ys
abbrev mw:List (ag)->List (ag)
 | []=>[]
 | x::xs=>Ms x<|mw xs
abbrev E3 (a b:ag):Prop:=HT.lexLt b a=false
def E3.trans{a c:ag}(h1:E3 a b)(h2:E3 b c):E3 a c:=by
 unfold E3 at *
 cases e:HT.lexLt c a with
 | false=>rfl
 | true=>
  rcases Sx.KJ (b:=b) e with z|z
  ·rw[h2]at z;cases z
  ·rw[h1]at z;cases z
theorem yT(x:ag):∀ys:List<|ag,(Ms x ys).Perm (x::ys)
 | []=>fV _
 | y::ys=>by
  unfold Ms;by_cases h:HT.lexLt y x=true
  ·rw[aO h];exact((yT x ys).cons y).trans (List.Perm.swap x y ys)
  ·rw[aM h]
theorem lA:∀xs:List<|ag,(mw xs).Perm xs
 | []=>fV _
 | x::xs=>(yT x<|mw xs).trans<|(lA xs).cons x
theorem Kg(x:ag):∀ys:List<|ag,ys.Pairwise E3->(Ms x ys).Pairwise E3
 | [],_=>cR _ _
 | y::ys,h=>by
  unfold Ms;obtain⟨h1,h2⟩:=bX.mp h;by_cases g:HT.lexLt y x=true
  ·rw[aO g];refine bX.mpr ⟨λz d=>?_,Kg x ys h2⟩
   rcases bG.mp ((yT x ys).mem_iff.mp d)with e|d
   ·subst e;unfold E3
    cases e:HT.lexLt z y with
    | false=>rfl
    | true=>have:=Sx.Bj g e;rw[Sx.vQ]at this;cases this
   ·exact h1 z d
  ·rw[aM g];have f:E3 x y:=by unfold E3;simpa using g
   exact bX.mpr ⟨λz d=>(bG.mp d).elim (λe=>e ▸ f) λd=>f.trans<|h1 z d,h⟩
theorem AY:∀xs:List<|ag,(mw xs).Pairwise E3
 | []=>List.Pairwise.nil
 | x::xs=>Kg x _<|AY xs
def Bx{xs:List<|ag}(p:xs.Perm ys)(h:xs.Pairwise E3):xs=mw ys:=
 fG (λa b _ _ h1 h2=>(Sx.zK h1 h2).symm) h (AY ys) (p.trans (lA ys).symm)
theorem pig:∀(N:Nat) (l:am),l.Nodup->(∀x∈l,x<N)->l.length<=N
 | 0,l,_,h=>by
  cases l with
  | nil=>exact aP _
  | cons a l=>exact absurd (h a<|aR ..)<|fh _
 | N+1,l,nd,h=>by
  have h1:=pig N (l.erase N) (nd.erase N) λx d=>by
   have:=h x<|List.mem_of_mem_erase d;have:x≠N:=λz=>by
    subst z;exact(List.Nodup.not_mem_erase nd) d
   lia
  have:=List.le_length_erase (l:=l) (a:=N)
  lia
def AD{N:Nat}{g:Nat->Nat}(h:∀i,i<N->g i<N)(inj:∀i j,i<j->j<N->g i≠g j):((List.range N).map g).Perm (List.range N):=by
 have nd:((List.range N).map g).Nodup:=by
  unfold List.Nodup;rw[dc];intro i j hi k f;rw[aK,cF]at hi k;rw[eK,eK,eT,eT];exact inj i j f k
 have lt:∀x∈(List.range N).map g,x<N:=λx d=>by
  obtain⟨i,hi,rfl⟩:=bC.mp d;exact h i<|cE.mp hi
 refine(gA nd List.nodup_range).mpr λa=>⟨λha=>cE.mpr<|lt a ha,λha=>?_⟩;refine eY λhn=>?_;have:=pig N (a::(List.range N).map g) (dB.mpr ⟨hn,nd⟩) λx d=>by
  rcases bG.mp d with rfl|d
  ·exact cE.mp ha
  ·exact lt x d
 rw[bH,aK,cF]at this
 lia
def range_getD{α:Type}(l:List α)(d:α):(List.range l.length).map (λi=>l.getD i d)=l:=by
 apply dj;intro i;rw[aQ];by_cases c:i<l.length
 ·rw[cK c];show some (l.getD i d)=_;rw[aI,aH c];rfl
 ·rw[cj<|by rw[cF];lia,cj ()];rfl
def N_{J:List<|ag}{g:Nat->Nat}(c:Sx.Cl g 0 J.length)(U:Sx.So (Sx.MU J) g 0 J.length):(List.range J.length).map (λi=>J.getD (g i) [])=mw J:=by
 refine Bx ?_ ?_
 ·have p:=AD (N:=J.length) (g:=g) (λi hi=>(c i (b7 _) hi).2) λi j d f z=>by
   have:=U i j (b7 _) d f;rw[z]at this;exact this.RB
  have:=p.map λi=>J.getD i [];rw[bF,range_getD]at this;exact this
 ·rw[dc];intro i j hi f d;rw[aK,cF]at hi f;rw[eK,eK,eT,eT];exact(U i j (b7 _) d f).ge
abbrev tsA:ae->Option (List<|ag)
 | []=>some []
 | .tup xs::r=>match A.ints xs with
  | some (k::ks)=>(tsA r).map λrs=>(k::ks)::rs
  | _=>none
 | _=>none
theorem Xr{K:au}{H:Hp}:∀{xs:ae}{vs:List V}{b4:List<|ag},AVs K ρ H xs vs->tsA xs=some b4 ->
  ∃rs:bb,vs=rs.map V.ref/\rs.length=b4.length/\∀(i:Nat) (r:ak) (ks:ag),rs[i]?=some r->b4[i]?=some ks->qu K H r (ks.map V.int)/\ks≠[]/\AV K ρ H (.tup<|ks.map .int) (.ref r)
 | [],_,_,.nil,e=>by cases e;exact⟨[],rfl,rfl,λi r ks h=>by simp at h⟩
 | x::xs,_,b4,.cons h t,e=>by
  cases h with
  | tup h r=>
   rename_i a ys us;unfold tsA at e
   cases e1:A.ints ys with
   | none=>rw[e1]at e;cases e
   | some ks=>
    rw[e1]at e
    cases ks with
    | nil=>cases e
    | cons k ks=>
     obtain⟨f,e2,rfl⟩:=bh.mp e;obtain⟨rs,rfl,g,j⟩:=Xr t e2;have p:=wj r e1;subst p;refine⟨a::rs,rfl,by rw[bH,bH,g],λi m d h1 h2=>?_⟩
     cases i with
     | zero=>
      cases h1
      cases h2
      exact⟨qu.of h,(λz=>nomatch z),.tup h<|qi _⟩
     | succ i=>exact j i m d (by simpa using h1)<|by simpa using h2
  | _=>cases e
theorem EW{K:au}{H:Hp}{α:Type}{f:α->A}{h:α->V}:∀{l:List α},(∀a∈l,AV K ρ H (f a)<|h a)->AVs K ρ H (l.map f) (l.map h)
 | [],_=>.nil
 | a::l,e=>.cons (e a<|aR ..)<|EW λb hb=>e b<|aS _ hb
section
variable {X:Cx}
abbrev DJ (n:Nat)(S:j5):R A:=opt (j4 S n) λxs=>opt (tsA xs) λd=>.ok (.ref S.length)<|S++[.lst<|(mw d).map λks=>.tup<|ks.map .int]
abbrev XR (x:A)(S:j5):R A:=match x with
 | .ref n=>DJ n S
 | _=>.no
abbrev isT (x:A)(S:j5):Bool:=match x with
 | .ref n=>match j4 S n with
  | some (.tup _::_)=>true
  | _=>false
 | _=>false
abbrev yo (x:A)(S:j5):R A:=match isT x S with
 | false=>QM x S
 | true=>match x with
  | .ref n=>DJ n S
  | _=>.no
def V5:kR X (.builtin "sorted") (rN X<|f1 XR):=kR.imp DE λvs H Q h0=>by
 k_ne;clear h0
 cases hv with
 | ref hp=>
  rename_i p n;kd_p;obtain⟨d,hb,h⟩:=kj h;obtain⟨us,h1,r⟩:=R.lst hp<|kI hn;obtain⟨rs,rfl,k,j⟩:=Xr r hb;refine⟨p,rs,d,rfl,qX.of h1,Sx.Hq _,k,λi r ks e1 e2=>⟨(j i r ks e1 e2).1,(j i r ks e1 e2).2.1⟩,λl g f hc hs=>?_⟩;have m:AVs X.K ρ H ((mw d).map λks=>.tup<|ks.map .int) (((List.range d.length).map λi=>rs.getD (g i) 0).map V.ref):=by
   rw[<- N_ hc hs,bF,bF];refine EW λi hi=>?_;have lt:=(hc i (b7 _)<|cE.mp hi).2;have e1:rs[g i]?=some (rs.getD (g i) 0):=by rw[aI,aH ()];rfl
   have e2:d[g i]?=some (d.getD (g i) []):=by rw[aI,aH lt];rfl
   exact(j _ _ _ e1 e2).2.2
  exact n_ R m .refl h l f
 | _=>exact h.elim
def QC:kR X (.builtin "sorted") (rN X<|f1 yo):=λai s σ H xs us Q I r h=>by
 obtain⟨w,rfl,ρ,S,x,R,hv,h⟩:=My h;unfold yo at h
 cases e:isT x S with
 | false=>
  rw[e]at h;exact Vb ai s σ H _ us Q I r ⟨ρ,S,[x],R,.cons hv .nil,h⟩
 | true=>
  rw[e]at h;exact V5 ai s σ H _ us Q I r ⟨ρ,S,[x],R,.cons hv .nil,h⟩
end
abbrev RS.post (r:RS)(N:ae->j5->Prop)(T:A->j5->Prop)(B C:ae->j5->Prop)(E:Str->j5->Prop):Prop:=match r with
 | .nx τ S=>N τ S
 | .rt a S=>T a S
 | .bk τ S=>B τ S
 | .ct τ S=>C τ S
 | .ex c S=>E c S
 | .no=>False
abbrev RS.of {α:Type}(r:R α)(f:α->j5->RS):RS:=match r with
 | .ok a S=>f a S
 | .ex c S=>.ex c S
 | .no=>.no
def of_post{α:Type}{r:R α}{f:α->j5->RS}{N B C:ae->j5->Prop}{T:A->j5->Prop}{E:Str->j5->Prop}(h:(RS.of r f).post N T B C E):r.post (λa S=>(f a S).post N T B C E) E:=by
 cases r<;>exact h
def RS.mono{r:RS}{N B C N' J U:ae->j5->Prop}{T Z:A->j5->Prop}{E E':Str->j5->Prop}(h:r.post N T B C E)(hn:∀τ S,N τ S->N' τ S)(ht:∀a S,T a S->Z a S)(hb:∀τ S,B τ S->J τ S)(hc:∀τ S,C τ S->U τ S)(he:∀c S,E c S->E' c S):r.post N' Z J U E':=by
 cases r with
 | nx τ S=>exact hn _ _ h
 | rt a S=>exact ht _ _ h
 | bk τ S=>exact hb _ _ h
 | ct τ S=>exact hc _ _ h
 | ex c S=>exact he _ _ h
 | no=>exact h.elim
abbrev JF (X:Cx)(ρ:bb)(H:Hp)(N:L2.St->Hp->Prop):ae->j5->Prop:=λf g=>∀ρ' H' d,Ext ρ ρ' H H'->Rel X.K ρ' H' g->SR X.K ρ' H' f d->N d H'
def JF.ext{X:Cx}{H H':Hp}{N:L2.St->Hp->Prop}(h:JF X ρ H N τ S)(e:Ext ρ ρ' H H'):JF X ρ' H' N τ S:=λρ2 H2 d e2=>h ρ2 H2 d<|e.trans e2
abbrev zI (X:Cx)(ρ:bb)(H:Hp)(D:Ends)(r:RS):Prop:=r.post (JF X ρ H D.nx) (zQ X ρ H D.rt) (JF X ρ H D.bk) (JF X ρ H D.ct)<|XE X ρ H
def zI.ext{X:Cx}{H H':Hp}{D:Ends}{r:RS}(h:zI X ρ H D r)(e:Ext ρ ρ' H H'):zI X ρ' H' D r:=RS.mono h (λ_ _ z=>z.ext e) (λ_ _ z=>z.ext e) (λ_ _ z=>z.ext e) (λ_ _ z=>z.ext e) λ_ _ z=>z.ext e
abbrev tS (X:Cx)(c:Sm):TS:=λD σ H=>∃ρ S τ,Rel X.K ρ H S/\SR X.K ρ H τ σ/\zI X ρ H D (c τ S)
abbrev AS (X:Cx)(st:aF)(c:Sm):Prop:=PS X st<|tS X c
abbrev MC (X:Cx)(J:List aF)(c:Sm):Prop:=Cg X J<|tS X c
abbrev tG (X:Cx)(g:Tg):TG:=λv σ H Q=>∃ρ S τ a,Rel X.K ρ H S/\SR X.K ρ H τ σ/\AV X.K ρ H a v/\(g a τ S).post (JF X ρ H Q) (XE X ρ H)
abbrev AG (X:Cx)(e:aE)(g:Tg):Prop:=PG X e<|tG X g
meta abbrev Ud:=ae->ae->j5->R (ae)
abbrev tGs (X:Cx)(g:Ud):Xg:=λvs σ H Q=>∃ρ S τ as,Rel X.K ρ H S/\SR X.K ρ H τ σ/\AVs X.K ρ H as vs/\(g as τ S).post (JF X ρ H Q) (XE X ρ H)
abbrev AGs (X:Cx)(es:List aE)(g:Ud):Prop:=PGs X es<|tGs X g
section
variable {X:Cx}{pos:Pos}{a b e:aE}{st:aF}{rest:List aF}{c d:Sm}
def PS.imp{t t':TS}(h:PS X st t)(i:∀D σ H,t' D σ H->t D σ H):PS X st t':=λai s σ H D I q=>h ai s σ H D I<|i D σ H q
def Cg.imp{t t':TS}(h:Cg X rest t)(i:∀D σ H,t' D σ H->t D σ H):Cg X rest t':=λai s σ H D I q=>h ai s σ H D I<|i D σ H q
def PG.imp{t t':TG}(h:PG X e t)(i:∀v σ H Q,t' v σ H Q->t v σ H Q):PG X e t':=λai s σ H v u Q I r q=>h ai s σ H v u Q I r<|i _ _ _ _ q
abbrev k_ (i:Nat):Tg:=λa τ S=>.ok (τ.set i a) S
def kJ{i:Nat}{x:Str}(J:X.N.Nodup)(hi:X.N[i]?=some x<|>ε)(U:Loc X.env.scope x:=by first|exact Or.inl rfl|exact Or.inr rfl)(hf:X.fn x=true\/X.env.scope.names.lookup x=some .local<|>γ):AG X (.Name x pos) (k_ i):=
 PG.imp (Ls J hi U hf) λv σ H Q ⟨ρ,S,τ,a,R,r,va,h⟩=>h ρ H _ .refl R<|r.set va
abbrev wJ:Ud:=λas τ S=>match as with
 | []=>.ok τ S
 | _=>.no
abbrev oR (g:Tg)(gs:Ud):Ud:=λas τ S=>match as with
 | a::as=>(g a τ S).bind λd S1=>gs as d S1
 | []=>.no
def nO:AGs X [] wJ:=λai s σ H vs us Q I r ⟨ρ,S,τ,as,R,d,va,h⟩=>VQ ai s σ H vs us Q I r (by
 cases va with
 | nil=>exact⟨rfl,h ρ H σ .refl R d⟩
 | cons _ _=>exact h.elim)
def kQ{g:Tg}{gs:Ud}(h1:AG X e g)(h2:AGs X es gs)(hs:(assignEach (e::es) X.env).map (·.2)=assign e X.env::(assignEach es X.env).map (·.2)<|>ε):AGs X (e::es) (oR g gs):=
 λai s σ H vs us Q I r ⟨ρ,S,τ,as,R,j,va,h⟩=>RM h1 h2 hs ai s σ H vs us Q I r (by
  cases va with
  | nil=>exact h.elim
  | cons ha m=>exact⟨_,_,rfl,ρ,S,τ,_,R,j,ha,j6 (kh h) .refl λf S1 h1 ρ1 H1 k e1 R1 d=>⟨ρ1,S1,f,_,R1,d,m.ext e1,j6 h1 e1 λ_ _ z=>z.ext e1⟩⟩)
abbrev wH (n:Nat)(gs:Ud):Tg:=λa τ S=>match a with
 | .tup xs | .ktu xs=>gd (xs.length=n) (gs xs τ S)
 | _=>.no
def pO{k n:Nat}{gs:Ud}(hc:X.calm=true)(h:AGs X es gs)(hn:(assignEach es X.env).length=n<|>ε)(J:(assignEach es X.env).findIdx? (·.1)=none<|>ε):AG X (.Tuple es k pos) (wH n gs):=
 PG.imp (Z7 hc h hn J) λv σ H Q h9=>by
  obtain⟨ρ,S,τ,a,R,r,va,h⟩:=h9
  cases va with
  | tup h1 r1=>
   obtain⟨d,h⟩:=kO h;exact⟨_,_,rfl,qu.of h1,by rw[<- r1.length];exact d,ρ,S,τ,_,R,r,r1,h⟩
  | ktu h1 r1=>
   obtain⟨d,h⟩:=kO h;exact⟨_,_,rfl,.inr h1,by rw[<- r1.length];exact d,ρ,S,τ,_,R,r,r1,h⟩
  | _=>exact h.elim
abbrev FH (o i v:A)(S:j5):R Unit:=match o,i with
 | .ref n,.int k=>opt (j4 S n) λxs=>opt (B9 xs.length k) λj=>.ok Unit.unit (S.set n<|.lst<|xs.set j v)
 | _,_=>.no
abbrev rSt (X:Cx):Fg:=λo i v H Q=>∃ρ S d f g,Rel X.K ρ H S/\AV X.K ρ H d o/\AV X.K ρ H f i/\AV X.K ρ H g v/\(FH d f g S).post (λ_ j=>∀ρ' H',Ext ρ ρ' H H'->Rel X.K ρ' H' j->Q H') (XE X ρ H)
def Me:HJ X (rSt X):=λai s σ H o i v B iv u Q I d g f h9=>by
 obtain⟨ρ,S,G,J,C,R,h1,h2,h3,h⟩:=h9
 cases h1 with
 | @ref p n hp=>
  cases h2 with
  | int k=>
   kd_p;obtain⟨j,q,h⟩:=kj h;obtain⟨vs,e,r⟩:=R.lst hp<|kI hn;obtain⟨ex,m⟩:=R.put hp (kI hn)<|r.set h3 j;exact set_list ai s σ H _ _ v B iv u Q I d g f ⟨p,vs,k,j,rfl,rfl,e,by rw[<- r.length];exact q,h _ _ ex m⟩
  | _=>exact h.elim
 | _=>exact h.elim
abbrev gSb (co J:Ex):Tg:=λa τ S=>(co τ S).bind λo S1=>(J τ S1).bind λi S2=>(FH o i a S2).bind λ_ S3=>.ok τ S3
def D9{co J:Ex}(U:AE X o co)(hi:AE X i J)
  (ha:(∀v,assign (.Subscript o i pos) X.env v=(do
   let ov <- holding [v] (eval o X.env)
   let iv <- holding [v,ov] (eval i X.env)
   standAt pos
   holding [v,ov,iv] (setItem ov iv v)
   release [v,ov,iv] []))<|>η):AG X (.Subscript o i pos) (gSb co J):=PG.imp (Ih U hi Me ha) λv σ H Q h9=>by
 obtain⟨ρ,S,τ,a,R,r,va,h⟩:=h9;gp_on;kcj_m;f_are
abbrev qZ:Sm:=λτ S=>.nx τ S
abbrev kZ (c d:Sm):Sm:=λτ S=>match c τ S with
 | .nx f g=>d f g
 | r=>r
def lK:MC X [] qZ:=Cg.imp Vj λD σ H ⟨ρ,S,τ,R,r,h⟩=>h ρ H σ .refl R r
def UD{D:Ends}{H:Hp}(h:tS X (kZ c d) D σ H):abG (tS X c) (tS X d) D σ H:=by
 kln_w;refine⟨ρ,S,τ,R,r,?_⟩;unfold kZ at h
 cases hc:c τ S with
 | nx f S1=>
  rw[hc]at h;exact λρ1 H1 g e1 R1 r1=>⟨ρ1,S1,f,R1,r1,zI.ext h e1⟩
 | rt a S1=>rw[hc]at h;exact h
 | bk f S1=>rw[hc]at h;exact h
 | ct f S1=>rw[hc]at h;exact h
 | ex x S1=>rw[hc]at h;exact h
 | no=>rw[hc]at h;exact h
def j9(h1:AS X st c)(h2:MC X rest d):MC X (st::rest) (kZ c d):=Cg.imp (QK h1 h2) λD σ H h=>UD h
def j7(h1:AS X st c):MC X [st] c:=VX h1
abbrev X3:Sm:=λτ S=>.bk τ S
abbrev abS:Sm:=λτ S=>.ct τ S
abbrev qL (e:Ex):Sm:=λτ S=>.of (e τ S) λ_ S1=>.nx τ S1
def oQ{f:Ex}(J:AE X e f)(hs:swapsWith e none pos.line X.env=pure false<|>ε):AS X (.Expr e pos) (qL f):=PS.imp (Vv J hs) λD σ H ⟨ρ,S,τ,R,r,h⟩=>
 ⟨ρ,S,τ,R,r,j6 (of_post h) .refl λa S1 h1 ρ1 H1 x e1 R1 v1=>h1 ρ1 H1 σ e1 R1<|r.ext e1⟩
abbrev lY (e:Ex):Sm:=λτ S=>.of (e τ S) λa S1=>.rt a S1
def kN{f:Ex}(J:AE X e f):AS X (.Return (some e) pos) (lY f):=PS.imp (Zn J) λD σ H ⟨ρ,S,τ,R,r,h⟩=>⟨ρ,S,τ,R,r,j6 (of_post h) .refl λa S1 h1=>h1⟩
abbrev Pn:Sm:=λτ S=>.rt .non S
def V1:AS X (.Return none pos) Pn:=PS.imp UQ λD σ H ⟨ρ,S,τ,R,r,h⟩=>h ρ H _ .refl R .non
abbrev zR (t:Te)(c d:Sm):Sm:=λτ S=>.of (t τ S) λb S1=>match b with|true=>c τ S1|false=>d τ S1
def ow{t:Te}(J:AT X e t)(ha:MC X ca c)(hb:MC X cb d):AS X (.If e ca cb pos) (zR t c d):=PS.imp (aaZ J ha hb) λD σ H h9=>by
 room;refine⟨ρ,S,τ,R,r,j6 (of_post h) .refl λb S1 h1 ρ1 H1 e1 R1=>?_⟩
 cases b with
 | true=>rw[aO rfl];exact⟨ρ1,S1,τ,R1,r.ext e1,zI.ext h1 e1⟩
 | false=>rw[aM br];exact⟨ρ1,S1,τ,R1,r.ext e1,zI.ext h1 e1⟩
abbrev lN (e:Ex)(g:Tg):Sm:=λτ S=>.of (e τ S) λa S1=>.of (g a τ S1) λd S2=>.nx d S2
def Wc{f:Ex}{g:Tg}{D:Ends}{H:Hp}(h:tS X (lN f g) D σ H):UU (tE X f) (tG X g) D σ H:=by
 kln_w;exact⟨ρ,S,τ,R,r,j6 (of_post h) .refl λa S1 h1 ρ1 H1 x e1 R1 v1=>⟨ρ1,S1,τ,a,R1,r.ext e1,v1,j6 (of_post h1) e1 λd S2 h2=>JF.ext h2 e1⟩⟩
def uH{tg:aE}{f:Ex}{g:Tg}(J:AE X e f)(hg:AG X tg g)(hs:swapsWithSole [tg] e pos.line X.env=pure false<|>ε)(hw:swappedStores [tg] e X.env=pure none<|>ε)
  (h1:(assignEach [tg] X.env).map (·.2)=[assign tg X.env]<|>ε):AS X (.Assign [tg] e pos) (lN f g):=PS.imp (Z3 J hg hs hw h1) λD σ H h=>Wc h
def k8{i:Nat}{x:Str}{f:Ex}(J:X.N.Nodup)(U:AE X e f)(hi:X.N[i]?=some x<|>ε)(Z:Loc X.env.scope x:=by first|exact Or.inl rfl|exact Or.inr rfl)(hs:(swapsWith e (some<|.Name x pos') pos.line X.env=pure false)<|>ε)(hf:X.fn x=true\/X.env.scope.names.lookup x=some .local<|>γ) :
  AS X (.Assign [.Name x pos'] e pos) (lN f<|k_ i):=PS.imp (Z_ J hi Z U hs hf) λD σ H ⟨ρ,S,τ,R,r,h⟩=>
 ⟨ρ,S,τ,R,r,j6 (of_post h) .refl λa S1 h1 ρ1 H1 x e1 R1 v1=>h1 ρ1 H1 _ e1 R1<|(r.ext e1).set v1⟩
abbrev adS (i j:Nat)(c:rT):Sm:=λτ S=>.of (c τ S) λas S1=>match as with
 | [a,b]=>.nx ((τ.set i a).set j b) S1
 | _=>.no
abbrev ip (X:Cx)(f:A->A->j5->R A):X7:=λx y H Q=>∃ρ S a b,Rel X.K ρ H S/\AV X.K ρ H a x/\AV X.K ρ H b y/\(f a b S).post (zQ X ρ H Q) (XE X ρ H)
abbrev FY (a b:A)(S:j5):R A:=match a,b with
 | .int i,.int j=>.ok (.int<|i+j) S
 | _,_=>.no
def zY:WN X .Add (ip X FY):=λai s σ H x y v u Q I r1 r2 h9=>by
 z_go
 cases va with
 | int i=>
  cases vb with
  | int j=>exact XZ ai s σ H _ _ v u Q I r1 r2 ⟨i,j,rfl,rfl,h _ _ _ .refl R<|.int _⟩
  | _=>exact h.elim
 | _=>exact h.elim
def Vs:WN X .Sub (ip X aSub):=λai s σ H x y v u Q I r1 r2 h9=>by
 z_go
 cases va with
 | int i=>
  cases vb with
  | int j=>exact YJ ai s σ H _ _ v u Q I r1 r2 ⟨i,j,rfl,rfl,h _ _ _ .refl R<|.int _⟩
  | _=>exact h.elim
 | _=>exact h.elim
abbrev Qx (i:Nat)(f:A->A->j5->R A)(e:Ex):Sm:=λτ S=>if (τ.getD i .unb).pU then .no else .of (e τ S) λb S1=>.of (f (τ.getD i .unb) b S1) λc S2=>.nx (τ.set i c) S2
def ZO{i:Nat}{x:Str}{c:Ex}{f:A->A->j5->R A}(U:X.N.Nodup)(Z:AE X e c)(ho:WN X op<|ip X f)(hi:X.N[i]?=some x<|>ε)(J:Loc X.env.scope x:=by first|exact Or.inl rfl|exact Or.inr rfl)(hf:X.fn x=true\/X.env.scope.names.lookup x=some .local<|>γ) :
  AS X (.AugAssign (.Name x pos') op e pos) (Qx i f c):=PS.imp (aai U hi J Z ho hf) λD σ H h9=>by
 room;have d:∀x,τ[i]?=some x->x.pU=false->(RS.of (c τ S) λb S1=>.of (f x b S1) λc S2=>.nx (τ.set i c) S2).post (JF X ρ H D.nx) (zQ X ρ H D.rt) (JF X ρ H D.bk) (JF X ρ H D.ct) (XE X ρ H) ->
   ∃x,σ[i]?=some (some x)/\tE X c σ H λy H1=>ip X f x y H1 λz H2=>D.nx (σ.set i<|some z) H2:=by
  intro x hi J h
  rcases r.at i x hi with z|⟨v,e,q⟩
  ·subst z;cases J
  ·refine⟨v,e,ρ,S,τ,R,r,j6 (of_post h) .refl λb S1 h1 ρ1 H1 y e1 R1 v1=>⟨ρ1,S1,x,b,R1,q.ext e1,v1,j6 (of_post h1) e1 λw S2 h2 ρ2 H2 z e2 R2 v2=>?_⟩⟩;exact h2 ρ2 H2 _ (e1.trans e2) R2<|(r.ext<|e1.trans e2).set v2
 unfold Qx zI at h;rw[aI]at h
 cases hi:τ[i]? with
 | none=>rw[hi]at h;exact h.elim
 | some x=>
  rw[hi]at h
  cases J:x.pU with
  | true=>rw[show(some x).getD .unb=x from rfl,J]at h;exact h.elim
  | false=>rw[show(some x).getD .unb=x from rfl,J]at h;exact d x hi J h
abbrev RJ (a b:A)(S:j5):R A:=match a,b with
 | .ref n,.int i=>opt (j4 S n) λxs=>gd (0<=i) (opt (xs[i.toNat]?) λx=>.ok x S)
 | _,_=>.no
def UE:aaI X (r2 X RJ):=λai s σ H o i j iv Q I d g h9=>by
 z_go
 cases va with
 | @ref p n hp=>
  cases vb with
  | int k=>
   kd_p;obtain⟨h0,h⟩:=kO h;obtain⟨x,f,h⟩:=kj h;obtain⟨vs,h1,r1⟩:=R.lst hp<|kI hn;obtain⟨z,e,q⟩:=r1.get f;exact PL ai s σ H _ _ j iv Q I d g ⟨p,vs,k,z,rfl,rfl,qX.of h1,h0,e,h _ _ _ .refl R q⟩
  | _=>exact h.elim
 | _=>exact h.elim
abbrev yl (co J U:Ex)(f:A->A->j5->R A):Sm:=λτ S=>.of (co τ S) λo S1=>.of (J τ S1) λi S2=>.of (RJ o i S2) λx S3=>.of (U τ S3) λy j=>.of (f x y j) λz d=>.of (FH o i z d) λ_ g=>.nx τ g
def Ah{co ci ce:Ex}{f:A->A->j5->R A}(ho:AE X o co)(hi:AE X i ci)(he:AE X e ce)(hp:WN X op<|ip X f)
  (ha:∀ov iv new,augStore i ov iv new=(do holding [new,ov,iv] (setItem ov iv new);release [new,ov,iv] [];pure .next):=by intros;rfl):AS X (.AugAssign (.Subscript o i tpos) op e pos) (yl co ci ce f):=
 PS.imp (Ux ho hi UE he hp Me ha) λD σ H h9=>by
  room;refine⟨ρ,S,τ,R,r,j6 (of_post h) .refl λC S1 h1 ρ1 H1 vo e1 R1 v1=>⟨ρ1,S1,τ,R1,r.ext e1,j6 (of_post h1) e1 λG S2 h2 ρ2 H2 vi e2 R2 v2=>?_⟩⟩;refine⟨ρ2,S2,C,G,R2,v1.ext e2,v2,j6 (of_post h2) (e1.trans e2) λax S3 h3 ρ3 H3 vx e3 R3 N=>?_⟩;have d:=(e1.trans e2).trans e3;refine⟨ρ3,S3,τ,R3,r.ext d,j6 (of_post h3) d λU S4 Y p H4 vy j P T=>?_⟩;refine⟨p,S4,ax,U,P,N.ext j,T,j6 (of_post Y) (d.trans j) λV J Z q H5 vz m W K=>?_⟩;have k:=(e3.trans j).trans m;refine⟨q,J,C,G,V,W,v1.ext<|e2.trans k,v2.ext k,K,j6 (of_post Z) ((d.trans j).trans m) λ_ S6 h6 B O L M=>?_⟩;have g:=((d.trans j).trans m).trans L;exact h6 B O σ g M<|r.ext g
abbrev pD (t:Te)(c:Sm):Nat->Sm
 | 0=>λ_ _=>.no
 | n+1=>λτ S=>.of (t τ S) λb S1=>match b with
  | false=>.nx τ S1
  | true=>match c τ S1 with
   | .nx d f=>pD t c n d f
   | .ct d f=>pD t c n d f
   | .bk d f=>.nx d f
   | r=>r
def F3(n:Nat){t:Te}(hp:PassesOwn (model X.prog X.w) X.A X.env X.xe)(J:AT X e t)(hb:MC X body c):AS X (.While e body [] pos) (pD t c n):=PS.imp (Qi hp J hb) λD σ H h9=>by
 room;refine⟨λm g H'=>∃ρ' f d,Ext ρ ρ' H H'/\Rel X.K ρ' H' f/\SR X.K ρ' H' d g/\zI X ρ' H' D (pD t c m d f),⟨n,ρ,S,τ,.refl,R,r,h⟩,?_⟩;rintro m B H1 ⟨ρ1,S1,j,e1,R1,r1,h1⟩
 cases m with
 | zero=>exact h1.elim
 | succ m=>
  refine⟨ρ1,S1,j,R1,r1,j6 (of_post h1) .refl λb S2 h2 ρ2 H2 e2 R2=>?_⟩
  cases b with
  | false=>rw[aM br];exact h2 ρ2 H2 B e2 R2 (r1.ext e2)
  | true=>
   rw[aO rfl];refine⟨λg H'=>∃ρ' f d,Ext ρ ρ' H H'/\Rel X.K ρ' H' f/\SR X.K ρ' H' d g/\zI X ρ' H' D (pD t c m d f),λg H' z=>⟨m,c9 _,z⟩,ρ2,S2,j,R2,r1.ext e2,?_⟩;have h2:zI X ρ1 H1 D (match c j S2 with
    | .nx d f=>pD t c m d f
    | .ct d f=>pD t c m d f
    | .bk d f=>.nx d f
    | r=>r):=h2
   cases hc:c j S2 with
   | nx k S3=>rw[hc]at h2;exact λρ3 H3 p e3 R3 q=>⟨ρ3,S3,k,(e1.trans e2).trans e3,R3,q,zI.ext h2<|e2.trans e3⟩
   | ct k S3=>rw[hc]at h2;exact λρ3 H3 p e3 R3 q=>⟨ρ3,S3,k,(e1.trans e2).trans e3,R3,q,zI.ext h2<|e2.trans e3⟩
   | bk k S3=>rw[hc]at h2;exact JF.ext h2 e2
   | rt a S3=>rw[hc]at h2;exact zQ.ext h2 e2
   | ex x S3=>rw[hc]at h2;exact XE.ext h2 e2
   | no=>rw[hc]at h2;exact h2
end
structure Src where
 k:Nat
 get:Nat->j5->Option A
 fin:j5->Bool
structure JR (K:au)(s:Src)(J:It)(ρ0:bb)(H0:Hp):Prop where
 go:∀(i:Nat) (S:j5) (H:Hp) (ρ:bb) (x:A),Ext0 ρ0 ρ H0 H->Rel K ρ H S->s.get i S=some x->J.go i H/\∀v H',J.yld i H v H'->Ext ρ ρ H H'/\Rel K ρ H' S/\AV K ρ H' x v
 stop:∀(S:j5) (H:Hp) (ρ:bb),Ext0 ρ0 ρ H0 H->Rel K ρ H S->s.fin S=true->J.stop s.k H
meta abbrev Ic:=ae->j5->R Src
abbrev tI (X:Cx)(c:Ic):TI:=λσ H Q=>∃ρ S τ,Rel X.K ρ H S/\SR X.K ρ H τ σ/\(c τ S).post (λs d=>∀ρ' H' J,Ext ρ ρ' H H'->Rel X.K ρ' H' d->JR X.K s J ρ' H'->Q J H') (XE X ρ H)
abbrev AI (X:Cx)(tg iter:aE)(c:Ic):Prop:=PI X tg iter<|tI X c
abbrev p5 (xs:ae):Src:=⟨xs.length,λi _=>xs[i]?,λ_=>true⟩
abbrev mq (n k:Nat):Src:=⟨k,λi S=>(j4 S n).bind (·[i]?),λS=>match j4 S n with
 | some ys=>decide (ys.length<=k)
 | none=>false⟩
abbrev m_ (lo hi:Int):Src:=⟨(hi-lo).toNat,λi _=>if i<(hi-lo).toNat then some (.int<|lo+i)else none,λ_=>true⟩
abbrev oM (c:Ex):Ic:=λτ S=>(c τ S).bind λa S1=>match a with
 | .tup xs=>.ok (p5 xs) S1
 | .frz xs=>.ok (p5 xs) S1
 | .ref n=>opt (j4 S1 n) λxs=>.ok (mq n xs.length) S1
 | .str x=>gd (x.cps.all (· < 128)=true) (.ok (p5<|x.cps.toList.map λc=>.str ⟨#[c]⟩) S1)
 | _=>.no
section
variable {X:Cx}{pos:Pos}{tg e a b:aE}
def YL{K:au}{H0:Hp}{p:ak}(h:qu K H0 p vs)(r:AVs K ρ0 H0 xs vs):JR K (p5 xs) (Itt K p) ρ0 H0 where
 go:=λi S H ρ x e R g=>by
  obtain⟨v,d,f⟩:=(AVs.mF e r).get g;have hs:=e.sqT h;refine⟨⟨vs,v,hs,d⟩,λw H' ⟨e1,y⟩=>?_⟩;subst e1;have:=y vs hs;rw[d]at this
  cases this
  exact⟨.refl,R,f⟩
 stop:=λS H ρ e R _=>⟨vs,e.sqT h,by rw[<- r.length];exact aP _⟩
def Y6{K:au}{H0:Hp}{p:ak}(h:Fz K H0 p vs)(r:AVs K ρ0 H0 xs vs):JR K (p5 xs) (Itl K p) ρ0 H0 where
 go:=λi S H ρ x e R g=>by
  obtain⟨v,d,f⟩:=(AVs.mF e r).get g;have hs:=(e.fz h).Uc;refine⟨⟨vs,v,hs,d⟩,λw H' ⟨e1,y⟩=>?_⟩;subst e1;have:=y vs hs;rw[d]at this
  cases this
  exact⟨.refl,R,f⟩
 stop:=λS H ρ e R _=>⟨vs,(e.fz h).Uc,by rw[<- r.length];exact aP _⟩
def YH{K:au}{ρ0:bb}{H0:Hp}{p:ak}{n k:Nat}(h:ρ0[n]?=some p):JR K (mq n k) (Itl K p) ρ0 H0 where
 go:=λi S H ρ x e R g=>by
  obtain⟨ys,hn,f⟩:=cZ.mp<|show(j4 S n).bind (·[i]?)=some x from g;obtain⟨vs,h1,r⟩:=R.lst (e.get h)<|kI hn;obtain⟨v,d,j⟩:=r.get f;refine⟨⟨vs,v,qX.of h1,d⟩,λw H' ⟨e1,y⟩=>?_⟩;subst e1;have:=y vs<|qX.of h1;rw[d]at this
  cases this
  exact⟨.refl,R,j⟩
 stop:=λS H ρ e R g=>by
  have g:(match j4 S n with
   | some ys=>decide (ys.length<=k)
   | none=>false)=true:=g
  cases hn:j4 S n with
  | none=>rw[hn]at g;cases g
  | some ys=>
   rw[hn]at g;obtain⟨vs,h1,r⟩:=R.lst (e.get h)<|kI hn;exact⟨vs,qX.of h1,by rw[<- r.length];exact bJ g⟩
def IV{K:au}{H0:Hp}{lo hi:Int}:JR K (m_ lo hi) (Itr lo (hi-lo).toNat) ρ0 H0 where
 go:=λi S H ρ x e R g=>by
  have g:(if i<(hi-lo).toNat then some (A.int<|lo+i)else none)=some x:=g;by_cases d:i<(hi-lo).toNat
  ·rw[aO d]at g
   cases g
   refine⟨d,λw H' ⟨e1,y⟩=>?_⟩;subst e1 y;exact⟨.refl,R,.int _⟩
  ·rw[aM d]at g;cases g
 stop:=λS H ρ e R _=>aP _
def ZI{K:au}{H0:Hp}{x:Str}:JR K (p5<|x.cps.toList.map λc=>A.str ⟨#[c]⟩) (Its x) ρ0 H0 where
 go:=λi S H ρ y e R g=>by
  have g:(x.cps.toList.map λc=>A.str ⟨#[c]⟩)[i]?=some y:=g;rw[aQ]at g;obtain⟨c,hc,rfl⟩:=bh.mp g;rw[dm]at hc;refine⟨(Array.getElem?_eq_some_iff.mp hc).1,λw H' ⟨e1,j,d,f⟩=>?_⟩;rw[hc]at d
  cases d
  subst e1 f;exact⟨.refl,R,.str _⟩
 stop:=λS H ρ e R _=>by
  show(x.cps.toList.map λc=>A.str ⟨#[c]⟩).length=x.cps.size;rw[aK,cJ]
def nS{c:Ex}(J:AE X e c):AI X tg e (oM c):=λai s σ H Q I h9=>by
 room;have hb:=kh h
 cases hc:c τ S with
 | no=>rw[hc]at hb;exact hb.elim
 | ex x S1=>
  rw[hc]at hb;exact Oc J ai s σ H Q I ⟨ρ,S,τ,R,r,by rw[hc];exact hb⟩
 | ok a S1=>
  rw[hc]at hb
  cases a with
  | tup xs=>
   refine Oc J ai s σ H Q I ⟨ρ,S,τ,R,r,?_⟩;rw[hc];intro ρ1 H1 x e1 R1 v1
   cases v1 with
   | tup h1 r1=>exact⟨_,rfl,⟨_,(qu.of h1)⟩,hb ρ1 H1 _ e1 R1<|YL (qu.of h1) r1⟩
  | frz xs=>
   refine Lm J ai s σ H Q I ⟨ρ,S,τ,R,r,?_⟩;rw[hc];intro ρ1 H1 x e1 R1 v1
   cases v1 with
   | frz h1 r1=>exact⟨_,rfl,⟨_,h1.Uc⟩,hb ρ1 H1 _ e1 R1<|Y6 h1 r1⟩
  | ref n=>
   obtain⟨xs,hn,hb⟩:=kj hb;refine Lm J ai s σ H Q I ⟨ρ,S,τ,R,r,?_⟩;rw[hc];intro ρ1 H1 x e1 R1 v1
   cases v1 with
   | ref hp=>
    obtain⟨vs,h1,r1⟩:=R1.lst hp<|kI hn;exact⟨_,rfl,⟨_,qX.of h1⟩,hb ρ1 H1 _ e1 R1<|YH hp⟩
  | str x=>
   obtain⟨ha,hb⟩:=kO hb;refine Zb J ai s σ H Q I ⟨ρ,S,τ,R,r,?_⟩;rw[hc];intro ρ1 H1 v e1 R1 v1
   cases v1 with
   | str=>exact⟨x,rfl,ha,hb ρ1 H1 _ e1 R1 ZI⟩
  | _=>exact hb.elim
abbrev bnd (i:Int):Prop:=-(2 ^ 62)<=i/\i<2 ^ 62
instance (i:Int):Decidable (bnd i):=by unfold bnd;infer_instance
abbrev rH (c:Ex):Ic:=λτ S=>(c τ S).bind λa S1=>match a with
 | .int j=>gd (bnd j) (.ok (m_ 0 j) S1)
 | _=>.no
abbrev uM (c d:Ex):Ic:=λτ S=>(c τ S).bind λa S1=>(d τ S1).bind λb S2=>match a,b with
 | .int i,.int j=>gd (bnd i/\bnd j) (.ok (m_ i j) S2)
 | _,_=>.no
def qW{p:Pos}{c:Ex}(J:X.mg "range" = none)(ha:AE X a c)(hg:Gl X "range"<|>ε)(hs:starEach [a] X.env=[(false,eval a X.env)]<|>ε):AI X tg (.Call (.Name "range" p) [a] [] pos) (rH c):=λai s σ H Q I h9=>by
 room;refine Nf hg J (qP ha xg hs) hs ai s σ H Q I ⟨ρ,S,τ,R,r,j6 (kh h) .refl λx S1 h1 ρ1 H1 v e1 R1 v1=>?_⟩
 cases v1 with
 | int j=>
  obtain⟨hb,h1⟩:=kO h1;exact⟨_,rfl,hb.1,hb.2,by have:=h1 ρ1 H1 _ e1 R1 IV;rwa [Int.sub_zero]at this⟩
 | _=>exact h1.elim
def yq{p:Pos}{c d:Ex}(U:X.mg "range" = none)(ha:AE X a c)(hb:AE X b d)(hg:Gl X "range"<|>ε)(hs:starEach [a,b] X.env=[(false,eval a X.env),(false,eval b X.env)]<|>ε)(J:starEach [b] X.env=[(false,eval b X.env)]<|>ε):AI X tg (.Call (.Name "range" p) [a,b] [] pos) (uM c d):=λai s σ H Q I h9=>by
 room;refine Nm hg U (qP ha (qP hb xg J)<|by rw[hs,J]) hs J ai s σ H Q I ⟨ρ,S,τ,R,r,j6 (kh h) .refl λx S1 h1 ρ1 H1 v e1 R1 v1=>⟨ρ1,S1,τ,R1,r.ext e1,j6 (kh h1) e1 λy S2 h2 ρ2 H2 w e2 R2 v2=>?_⟩⟩
 cases v1 with
 | int i=>
  cases v2 with
  | int j=>
   obtain⟨hb,h2⟩:=kO h2;exact⟨_,_,rfl,⟨hb.1.1,hb.1.2,hb.2.1,hb.2.2⟩,h2 ρ2 H2 _ (e1.trans e2) R2 IV⟩
  | _=>exact h2.elim
 | _=>exact h2.elim
abbrev r8 (s:Src)(g:Tg)(c:Sm):Nat->Nat->Sm
 | 0,_=>λτ S=>if s.fin S then .nx τ S else .no
 | k+1,i=>λτ S=>match s.get i S with
  | none=>.no
  | some x=>.of (g x τ S) λj S1=>match c j S1 with
   | .nx d f=>r8 s g c k (i+1) d f
   | .ct d f=>r8 s g c k (i+1) d f
   | .bk d f=>.nx d f
   | r=>r
abbrev nF (src:Ic)(g:Tg)(c:Sm):Sm:=λτ S=>.of (src τ S) λs S1=>r8 s g c s.k 0 τ S1
def nP{iter:aE}{src:Ic}{g:Tg}{c:Sm}(hp:PassesOwn (model X.prog X.w) X.A X.env X.xe)(hc:X.calm=true)(hi:AI X tg iter src)(hg:AG X tg g)(hb:MC X body c)
  (hs:(∀x,foldedSetIterable iter X.env x=pure x)<|>η):AS X (.For tg iter body [] pos) (nF src g c):=PS.imp (ZQ hp hc hi hg hb hs) λD σ H h9=>by
 room;refine⟨ρ,S,τ,R,r,j6 (of_post h) .refl λs S1 h1 ρ1 H1 J e1 R1 jr=>?_⟩;refine⟨λi m B H'=>m+i=s.k/\∃ρ' q d,Ext ρ1 ρ' H1 H'/\Rel X.K ρ' H' q/\SR X.K ρ' H' d B/\zI X ρ' H' D (r8 s g c m i d q),⟨s.k,rfl,ρ1,S1,τ,.refl,R1,r.ext e1,zI.ext h1 e1⟩,?_⟩;rintro i m Y H2 ⟨hm,ρ2,S2,G,e2,R2,r2,h2⟩
 cases m with
 | zero=>
  left;have h2:zI X ρ2 H2 D (if s.fin S2 then .nx G S2 else .no):=h2
  cases hf:s.fin S2 with
  | false=>rw[hf]at h2;exact h2.elim
  | true=>
   rw[hf]at h2;refine⟨by rw[show i=s.k by lia];exact jr.stop S2 H2 ρ2 e2.toExt0 R2 hf,h2 ρ2 H2 Y .refl R2 r2⟩
 | succ m=>
  right;have h2:zI X ρ2 H2 D (match s.get i S2 with
   | none=>.no
   | some x=>.of (g x G S2) λP S1=>match c P S1 with
    | .nx d q=>r8 s g c m (i+1) d q
    | .ct d q=>r8 s g c m (i+1) d q
    | .bk d q=>.nx d q
    | r=>r):=h2
  cases T:s.get i S2 with
  | none=>rw[T]at h2;exact h2.elim
  | some x=>
   rw[T]at h2;obtain⟨U,hy⟩:=jr.go i S2 H2 ρ2 x e2.toExt0 R2 T;refine⟨U,λB H'=>m+(i+1)=s.k/\∃ρ' q d,Ext ρ1 ρ' H1 H'/\Rel X.K ρ' H' q/\SR X.K ρ' H' d B/\zI X ρ' H' D (r8 s g c m (i+1) d q),λB H' z=>⟨m,c9 _,z⟩,λv H3 y=>?_⟩;obtain⟨e3,R3,v3⟩:=hy v H3 y;refine⟨ρ2,S2,G,x,R3,r2.ext e3,v3,j6 (of_post h2) e3 λO S4 p ρ4 H4 σ4 e4 R4 r4=>⟨ρ4,S4,O,R4,r4,?_⟩⟩;have f:=e3.trans e4
   cases j:c O S4 with
   | nx C M=>rw[j]at p;exact λL H5 V N Z W=>⟨(),L,M,C,(e2.trans f).trans N,Z,W,zI.ext p<|f.trans N⟩
   | ct C M=>rw[j]at p;exact λL H5 V N Z W=>⟨(),L,M,C,(e2.trans f).trans N,Z,W,zI.ext p<|f.trans N⟩
   | bk C M=>rw[j]at p;exact JF.ext p f
   | rt x5 M=>rw[j]at p;exact zQ.ext p f
   | ex x5 M=>rw[j]at p;exact XE.ext p f
   | no=>rw[j]at p;exact p
end
abbrev R.n5 {α β:Type}(r:R α)(f:α->j5->R β):R β:=match r with
 | .ok a S=>f a S
 | _=>.no
def mZ{α β:Type}{r:R α}{f:α->j5->R β}{b:β}(h:r.n5 f=.ok b S2):∃a S,r=.ok a S/\f a S=.ok b S2:=by
 cases r with
 | ok a S=>exact⟨a,S,rfl,h⟩
 | ex _ _=>cases h
 | no=>cases h
def Bc{α β:Type}{r:R α}{f:α->j5->R β}{P:β->j5->Prop}{E:Str->j5->Prop}(h:(r.n5 f).post P E):∃a S,r=.ok a S/\(f a S).post P E:=by
 cases r with
 | ok a S=>exact⟨a,S,rfl,h⟩
 | ex _ _=>exact h.elim
 | no=>exact h.elim
def HE{α β:Type}{o:Option β}{f:β->R α}{a:α}(h:opt o f=.ok a S):∃b,o=some b/\f b=.ok a S:=by
 cases o with
 | none=>cases h
 | some b=>exact⟨b,rfl,h⟩
abbrev oZ (s:Src)(g:Tg)(t:Te)(e:Ex):Nat->Nat->ae->j5->R (ae)
 | 0,_=>λ_ S=>if s.fin S then .ok [] S else .no
 | k+1,i=>λτ S=>opt (s.get i S) λx=>(g x τ S).n5 λd S1=>(t d S1).n5 λb S2=>match b with
  | true=>(e d S2).n5 λy S3=>(oZ s g t e k (i+1) d S3).n5 λys f=>.ok (y::ys) f
  | false=>oZ s g t e k (i+1) d S2
abbrev ng (cap:List<|bo)(τ:ae):ae:=cap.map λo=>match o with
 | some j=>τ.getD j .unb
 | none=>.unb
abbrev lJ (cap:List<|bo)(src:Ic)(g:Tg)(t:Te)(e:Ex):Ex:=λτ S=>(src τ S).bind λs S1=>(oZ s g t e s.k 0 (ng cap τ) S1).n5 λys S2=>newL ys S2
abbrev DY:Te:=λ_ S=>.ok true S
def Gi{s:Src}{g:Tg}{t:Te}{e:Ex}{k:Nat}{T:Prop}(h:oZ s g t e (k+1) i τ S=.ok zs S')
  (q:∀x τ1 S1 b S2,s.get i S=some x->g x τ S=.ok τ1 S1->t τ1 S1=.ok b S2->(b=true->∃y S3 ws,e τ1 S2=.ok y S3/\oZ s g t e k (i+1) τ1 S3=.ok ws S'/\zs=y::ws)->(b=false->oZ s g t e k (i+1) τ1 S2=.ok zs S')->T):T:=by
 obtain⟨x,f,h⟩:=HE h;obtain⟨τ1,S1,h1,h⟩:=mZ h;obtain⟨b,S2,h2,h⟩:=mZ h;refine q x τ1 S1 b S2 f h1 h2 (λhb=>?_) λhb=>?_
 ·subst hb;obtain⟨y,S3,h3,h⟩:=mZ h;obtain⟨ws,j,d,h⟩:=mZ h
  cases h
  exact⟨y,S3,ws,h3,d,rfl⟩
 ·subst hb;exact h
structure Out (ρ1:bb)(H1:Hp)(D:ak)(accV:List V)(ρ:bb)(H:Hp):Prop where
 e0:Ext0 ρ1 ρ H1 H
 fr:∀a u,a≠D->H1 a=some u->a∉ρ1->H a=some u
 nw:∀a∈ρ,a∈ρ1\/H1 a=none
 nD:D∉ρ
 hD:H D=some (.lst accV)
def Out.stay{H1 H3 Z:Hp}{D:ak}(o:Out ρ1 H1 D accV ρ3 H3)(U:H1 D=none)(J:Ext ρ3 ρ7 H3 Z):Out ρ1 H1 D accV ρ7 Z:=by
 refine⟨⟨o.e0.pre.trans J.pre,λa u i h=>J.im a u i<|o.e0.im a u i h⟩,λa u na f g=>J.fr a u (o.fr a u na f g) λz=>(o.nw a z).elim g λz=>by(rw[z]at f;cases f),λa ha=>?_,λz=>(J.nw D z).elim o.nD λz=>by(rw[o.hD]at z;cases z),J.fr D _ o.hD o.nD⟩;by_cases d:a∈ρ1
 ·exact .inl d
 ·right
  cases q:H1 a with
  | none=>rfl
  | some u=>
   have j:a≠D:=kF q U
   rcases J.nw a ha with z|z
   ·exact((o.nw a z).elim d λz=>by(rw[z]at q;cases q)).elim
   ·rw[o.fr a u j q d]at z;cases z
def Out.put{H1 H:Hp}{D:ak}(o:Out ρ1 H1 D accV ρ H)(ex:Ext0 ρ ρ H<|upd H D<|.lst vs):Out ρ1 H1 D vs ρ (upd H D<|.lst vs):=
 ⟨⟨o.e0.pre,λa u i h=>ex.im a u i<|o.e0.im a u i h⟩,λa u na f d=>by rw[j8 na];exact o.fr a u na f d,o.nw,o.nD,kP⟩
def Out.end{H1 H:Hp}{D:ak}(o:Out ρ1 H1 D accV ρ H)(J:H1 D=none):Ext ρ1 (ρ++[D]) H1 H:=by
 refine⟨⟨o.e0.pre.trans<|eS _ _,o.e0.im⟩,λa u d na=>o.fr a u (kF d J) d na,λa ha=>?_⟩
 rcases bq.mp ha with z|z
 ·exact o.nw a z
 ·have:a=D:=by simpa using z
  rw[this];exact .inr J
abbrev Cq (K:au)(ρ1:bb)(H1:Hp)(D:ak)(ys:ae)(k:Nat)(E:bb->Hp->Prop)(P:Nat->Nat->ae->j5->ae->Prop)(i m:Nat)(σ:L2.St)(H:Hp):Prop:=
 m+i=k/\∃ρ S τ acc zs accV,Out ρ1 H1 D accV ρ H/\E ρ H/\Rel K ρ H S/\SR K ρ H τ σ/\AVs K ρ H acc accV/\P m i τ S zs/\acc++zs=ys
section
variable {K:au}{ρ1 ρ:bb}{H1 H:Hp}{D:ak}{ys acc zs:ae}{accV:List V}{k i m:Nat}{E:bb->Hp->Prop}{P:Nat->Nat->ae->j5->ae->Prop}{σ:L2.St}{S:j5}{τ:ae}
def Cq.el{T:Prop}(h:Cq K ρ1 H1 D ys k E P i m σ H)(q:∀ρ S τ acc zs accV,m+i=k->Out ρ1 H1 D accV ρ H->E ρ H->Rel K ρ H S->SR K ρ H τ σ->AVs K ρ H acc accV->P m i τ S zs->acc++zs=ys->T):T:=by
 obtain⟨g,ρ,S,τ,acc,zs,accV,h1,h2,h3,d,f,h6,j⟩:=h;exact q ρ S τ acc zs accV g h1 h2 h3 d f h6 j
def Cq.of(J:m+i=k)(o:Out ρ1 H1 D accV ρ H)(e:E ρ H)(R:Rel K ρ H S)(r:SR K ρ H τ σ)(v:AVs K ρ H acc accV)(p:P m i τ S zs)(q:acc++zs=ys):Cq K ρ1 H1 D ys k E P i m σ H:=⟨J,ρ,S,τ,acc,zs,accV,o,e,R,r,v,p,q⟩
end
abbrev tE0 (K:au)(c:Ex):TE:=λσ H Q=>∃ρ S τ a d,Rel K ρ H S/\SR K ρ H τ σ/\c τ S=.ok a d/\∀ρ' H' v,Ext ρ ρ' H H'->Rel K ρ' H' d->AV K ρ' H' a v->Q v H'
abbrev XQ (K:au)(c:Te):TT:=λσ H Q=>∃ρ S τ a d,Rel K ρ H S/\SR K ρ H τ σ/\c τ S=.ok a d/\∀ρ' H',Ext ρ ρ' H H'->Rel K ρ' H' d->Q a H'
abbrev tG0 (K:au)(g:Tg):TG:=λv σ H Q=>∃ρ S τ a f j,Rel K ρ H S/\SR K ρ H τ σ/\AV K ρ H a v/\g a τ S=.ok f j/\∀ρ' H' d,Ext ρ ρ' H H'->Rel K ρ' H' j->SR K ρ' H' f d->Q d H'
section
variable {X:Cx}{pos:Pos}{tg iter elt e:aE}{ifs:List aE}{scope:Scope}{N:ar}{cap:List (bo)}{src:Ic}{g:Tg}{t:Te}{c:Ex}
def AE.e0{K:au}(hK:X.K=K)(h:AE X e c):PE X e (tE0 K c):=PE.imp h λσ H Q ⟨ρ,S,τ,a,g,R,r,hc,q⟩=>⟨ρ,S,τ,by rw[hK];exact R,by rw[hK];exact r,by rw[hc];exact λρ' H' v e f d=>q ρ' H' v e (by rw[<- hK];exact f)<|by rw[<- hK];exact d⟩
def AT.t0{K:au}(hK:X.K=K)(h:AT X e t):PT X e (XQ K t):=PT.imp h λσ H Q ⟨ρ,S,τ,a,f,R,r,hc,q⟩=>⟨ρ,S,τ,by rw[hK];exact R,by rw[hK];exact r,by rw[hc];exact λρ' H' e d=>q ρ' H' e<|by rw[<- hK];exact d⟩
def AG.g0{K:au}(hK:X.K=K)(h:AG X e g):PG X e (tG0 K g):=by
 subst hK;refine PG.imp h λv σ H Q h9=>?_;obtain⟨ρ,S,τ,a,d,f,R,r,va,hc,q⟩:=h9;exact⟨ρ,S,τ,a,R,r,va,by rw[hc];exact q⟩
abbrev ATs (X:Cx)(ifs:List aE)(t:Te):Prop:=T_ X ifs<|XQ X.K t
def DB:ATs X [] DY:=λai s σ H Q I ⟨ρ,S,τ,a,d,R,r,hc,q⟩=>U4 ai s σ H Q I<|by cases hc;exact q ρ H .refl R
def sf(h:AT X e t):ATs X [e] t:=VC<|h.t0 rfl
def WR{K:au}{H:Hp}(r:SR K ρ H τ σ)(cap:List<|bo):SR K ρ H (ng cap τ) (cap.map<|Vq σ):=by
 refine⟨by simp[ng],λi a h=>?_⟩;unfold ng at h;rw[aQ]at h;obtain⟨o,f,e⟩:=bh.mp h
 cases o with
 | none=>exact .inl e.symm
 | some j=>
  have e:τ.getD j .unb=a:=e
  cases d:τ[j]? with
  | none=>rw[aI,d]at e;exact .inl e.symm
  | some b=>
   rw[aI,d]at e;have e:b=a:=e;subst e
   rcases r.at j b d with z|⟨v,h1,h2⟩
   ·exact .inl z
   ·exact .inr ⟨v,by rw[aQ,f];show some ((σ[j]?).getD none)=_;rw[h1];rfl,h2⟩
def Rel.FN{K:au}{H:Hp}{p:ak}(R:Rel K ρ H S)(hp:H p=none):p∉ρ:=λg=>by
 obtain⟨n,hn,e⟩:=i_.mp g;have f:n<S.length:=by rw[<- R.len];exact hn
 have:=R.at n p S[n] (by rw[aH hn,e]) (aH f)
 cases d:S[n]with
 | lst xs=>rw[d]at this;obtain⟨vs,h,_⟩:=this;rw[hp]at h;cases h
 | dct _|rC _|dks _|dcp _=>rw[d]at this;obtain⟨vs,h,_⟩:=this;rw[hp]at h;cases h
 | dcf _|dkf _=>rw[d]at this;obtain⟨_,vs,h,_⟩:=this;rw[hp]at h;cases h
 | ins _ _=>rw[d]at this;obtain⟨_,_,h⟩:=this;rw[hp]at h;cases h
def GS(σ:L2.St)(H:Hp)(Q:VK)(h:tE X (lJ cap src g t c) σ H Q):tLC cap (tI X src) (tG0 X.K g) (XQ X.K t) (tE0 X.K c) σ H Q:=by
 kln_w;refine⟨ρ,S,τ,R,r,j6 (kh h) .refl λs S1 h1 ρ1 H1 J e1 R1 jr D hD=>?_⟩;obtain⟨ys,S2,T,h1⟩:=Bc h1;obtain⟨L,h1⟩:=kO h1;have h1:zQ X ρ H Q (.ref S2.length) (S2++[.lst ys]):=h1;obtain⟨eD,RD⟩:=R1.im (u:=.lst []) hD;refine⟨Cq X.K ρ1 H1 D ys s.k (λ_ _=>True) λm i τ S zs=>oZ s g t c m i τ S=.ok zs S2,⟨s.k,.of rfl ⟨eD.toExt0,λa u na hu _=>by rw[j8 na];exact hu,λa ha=>.inl ha,R1.FN hD,kP⟩ trivial RD (WR ((r.ext e1).ext eD) cap) .nil T rfl⟩,?_⟩;intro i m σ3 H3 hw;refine hw.el λρ3 S3 Y acc zs accV hm B _ R3 r3 j d f=>?_;clear hw
 cases m with
 | zero=>
  left;have d:(if s.fin S3 then Am.R.ok [] S3 else .no)=.ok zs S2:=d
  cases hf:s.fin S3 with
  | false=>rw[hf]at d;cases d
  | true=>
   rw[hf]at d
   cases d
   rw[bR]at f;subst f;refine⟨by rw[show i=s.k by lia];exact jr.stop _ H3 ρ3 B.e0 R3 hf,?_⟩;obtain⟨RT,gt⟩:=R3.take B.hD B.nD j;exact h1 (ρ3++[D]) H3 _ (e1.trans<|B.end hD) RT<|.ref gt
 | succ m=>
  right;refine Gi d λx C S4 b S5 hx P W hT hF=>?_;have jg:=jr.go i S3 H3 ρ3 x B.e0 R3 hx;refine⟨jg.1,λv H4 y=>?_⟩;obtain⟨e4,R4,v4⟩:=jg.2 v H4 y;refine⟨ρ3,S3,Y,x,C,S4,R4,r3.ext e4,v4,P,λρ5 H5 σ5 e5 R5 M=>⟨ρ5,S4,C,b,S5,R5,M,W,λZ H6 O R6=>?_⟩⟩;have p:=(e4.trans e5).trans O
  cases b with
  | false=>
   dsimp only;rw[aM br];exact⟨m,c9 _,.of () (B.stay hD p) trivial R6 (M.ext O) (j.ext p) (hF rfl) f⟩
  | true=>
   dsimp only;rw[aO rfl];obtain⟨y,S6,ws,he6,U,G⟩:=hT rfl;refine⟨Z,S5,C,y,S6,R6,M.ext O,he6,λρ7 H7 w V R7 v7=>?_⟩;have N:=B.stay hD<|p.trans V;obtain⟨q,R8⟩:=R7.out (ws:=accV++[w]) N.hD N.nD;have l1:=j.length;refine⟨accV,N.hD,?_,m,c9 _,.of () (N.put q) trivial R8 ((M.ext<|O.trans V).mF q) (AVs.mF q<|(j.ext<|p.trans V).append<|.one v7) U ?_⟩
   ·have:(acc++zs).length<=sizeLine:=by rw[f];exact L
    rw[G,aV,bH]at this
    lia
   ·rw[bT,<- f,G];rfl
def rZ(hc:X.calm=true)(J:CpScope X scope N cap)(hi:AI X tg iter src)(hg:∀C s₀ H₀ ex,AG (mG X scope N C s₀ H₀ ex) tg g)(U:∀C s₀ H₀ ex,ATs (mG X scope N C s₀ H₀ ex) ifs t)(Z:∀C s₀ H₀ ex,AE (mG X scope N C s₀ H₀ ex) elt c)
  (hs:(∀x,foldedSetIterable iter X.env x=pure x)<|>η):AE X (.ListComp elt [⟨tg,iter,ifs,0⟩] scope pos) (lJ cap src g t c):=
 PE.imp (aa8 hc J hi (g:=tG0 X.K g) (tc:=XQ X.K t) (te:=tE0 X.K c) (λC s₀ H₀ ex=>(hg C s₀ H₀ ex).g0 rfl) (λC s₀ H₀ ex=>U C s₀ H₀ ex) (λC s₀ H₀ ex=>(Z C s₀ H₀ ex).e0 rfl) hs) GS
end
abbrev A.lst? (S:j5):A->Option (ae)
 | .ref n=>j4 S n
 | _=>none
abbrev eMe (f:A->ae->j5->R A)(co:Ex)(d:rT):Ex:=λτ S=>(co τ S).bind λo S1=>opt (o.lst? S1) λ_=>(d τ S1).bind λas S2=>f o as S2
abbrev Ze (f:A->ae->j5->R A)(co:Ex):Ex:=λτ S=>(co τ S).bind λo S1=>opt (o.lst? S1) λ_=>f o [] S1
abbrev rM (X:Cx)(f:A->ae->j5->R A):V->List V->Hp->VK->Prop:=λx vs H Q=>∃ρ S o as,Rel X.K ρ H S/\AV X.K ρ H o x/\AVs X.K ρ H as vs/\(f o as S).post (zQ X ρ H Q) (XE X ρ H)
section
variable {X:Cx}{apos cpos:Pos}{o e:aE}{es:List aE}{name:Str}{id:String}{f:A->ae->j5->R A}{co:Ex}{d:rT}
def lst?_ty{K:au}{H:Hp}{x:A}{v:V}(R:Rel K ρ H S)(h:AV K ρ H x v)(e:x.lst? S=some xs):tyV K "list" v H:=by
 cases h with
 | ref h=>
  obtain⟨vs,h1,_⟩:=R.lst h<|kI e;exact .inl ⟨rfl,vs,qX.of h1⟩
 | _=>cases e
def QI(slot:Slot "list" name id)(hty:typeOf (.builtin id)=pure (.type "method_descriptor"))(hm:Ot X id<|rM X f)(ho:AE X o co)(ha:AL X (e::es) d)
  (U:attributeBase o name X.env (eval o X.env)=eval o X.env<|>ε)
  (hfew:(((backTo cpos<|starEach (e::es) X.env).all (λx=>!x.1) && (backToKw cpos<|keywordEach [] X.env).all (λx=>x.1.isSome)
   && decide ((e::es).length+([]:List Keyword).length+(if ([]:List Keyword).isEmpty then 0 else 1)<30))=true)<|>ε)
  (Z:(apos.endLine == cpos.line)=true<|>ε) (hs:starEach (e::es) X.env=(false,eval e X.env)::starEach es X.env<|>ε) (J:((backTo cpos<|starEach es X.env).any (·.1)=false)<|>ε) :
  AE X (.Call (.Attribute o name apos) (e::es) [] cpos) (eMe f co d):=PE.imp (Pc PySem.F.plainAttrs_list slot hty hm ho ha U hfew Z hs J) λσ H Q h9=>by
 room;kpf_c;obtain⟨xs,g,h1⟩:=kj h1;refine⟨lst?_ty R1 v1 g,ρ1,S1,τ,R1,r.ext e1,j6 (kh h1) e1 λas S2 h2 ρ2 H2 vs e2 R2 v2=>?_⟩;mg_lt
def X4(slot:Slot "list" name id)(Z:typeOf (.builtin id)=pure (.type "method_descriptor"))(hm:Ot X id<|rM X f)(ho:AE X o co)
  (J:attributeBase o name X.env (eval o X.env)=eval o X.env<|>ε) (U:(apos.endLine == cpos.line)=true<|>ε):AE X (.Call (.Attribute o name apos) [] [] cpos) (Ze f co):=PE.imp (YG PySem.F.plainAttrs_list slot Z hm ho J U) λσ H Q h9=>by
 room;kpf_c;obtain⟨xs,d,h1⟩:=kj h1;exact⟨lst?_ty R1 v1 d,ρ1,S1,x,[],R1,v1,.nil,j6 h1 e1 λ_ _ z=>z.ext e1⟩
abbrev Aa (o:A)(as:ae)(S:j5):R A:=match o,as with
 | .ref n,[x]=>opt (j4 S n) λxs=>gd (xs.length<sizeLine) (.ok .non<|S.set n<|.lst<|xs++[x])
 | _,_=>.no
def Fj:Ot X "list.append" (rM X Aa):=λai s σ H x vs v us Q I rx g h9=>by
 obtain⟨ρ,S,o,as,R,f,va,h⟩:=h9
 cases f with
 | @ref p n hp=>
  match as,va,h with
  | [],_,h=>exact h.elim
  | _::_::_,_,h=>exact h.elim
  | [y],va,h=>
   obtain⟨w,rfl,hw⟩:=Um va;kd_p;obtain⟨j,h⟩:=kO h;obtain⟨d,h1,r⟩:=R.lst hp<|kI hn;obtain⟨ex,k⟩:=R.put hp (kI hn)<|r.append<|.one hw;exact y_ ai s σ H _ _ v us Q I rx g ⟨p,d,w,rfl,rfl,h1,by rw[<- r.length];exact j,h _ _ _ ex k .non⟩
 | _=>exact h.elim
abbrev ZT (o:A)(as:ae)(S:j5):R A:=match o,as with
 | .ref n,[]=>opt (j4 S n) λxs=>opt (xs[xs.length-1]?) λx=>.ok x (S.set n<|.lst xs.dropLast)
 | _,_=>.no
def AVs.dropLast{K:au}{H:Hp}{xs:ae}{vs:List V}(r:AVs K ρ H xs vs):AVs K ρ H xs.dropLast vs.dropLast:=by
 rw[List.dropLast_eq_take,List.dropLast_eq_take,r.length];exact r.take _
def abO:Ot X "list.pop" (rM X ZT):=λai s σ H x vs v us Q I rx g h9=>by
 obtain⟨ρ,S,o,as,R,f,va,h⟩:=h9
 cases f with
 | @ref p n hp=>
  match as,va,h with
  | _::_,_,h=>exact h.elim
  | [],va,h=>
   cases va
   kd_p;obtain⟨y,hy,h⟩:=kj h;obtain⟨d,h1,r⟩:=R.lst hp<|kI hn;obtain⟨w,hw,k⟩:=r.get hy;obtain⟨ex,j⟩:=R.put hp (kI hn) r.dropLast;exact aaD ai s σ H _ _ v us Q I rx g ⟨p,d,w,rfl,rfl,h1,by rw[<- r.length];exact hw,h _ _ _ ex j<|k.ext ex⟩
 | _=>exact h.elim
abbrev HC (o:A)(as:ae)(S:j5):R A:=match o,as with
 | .ref n,[.int i]=>opt (j4 S n) λxs=>gd (-(2 ^ 63)<=i/\i<2 ^ 63) (opt (seqIndex? i xs.length) λk=>opt (xs[k]?) λx=>.ok x<|S.set n<|.lst<|xs.eraseIdx k)
 | _,_=>.no
def VZ:Ot X "list.pop" (rM X HC):=λai s σ H x vs v us Q I rx j h9=>by
 obtain⟨ρ,S,o,as,R,f,va,h⟩:=h9
 cases f with
 | @ref p n hp=>
  match as,va,h with
  | [],_,h=>exact h.elim
  | y::_::_,_,h=>exact(by cases y<;>exact h.elim)
  | [y],va,h=>
   obtain⟨w,rfl,hw⟩:=Um va
   cases hw with
   | int i=>
    kd_p;obtain⟨hi,h⟩:=kO h;obtain⟨k,g,h⟩:=kj h;obtain⟨y,hy,h⟩:=kj h;obtain⟨d,h1,r⟩:=R.lst hp<|kI hn;obtain⟨w,hw,q⟩:=r.get hy;obtain⟨ex,m⟩:=R.put hp (kI hn)<|r.eraseIdx k;exact SY ai s σ H _ _ v us Q I rx j ⟨p,d,i,k,w,rfl,rfl,h1,hi.1,hi.2,by rw[<- r.length];exact g,hw,h _ _ _ ex m<|q.ext ex⟩
   | _=>exact h.elim
 | _=>exact h.elim
end
abbrev lI (N:ar)(m:Sm)(as:ae)(S:j5):R A:=match m (as++List.replicate (N.length-as.length) .unb) S with
 | .rt a d=>.ok a d
 | .nx _ d=>.ok .non d
 | .ex c d=>.ex c d
 | _=>.no
abbrev uN (K:au)(n:Nat)(F:ae->j5->R A):Sp:=λvs H Q _=>vs.length=n/\∃ρ S as a d,Rel K ρ H S/\AVs K ρ H as vs/\F as S=.ok a d/\∀ρ' H' v,Ext ρ ρ' H H'->Rel K ρ' H' d->AV K ρ' H' a v->Q v H'
def Er{K:au}{H:Hp}{as:ae}(r:AVs K ρ H as vs)(N:ar):SR K ρ H (as++List.replicate (N.length-as.length) .unb) (L2.start N vs):=by
 have d:=r.length;refine⟨by unfold L2.start;simp[d],λi a h=>?_⟩;by_cases hi:i<as.length
 ·rw[bE hi]at h;obtain⟨v,hv,f⟩:=r.get h;exact .inr ⟨v,by unfold L2.start;rw[bE<|by simp;lia,aQ,hv];rfl,f⟩
 ·rw[gu (),fR]at h;split at h
  ·exact .inl (bB h).symm
  ·cases h
section
variable {P:aj}{w:ah}{K:au}{mg:Str->bd}{base:aq}
def yZ{x:Str}{st:aF}{f:ak}{fd:FuncData}{N ps:ar}{k:Nat}{m:Sm}(F:Fun K x qual st f fd)(U:FnScope N ps<|j_ st)
  (body:∀(cdv:af) (A:aA) (outer:List Env) (s:aC) (H:Hp) (E:XK),Room k (A.deeper<|envOfC qual (j_ st) s.heap.objs.size f cdv)->MC (ye t8 P w K mg base N qual (j_ st) f cdv A outer s H E).nox (oW st) m) :
  FnOk P w K mg base t8 (k+1) f fd ps (uN K ps.length<|lI N m):=by
 refine F.ok U (λvs H Q E h=>h.1) λcdv B outer s H vs Q E C ⟨G,ρ,S,as,a,J,R,va,d,q⟩=>⟨_,body cdv B outer s H E C,ρ,S,_,R,Er va N,?_⟩;unfold lI at d
 cases g:m (as++List.replicate (N.length-as.length) .unb) S with
 | rt b S2=>rw[g]at d;cases d;exact q
 | nx τ S2=>rw[g]at d;cases d;exact λρ' H' j e p _=>q ρ' H' _ e p .non
 | bk τ S2=>rw[g]at d;cases d
 | ct τ S2=>rw[g]at d;cases d
 | ex c S2=>rw[g]at d;cases d
 | no=>rw[g]at d;cases d
end
meta abbrev rV (P:aj)(w:ah)(K:au)(mg:Str->bd)(base:aq)(k:Nat)(x:Str)(ps:ar)(F:ae->j5->R A):Prop:=Kn P w K mg base k x ps<|uN K ps.length F
abbrev eFn (F:ae->j5->R A)(d:rT):Ex:=λτ S=>(d τ S).bind λas S1=>match F as S1 with
 | .ok a S2=>.ok a S2
 | _=>.no
section
variable {X:Cx}{pos p:Pos}{e:aE}{es:List aE}{x:Str}{ps:ar}{k:Nat}{F:ae->j5->R A}{d:rT}
def zm(G:rV X.prog X.w X.K X.mg X.base k x ps F)(Z:Room k X.A)(ha:AL X (e::es) d)(hl:∀τ S as S',d τ S=.ok as S'->as.length=ps.length)(hg:Gl X x<|>ε)(U:(x == ("__debug__" : Str))=false<|>δ)
  (hs:starEach (e::es) X.env=(false,eval e X.env)::starEach es X.env<|>ε) (J:((backTo pos<|starEach es X.env).any (·.1)=false)<|>ε):AE X (.Call (.Name x p) (e::es) [] pos) (eFn F d):=
 PE.imp (abB G Z ha hg U hs J) λσ H Q h9=>by
  room;refine⟨ρ,S,τ,R,r,?_⟩;have hb:=kh h
  cases f:d τ S with
  | no=>rw[f]at hb;exact hb
  | ex c S1=>rw[f]at hb;exact hb
  | ok as S1=>
   rw[f]at hb;intro ρ1 H1 vs e1 R1 v1;rw[bR];refine⟨by rw[<- v1.length];exact hl τ S as S1 f,ρ1,S1,as,?_⟩;have hb:Am.R.post (match F as S1 with
    | .ok a S2=>.ok a S2
    | _=>.no) (zQ X ρ H Q) (XE X ρ H):=hb
   cases g:F as S1 with
   | ok a S2=>rw[g]at hb;exact⟨a,S2,R1,v1,rfl,λρ2 H2 v e2=>hb ρ2 H2 v<|e1.trans e2⟩
   | ex c S2=>rw[g]at hb;exact hb.elim
   | no=>rw[g]at hb;exact hb.elim
def l5:∀τ S as S',ki τ S=.ok as S'->as.length=0:=λτ S as S' h=>by cases h;rfl
def kB{c:Ex}{d:rT}{n:Nat}(h:∀τ S as S',d τ S=.ok as S'->as.length=n):∀τ S as S',jY c d τ S=.ok as S'->as.length=n+1:=λτ S as S' e=>by
 unfold jY at e
 cases hc:c τ S with
 | ok a S1=>
  rw[hc]at e
  cases f:d τ S1 with
  | ok bs S2=>
   have e:R.bind (d τ S1) (λas S2=>.ok (a::as) S2)=.ok as S':=e;rw[f]at e;cases e;rw[bH,h τ S1 bs _ f]
  | ex _ _=>
   have e:R.bind (d τ S1) (λas S2=>.ok (a::as) S2)=.ok as S':=e;rw[f]at e;cases e
  | no=>
   have e:R.bind (d τ S1) (λas S2=>.ok (a::as) S2)=.ok as S':=e;rw[f]at e;cases e
 | ex _ _=>rw[hc]at e;cases e
 | no=>rw[hc]at e;cases e
end
section
variable {X:Cx}{pos:Pos}{a b c:aE}
abbrev kCh (J:A->A->j5->R A)(U:Ex)(τ:ae)(b k:A)(S:j5):R A:=match k with
 | .bl true=>(U τ S).bind λc d=>J b c d
 | .bl false=>.ok (.bl false) S
 | _=>.no
abbrev Sj (f J:A->A->j5->R A)(ca cb U:Ex):Ex:=λτ S=>(ca τ S).bind λa S1=>(cb τ S1).bind λb S2=>(f a b S2).bind λk S3=>kCh J U τ b k S3
def Y0{f U:A->A->j5->R A}{ca cb Z:Ex}{H:Hp}{Q:VK}(h:tE X (Sj f U ca cb Z) σ H Q):NQ (r2 X f) (r2 X U) (tE X ca) (tE X cb) (tE X Z) σ H Q:=by
 kln_w;refine⟨ρ,S,τ,R,r,j6 (kh h) .refl λa S1 h1 ρ1 H1 x e1 R1 v1=>⟨ρ1,S1,τ,R1,r.ext e1,j6 (kh h1) e1 λb S2 h2 ρ2 H2 y e2 R2 v2=>?_⟩⟩;have g:=e1.trans e2;refine⟨ρ2,S2,a,b,R2,v1.ext e2,v2,j6 (kh h2) g λk S3 h3 ρ3 H3 z e3 R3 p=>?_⟩;have d:=g.trans e3
 cases k with
 | bl k=>
  cases Gv p
  refine⟨k,rfl,?_⟩
  cases k with
  | true=>
   rw[aO rfl];exact⟨ρ3,S3,τ,R3,r.ext d,j6 (kh h3) d λc J G m K w j B C=>⟨m,J,b,c,B,v2.ext<|e3.trans j,C,j6 G (d.trans j) λ_ _ q=>q.ext<|d.trans j⟩⟩
  | false=>
   rw[aM br];exact h3 ρ3 H3 _ d R3<|.bl false
 | _=>exact h3.elim
def Xe{f U:A->A->j5->R A}{ca cb Z:Ex}(ho:qx X (compareOp op)<|r2 X f)(J:qx X (compareOp op')<|r2 X U)(ha:AE X a ca)(hb:AE X b cb)(hc:AE X c Z)(hm:lastMarks [op,op'] [b,c]=false<|>θ) :
  AE X (.Compare a [op,op'] [b,c] pos) (Sj f U ca cb Z):=PE.imp (Sh ho J ha hb hc hm) λ_ _ _ h=>Y0 h
abbrev A.flat:A->Bool
 | .non=>true
 | .bl _=>true
 | .int _=>true
 | .str _=>true
 | _=>false
abbrev eqF:A->A->Bool
 | .non,.non=>true
 | .bl a,.bl b=>a == b
 | .bl a,.int b=>(if a then 1 else 0) == b
 | .int a,.bl b=>a == (if b then 1 else 0)
 | .int a,.int b=>a == b
 | .str a,.str b=>a == b
 | _,_=>false
def VA{K:au}{H:Hp}{x:A}{v:V}(h:AV K ρ H x v)(f:x.flat=true):wO v=true:=by cases h<;>first|rfl|cases f
def Yb{K:au}{H:Hp}{x y:A}{v:V}(h:AV K ρ H x v)(h':AV K ρ H y u)(f:x.flat=true)(J:y.flat=true):Ua v u=eqF x y:=by
 cases h<;>cases h'<;>first|rfl|(cases f;done)|(cases J;done)
theorem Qz{K:au}{H:Hp}{x:A}{v:V}(h:AV K ρ H x v)(f:x.flat=true):∀{ys:ae}{us:List V},AVs K ρ H ys us->ys.all A.flat=true->inV v us=(ys.any λz=>eqF z x)/\us.all wO=true
 | _,_,.nil,_=>⟨rfl,rfl⟩
 | y::ys,u::us,.cons hy t,fs=>by
  rw[iX,bZ]at fs;obtain⟨h1,h2⟩:=Qz h f t fs.2;refine⟨?_,by rw[iX,VA hy fs.1,h2];rfl⟩;show(Ua u v || inV v us)=_;rw[h1,Yb hy h fs.1 f];rfl
abbrev Sw (S:j5)(x:A):ae->bj
 | []=>some false
 | z::zs=>(W7 S 12 z x).bind λp=>(Sw S x zs).map λq=>p || q
abbrev ZP (J:Bool)(x y:A)(S:j5):R A:=match x with
 | .int _=>opt (y.seq S) λys=>opt (Sw S x ys) λb=>.ok (.bl<|if J then !b else b) S
 | _=>.no
theorem Je{t:Int}:∀{ys:ae}{b:Bool},Sw S (.int t) ys=some b->ys.all A.flat=true/\b=ys.any λz=>eqF z (.int t)
 | [],b,h=>by cases h;exact⟨rfl,rfl⟩
 | z::zs,b,h=>by
  obtain⟨p,hp,h⟩:=cZ.mp h;obtain⟨q,f,rfl⟩:=bh.mp h;obtain⟨a,rfl⟩:=Je f
  rcases SD hp with⟨i,j,rfl,d,rfl⟩|⟨_,_,_,d,_⟩|⟨_,_,_,d,_⟩|⟨_,_,_,_,d,_⟩<;>cases d
  exact⟨by rw[iX,a];rfl,rfl⟩
def Ol{J:Bool}{x y:A}{P:A->j5->Prop}{E:Str->j5->Prop}(h:(ZP J x y S).post P E):∃t ys,x=.int t/\y.seq S=some ys/\ys.all A.flat=true/\P (.bl<|if J then !(ys.any λz=>eqF z<|.int t)else ys.any λz=>eqF z<|.int t) S:=by
 unfold ZP at h;split at h
 ·obtain⟨ys,hy,h⟩:=kj h;obtain⟨k,d,h⟩:=kj h;obtain⟨a,rfl⟩:=Je d;exact⟨_,ys,rfl,hy,a,h⟩
 ·exact h.elim
def acB(J:X.A.units+64<cLine):qx X (compareOp .In) (r2 X<|ZP false):=λai s σ H x y v u Q I rx ry h9=>by
 z_go;obtain⟨t,ys,rfl,hy,fl,h⟩:=Ol h;obtain⟨p,us,rfl,hs,r⟩:=Sf R vb hy
 cases va
 obtain⟨d,f⟩:=Qz (x:=.int t) (.int t) rfl r fl;exact ME ai s σ H _ _ v u Q I rx ry ⟨p,us,rfl,hs,rfl,f,by rw[d];exact h _ _ _ .refl R<|.bl _⟩
end
abbrev kG (S:j5)(n:Nat):Option (List<|ag×A):=match S[n]? with
 | some (.dct xs)=>some xs
 | _=>none
def m9{n:Nat}(h:kG S n=some xs):S[n]?=some (.dct xs):=by
 unfold kG at h;split at h
 ·rename_i e;cases h;exact e
 ·cases h
def rJ{S:j5}{n:Nat}(h:S[n]?=some (.dct xs)):kG S n=some xs:=by
 unfold kG;rw[h]
abbrev l_ (kvs:List<|ag×A)(k:ag):Option A:=(kvs.find? λkv=>decide<|kv.1=k).map (·.2)
abbrev putD (kvs:List<|ag×A)(k:ag)(v:A):List (ag×A):=
 if (l_ kvs k).isSome=true then kvs.map (λkv=>if kv.1=k then(kv.1,v)else kv)else kvs++[(k,v)]
theorem EF:∀{a b:ag},a.map (Sum.inl:Int->Key)=b.map Sum.inl->a=b
 | [],[],_=>rfl
 | [],_::_,e=>by simp at e
 | _::_,[],e=>by simp at e
 | x::xs,y::ys,e=>by
  rw[bL,bL]at e
  injection e with e1 e2
  injection e1 with e1
  rw[e1,EF e2]
def Ac(ns:ag):(ns.map (Sum.inl:Int->Key)).map kV=ns.map V.int:=by rw[bF];rfl
section
variable {K:au}{ρ:bb}{H:Hp}
def yW{p:ag×A}{r:List<|ag×A}{k:ag}(e:p.1=k):l_ (p::r) k=some p.2:=by simp[l_,cO,e]
def zc{p:ag×A}{r:List<|ag×A}{k:ag}(e:¬p.1=k):l_ (p::r) k=l_ r k:=by simp[l_,cO,e]
theorem DV.look:∀{kvs:List<|ag×A}{ks:List<|List Key×V}(k:ag),DV K ρ H kvs ks->(l_ kvs k).isSome=(rq ks<|k.map Sum.inl).isSome/\∀x,l_ kvs k=some x->∃v,rq ks (k.map Sum.inl)=some v/\AV K ρ H x v
 | [],[],k,_=>⟨rfl,λx h=>nomatch h⟩
 | p::r,q::r',k,⟨⟨e,a⟩,t⟩=>by
  by_cases c:p.1=k
  ·have d:q.1=k.map Sum.inl:=by rw[e,c]
   rw[yW c,vI d];exact⟨rfl,λx h=>by cases h;exact⟨_,rfl,a⟩⟩
  ·have d:¬q.1=k.map Sum.inl:=λz=>c<|EF<|e.symm.trans z;rw[zc c,u9 d];exact DV.look k t
theorem DV.repl{x:A}{v:V}(h:AV K ρ H x v)(k:ag):∀{kvs:List<|ag×A}{ks:List<|List Key×V},DV K ρ H kvs ks->DV K ρ H (kvs.map λkv=>if kv.1=k then(kv.1,x)else kv) (ks.map λkv=>if kv.1=k.map Sum.inl then(kv.1,v)else kv)
 | [],[],_=>trivial
 | p::r,q::r',⟨⟨e,a⟩,t⟩=>by
  refine⟨?_,DV.repl h k t⟩;dsimp only;by_cases c:p.1=k
  ·rw[aO c,aO<|by rw[e,c]];exact⟨e,h⟩
  ·rw[aM c,aM λz=>c<|EF<|e.symm.trans z];exact⟨e,a⟩
theorem DV.snoc{x:A}{v:V}(h:AV K ρ H x v)(k:ag):∀{kvs:List<|ag×A}{ks:List<|List Key×V},DV K ρ H kvs ks->DV K ρ H (kvs++[(k,x)]) (ks++[(k.map Sum.inl,v)])
 | [],[],_=>⟨⟨rfl,h⟩,trivial⟩
 | p::r,q::r',⟨a,t⟩=>⟨a,DV.snoc h k t⟩
def DV.put{x:A}{v:V}(h:AV K ρ H x v)(k:ag)(d:DV K ρ H kvs ks):DV K ρ H (putD kvs k x) (putK ks (k.map Sum.inl) v):=by
 unfold putD putK;rw[yh,<- (d.look k).1];by_cases c:(l_ kvs k).isSome=true
 ·rw[aO c,aO c];exact DV.repl h k d
 ·rw[aM c,aM c];exact DV.snoc h k d
def DV.length:∀{kvs:List<|ag×A}{ks:List<|List Key×V},DV K ρ H kvs ks->kvs.length=ks.length
 | [],[],_=>rfl
 | _::_,_::_,⟨_,t⟩=>dG (·+1) t.length
def Rel.dct{n:Nat}{a:ak}(R:Rel K ρ H S)(ha:ρ[n]?=some a)(hS:S[n]?=some (.dct xs)):∃vs,H a=some (.dT vs)/\DV K ρ H xs vs:=R.at n a _ ha hS
def Rel.adT{S:j5}{p:ak}(R:Rel K ρ H S)(hp:H p=none)(r:DV K ρ H xs vs):Ext ρ (ρ++[p]) H (upd H p<|.dT vs)/\Rel K (ρ++[p]) (upd H p<|.dT vs) (S++[.dct xs])/\(ρ++[p])[S.length]?=some p:=by
 have ex:Ext ρ (ρ++[p]) H (upd H p<|.dT vs):=⟨⟨eS _ _,λa u _ h=>by rw[j8<|kF h hp];exact h⟩,λa u h _=>by rw[j8<|kF h hp];exact h,λa h=>by
  rcases bq.mp h with z|z
  ·exact .inl z
  ·have e:a=p:=by simpa using z
   rw[e];exact .inr hp⟩
 have np:p∉ρ:=R.FN hp;have d:(ρ++[p])[S.length]?=some p:=by rw[<- R.len];simp
 refine⟨ex,⟨by simp[R.len],?_,?_⟩,d⟩
 ·rw[b8];o_rec;have:b=p:=by simpa using hb
  exact np<|by rw[<- this,<- e];exact ha
 ·intro n a o h1 h2;by_cases hn:n<S.length
  ·rw[bE<|by rw[R.len];exact hn]at h1;rw[bE hn]at h2;have na:a≠p:=λz=>np (by rw[<- z];exact aW h1);have:=R.at n a o h1 h2
   cases o with
   | lst ys=>obtain⟨f,e,q⟩:=this;exact⟨f,by rw[j8 na];exact e,q.ext ex⟩
   | dct _|rC _|dks _|dcp _=>obtain⟨f,e,q⟩:=this;exact⟨f,by rw[j8 na];exact e,q.ext ex⟩
   | dcf _|dkf _=>obtain⟨g,f,e,q⟩:=this;exact⟨g,f,by rw[j8 na];exact e,q.ext ex⟩
   | ins _ _=>obtain⟨g,j,e⟩:=this;exact⟨g,j,by rw[j8 na];exact e⟩
  ·have e:n=S.length:=by
    have:=(aJ.mp h2).1;simp at this;omega
   subst e;rw[d]at h1
   cases h1
   simp at h2;subst h2;exact⟨vs,kP,r.ext ex⟩
def Rel.putD{S:j5}{n:Nat}{a:ak}(R:Rel K ρ H S)(ha:ρ[n]?=some a)(hS:S[n]?=some (.dct xs))(r:DV K ρ H ys ws):Ext ρ ρ H (upd H a<|.dT ws)/\Rel K ρ (upd H a<|.dT ws) (S.set n<|.dct ys):=by
 obtain⟨vs,e,_⟩:=R.at n a _ ha hS;have ex:Ext ρ ρ H (upd H a<|.dT ws):=⟨⟨dU _,λb u i h=>by
  have:b≠a:=by
   intro z;subst z;rw[e]at h;cases h;exact i
  rw[j8 this];exact h⟩,λb u h n=>by
  rw[j8 λz=>n<|by rw[z];exact aW ha];exact h,λ_ h=>.inl h⟩
 refine⟨ex,by rw[bW];exact R.len,R.nd,λm b o h1 h2=>?_⟩;by_cases j:m=n
 ·subst j;rw[ha]at h1;cases h1;rw[bP (aJ.mp hS).1]at h2
  cases h2
  exact⟨ws,kP,r.ext ex⟩
 ·rw[bV<|Ne.symm j]at h2;have nb:b≠a:=λz=>by
   subst z;obtain⟨B,e1⟩:=aJ.mp ha;obtain⟨p,e2⟩:=aJ.mp h1;exact j<|(dF R.nd).mp<|e2.trans e1.symm
  have:=R.at m b o h1 h2
  cases o with
  | lst ys=>obtain⟨d,f,q⟩:=this;exact⟨d,by rw[j8 nb];exact f,q.ext ex⟩
  | dct _|rC _|dks _|dcp _=>obtain⟨d,f,q⟩:=this;exact⟨d,by rw[j8 nb];exact f,q.ext ex⟩
  | dcf _|dkf _=>obtain⟨g,d,f,q⟩:=this;exact⟨g,d,by rw[j8 nb];exact f,q.ext ex⟩
  | ins _ _=>obtain⟨g,k,f⟩:=this;exact⟨g,k,by rw[j8 nb];exact f⟩
end
section
variable {X:Cx}{pos:Pos}{a b:aE}
def DK{H:Hp}{p q:ak}{n:Nat}{ns:ag}(R:Rel X.K ρ H S)(hp:ρ[n]?=some p)(hn:kG S n=some kvs)(J:H q=some (.tup vs))(r:AVs X.K ρ H xs vs)(hi:A.ints xs=some ns) :
  ∃ks,H p=some (.dT ks)/\DV X.K ρ H kvs ks/\H q=some (.tup<|(ns.map (Sum.inl:Int->Key)).map kV)/\w4 H p (.ref q) (rq ks<|ns.map Sum.inl):=by
 obtain⟨ks,e,d⟩:=R.dct hp<|m9 hn;have z:=wj r hi;subst z;rw[<- Ac]at J;exact⟨ks,e,d,J,w4.t e J⟩
abbrev zC (x y:A)(S:j5):R A:=match x,y with
 | .ref n,.tup xs=>opt (kG S n) λd=>opt (A.ints xs) λns=>opt (l_ d ns) λv=>.ok v S
 | _,_=>.no
def acs(J:X.A.units+64<cLine):Xi X (r2 X zC):=λj f ai s σ H x y v u Q I rx ry ⟨ρ,S,a,b,R,va,vb,h⟩ hs=>by
 cases va with
 | @ref p n hp=>
  cases vb with
  | @tup q xs vs k r=>
   obtain⟨B,hn,h⟩:=kj h;obtain⟨ns,hi,h⟩:=kj h;obtain⟨z,m,h⟩:=kj h;obtain⟨ks,e,d,C,g⟩:=DK R hp hn k r hi;obtain⟨w,hw,G⟩:=(d.look ns).2 z m;rw[hw]at g;exact KO (by omega) j f ai s σ H _ _ v u Q I rx ry ⟨p,w,rfl,g,h _ _ _ .refl R G⟩ hs
  | _=>exact h.elim
 | _=>exact h.elim
def Ec(J:X.A.units+64<cLine){ca cb:Ex}(ha:AE X a ca)(hb:AE X b cb)(hs:Aj b<|>ι):AE X (.Subscript a b pos) (ko zC ca cb):=PE.imp (Qq (acs J) ha hb hs) λσ H Q h=>wB h
abbrev M6 (J:Bool)(x y:A)(S:j5):R A:=match x,y with
 | .tup xs,.ref n=>opt (kG S n) λd=>opt (A.ints xs) λns=>.ok (.bl<|if J then !(l_ d ns).isSome else(l_ d ns).isSome) S
 | _,_=>.no
def Gs(J:X.A.units+64<cLine):qx X (compareOp .NotIn) (r2 X<|M6 true):=λai s σ H x y v u Q I rx ry h9=>by
 z_go
 cases va with
 | @tup q xs vs f r=>
  cases vb with
  | @ref p n hp=>
   obtain⟨j,hn,h⟩:=kj h;obtain⟨ns,hi,h⟩:=kj h;obtain⟨ks,e,d,k,g⟩:=DK R hp hn f r hi;exact MQ (by omega) ai s σ H _ _ v u Q I rx ry ⟨p,_,rfl,g,by rw[<- (d.look ns).1];exact h _ _ _ .refl R<|.bl _⟩
  | _=>exact h.elim
 | _=>exact h.elim
abbrev AA (o i v:A)(S:j5):R Unit:=match o,i with
 | .ref n,.tup xs=>opt (kG S n) λd=>opt (A.ints xs) λns=>gd (d.length<sizeLine) (.ok Unit.unit<|S.set n<|.dct<|putD d ns v)
 | _,_=>.no
abbrev ac0 (X:Cx):Fg:=λo i v H Q=>∃ρ S d f g,Rel X.K ρ H S/\AV X.K ρ H d o/\AV X.K ρ H f i/\AV X.K ρ H g v/\(AA d f g S).post (λ_ j=>∀ρ' H',Ext ρ ρ' H H'->Rel X.K ρ' H' j->Q H') (XE X ρ H)
def Ul(U:X.A.units+64<cLine):HJ X (ac0 X):=λai s σ H o i v K iv u Q I j B m h9=>by
 obtain⟨ρ,S,M,N,L,R,h1,h2,h3,h⟩:=h9
 cases h1 with
 | @ref p n hp=>
  cases h2 with
  | @tup q xs vs k r=>
   obtain⟨G,hn,h⟩:=kj h;obtain⟨ns,hi,h⟩:=kj h;obtain⟨C,h⟩:=kO h;obtain⟨ks,e,d,f,g⟩:=DK R hp hn k r hi;obtain⟨ex,J⟩:=R.putD hp (m9 hn)<|d.put h3 ns;exact set_dict () ai s σ H _ _ v K iv u Q I j B m ⟨p,_,rfl,FO.t e f<|by rw[<- d.length];exact C,h _ _ ex J⟩
  | _=>exact h.elim
 | _=>exact h.elim
abbrev HF (co J:Ex):Tg:=λa τ S=>(co τ S).bind λo S1=>(J τ S1).bind λi S2=>(AA o i a S2).bind λ_ S3=>.ok τ S3
def zH(U:X.A.units+64<cLine){co J:Ex}(Z:AE X o co)(hi:AE X i J)
  (ha:(∀v,assign (.Subscript o i pos) X.env v=(do
   let ov <- holding [v] (eval o X.env)
   let iv <- holding [v,ov] (eval i X.env)
   standAt pos
   holding [v,ov,iv] (setItem ov iv v)
   release [v,ov,iv] []))<|>η):AG X (.Subscript o i pos) (HF co J):=PG.imp (Ih Z hi (Ul U) ha) λv σ H Q h9=>by
 obtain⟨ρ,S,τ,a,R,r,va,h⟩:=h9;gp_on;kcj_m;f_are
abbrev Cv:Ex:=λ_ S=>.ok (.ref S.length)<|S++[.dct []]
def z9:AE X (.Dict [] [] pos) Cv:=PE.imp PK λσ H Q ⟨ρ,S,τ,R,r,h⟩ p hp=>by
 obtain⟨ex,f,d⟩:=R.adT (xs:=[]) (vs:=[]) hp trivial;exact h _ _ _ ex f<|.ref d
abbrev QX (J cv:Ex):Ex:=λτ S=>(J τ S).bind λk S1=>(cv τ S1).bind λv S2=>match k with
 | .tup xs=>opt (A.ints xs) λns=>.ok (.ref S2.length) (S2++[.dct [(ns,v)]])
 | _=>.no
def Rel.acA{K:au}{H:Hp}{S:j5}{D:ak}(R:Rel K ρ H S)(J:H D=some (.dT us))(hn:D∉ρ)(r:DV K ρ H xs vs):Ext0 ρ (ρ++[D]) H (upd H D<|.dT vs)/\Rel K (ρ++[D]) (upd H D<|.dT vs) (S++[.dct xs])/\(ρ++[D])[S.length]?=some D:=by
 have ex:Ext0 ρ (ρ++[D]) H (upd H D<|.dT vs):=⟨eS _ _,λb u i h=>by
  have:b≠D:=by
   intro z;subst z;rw[J]at h;cases h;exact i
  rw[j8 this];exact h⟩
 have d:(ρ++[D])[S.length]?=some D:=by rw[<- R.len];simp
 refine⟨ex,⟨by simp[R.len],?_,λn a o h1 h2=>?_⟩,d⟩
 ·rw[b8];o_rec;have:b=D:=by simpa using hb
  exact hn<|by rw[<- this,<- e];exact ha
 ·by_cases hs:n<S.length
  ·rw[bE<|by rw[R.len];exact hs]at h1;rw[bE hs]at h2;have na:a≠D:=λz=>hn (by rw[<- z];exact aW h1);have:=R.at n a o h1 h2
   cases o with
   | lst ys=>obtain⟨f,e,q⟩:=this;exact⟨f,by rw[j8 na];exact e,AVs.mF ex q⟩
   | dct _|rC _|dks _|dcp _=>obtain⟨f,e,q⟩:=this;exact⟨f,by rw[j8 na];exact e,q.mF ex⟩
   | dcf _|dkf _=>obtain⟨g,f,e,q⟩:=this;exact⟨g,f,by rw[j8 na];exact e,q.mF ex⟩
   | ins _ _=>obtain⟨g,j,e⟩:=this;exact⟨g,j,by rw[j8 na];exact e⟩
  ·have e:n=S.length:=by
    have:=(aJ.mp h2).1;simp at this
    lia
   subst e;rw[d]at h1
   cases h1
   simp at h2;subst h2;exact⟨vs,kP,r.mF ex⟩
def U_(hu:X.A.units+64<cLine){k v:aE}{U cv:Ex}(Z:AE X k U)(hv:AE X v cv):AE X (.Dict [some k] [v] pos) (QX U cv):=PE.imp (P_ () Z hv) λσ H Q ⟨ρ,S,τ,R,r,h⟩ p hp=>by
 obtain⟨e0,B⟩:=R.im (u:=.dT []) hp;have np:p∉ρ:=R.FN hp;refine⟨ρ,S,τ,B,r.ext e0,j6 (kh h) e0 λa S1 h1 ρ1 H1 x e1 R1 v1=>⟨ρ1,S1,τ,R1,(r.ext e0).ext e1,j6 (kh h1) (e0.trans e1) λb S2 h2 ρ2 H2 y e2 R2 v2=>?_⟩⟩;have d:=e1.trans e2;have f:H2 p=some (.dT []):=d.fr p _ kP np;have g:p∉ρ2:=λm=>(d.nw p m).elim np λz=>by rw[kP]at z;cases z
 cases v1.ext e2 with
 | @tup q xs vs j G=>
  obtain⟨ns,hi,h2⟩:=kj h2;have z:=wj G hi;subst z;refine⟨f,q,ns.map Sum.inl,rfl,by rw[Ac];exact j,?_⟩;obtain⟨e3,R3,C⟩:=R2.acA (xs:=[(ns,b)]) (vs:=[(ns.map Sum.inl,y)]) f g ⟨⟨rfl,v2⟩,trivial⟩;refine h2 _ _ _ ⟨⟨(e0.trans d).pre.trans e3.pre,λc u i hc=>e3.im c u i<|(e0.trans d).im c u i hc⟩,λc u hc J=>?_,λc hc=>?_⟩ R3 (.ref C)
  ·rw[j8<|kF hc hp];exact(e0.trans d).fr c u hc J
  ·rcases bq.mp hc with z|z
   ·exact(e0.trans d).nw c z
   ·have:c=p:=by simpa using z
    rw[this];exact .inr hp
 | _=>exact h2.elim
abbrev dct? (a:A)(S:j5):Option Unit:=match a with
 | .ref n=>(kG S n).map λ_=>Unit.unit
 | _=>none
abbrev aad (f:A->ae->j5->R A)(co:Ex)(d:rT):Ex:=λτ S=>(co τ S).bind λx S1=>opt (dct? x S1) λ_=>(d τ S1).bind λas S2=>f x as S2
def dct?_ty{K:au}{H:Hp}{x:A}{v:V}(R:Rel K ρ H S)(a:AV K ρ H x v)(e:dct? x S=some u):tyV K "dict" v H:=by
 cases a with
 | @ref p n h=>
  obtain⟨xs,d,_⟩:=bh.mp e;obtain⟨vs,h1,_⟩:=R.dct h<|m9 d;exact .inr<|.inr<|.inl ⟨rfl,.inr ⟨vs,h1⟩⟩
 | _=>cases e
def XW{e:aE}{id:String}{apos cpos:Pos}{f:A->ae->j5->R A}{co:Ex}{d:rT}(slot:Slot "dict" name id)(hty:typeOf (.builtin id)=pure (.type "method_descriptor"))(hm:Ot X id<|rM X f)(ho:AE X o co)(ha:AL X (e::es) d)
  (U:attributeBase o name X.env (eval o X.env)=eval o X.env<|>ε)
  (hfew:(((backTo cpos<|starEach (e::es) X.env).all (λx=>!x.1) && (backToKw cpos<|keywordEach [] X.env).all (λx=>x.1.isSome)
   && decide ((e::es).length+([]:List Keyword).length+(if ([]:List Keyword).isEmpty then 0 else 1)<30))=true)<|>ε)
  (Z:(apos.endLine == cpos.line)=true<|>ε) (hs:starEach (e::es) X.env=(false,eval e X.env)::starEach es X.env<|>ε) (J:((backTo cpos<|starEach es X.env).any (·.1)=false)<|>ε) :
  AE X (.Call (.Attribute o name apos) (e::es) [] cpos) (aad f co d):=PE.imp (Pc iu slot hty hm ho ha U hfew Z hs J) λσ H Q h9=>by
 room;kpf_c;obtain⟨xs,g,h1⟩:=kj h1;refine⟨dct?_ty R1 v1 g,ρ1,S1,τ,R1,r.ext e1,j6 (kh h1) e1 λas S2 h2 ρ2 H2 vs e2 R2 v2=>?_⟩;mg_lt
abbrev Yp (o:A)(as:ae)(S:j5):R A:=match o,as with
 | .ref n,[.tup xs,y]=>opt (kG S n) λd=>opt (A.ints xs) λk=>.ok ((l_ d k).getD y) S
 | _,_=>.no
def acD(U:X.A.units+64<cLine):Ot X "dict.get" (rM X Yp):=λai s σ H x vs v us Q I rx G h9=>by
 obtain⟨ρ,S,o,as,R,g,va,h⟩:=h9
 cases g with
 | @ref p n hp=>
  match as,va,h with
  | [],_,h=>exact h.elim
  | [z],_,h=>exact(by cases z<;>exact h.elim)
  | z::_::_::_,_,h=>exact(by cases z<;>exact h.elim)
  | [z,y],va,h=>
   obtain⟨N,B,rfl,k,hy⟩:=Zu va
   cases k with
   | @tup q xs M j L=>
    obtain⟨d,hn,h⟩:=kj h;obtain⟨ns,hi,h⟩:=kj h;have z:=wj L hi;subst z;obtain⟨ks,h1,K⟩:=R.dct hp<|m9 hn;refine Uu (by omega) ai s σ H _ _ v us Q I rx G ⟨p,q,ns.map Sum.inl,ks,B,rfl,rfl,h1,by rw[Ac];exact j,h _ _ _ .refl R ?_⟩;obtain⟨f,J⟩:=K.look ns
    cases e1:l_ d ns with
    | none=>
     rw[e1]at f
     cases e2:rq ks (ns.map Sum.inl)with
     | none=>exact hy
     | some _=>rw[e2]at f;cases f
    | some C=>
     obtain⟨v1,e2,m⟩:=J C e1;rw[e2];exact m
   | _=>exact h.elim
 | _=>exact h.elim
end
section
variable {X:Cx}{a b:aE}
abbrev M4 (p:ag×A):A:=.tup [.tup<|p.1.map .int,p.2]
abbrev adZ (a:A)(S:j5):R Src:=match a with
 | .ref n=>opt (kG S n) λd=>.ok (p5<|d.map M4) (S.set n<|.ins "" [])
 | _=>.no
abbrev MK (c:Ex):Ic:=λτ S=>(c τ S).bind λa S1=>adZ a S1
theorem Xy{K:au}{H:Hp}:∀{kvs:List<|ag×A}{ks:List<|List Key×V}{i:Nat}{p:ag×A},DV K ρ H kvs ks->kvs[i]?=some p->∃q,ks[i]?=some q/\q.1=p.1.map Sum.inl/\AV K ρ H p.2 q.2
 | [],[],_,_,_,h=>by simp at h
 | a::kvs,b::ks,0,p,⟨z,_⟩,h=>by
  have:a=p:=by simpa using h
  subst this;exact⟨b,rfl,z⟩
 | a::kvs,b::ks,i+1,p,⟨_,t⟩,h=>Xy (kvs:=kvs) (ks:=ks) (i:=i) t<|by simpa using h
def Rel.gone{K:au}{H:Hp}{S:j5}{n:Nat}{a:ak}(R:Rel K ρ H S)(ha:ρ[n]?=some a)(hS:S[n]?=some (.dct xs)):Ext ρ ρ H (upd H a<|.frz o u)/\Rel K ρ (upd H a<|.frz o u) (S.set n<|.ins "" []):=by
 obtain⟨vs,e,_⟩:=R.at n a _ ha hS;have ex:Ext ρ ρ H (upd H a<|.frz o u):=⟨⟨dU _,λb p i h=>by
  have:b≠a:=by
   intro z;subst z;rw[e]at h;cases h;exact i
  rw[j8 this];exact h⟩,λb p h nb=>by
  rw[j8 λz=>nb<|by rw[z];exact aW ha];exact h,λ_ h=>.inl h⟩
 refine⟨ex,by rw[bW];exact R.len,R.nd,λm b k h1 h2=>?_⟩;by_cases j:m=n
 ·subst j;rw[ha]at h1;cases h1;rw[bP (aJ.mp hS).1]at h2
  cases h2
  exact⟨o,u,kP⟩
 ·rw[bV<|Ne.symm j]at h2;have nb:b≠a:=λz=>by
   subst z;obtain⟨G,e1⟩:=aJ.mp ha;obtain⟨C,e2⟩:=aJ.mp h1;exact j<|(dF R.nd).mp<|e2.trans e1.symm
  have:=R.at m b k h1 h2
  cases k with
  | lst ys=>obtain⟨d,f,q⟩:=this;exact⟨d,by rw[j8 nb];exact f,q.ext ex⟩
  | dct _|rC _|dks _|dcp _=>obtain⟨d,f,q⟩:=this;exact⟨d,by rw[j8 nb];exact f,q.ext ex⟩
  | dcf _|dkf _=>obtain⟨g,d,f,q⟩:=this;exact⟨g,d,by rw[j8 nb];exact f,q.ext ex⟩
  | ins _ _=>obtain⟨g,B,f⟩:=this;exact⟨g,B,by rw[j8 nb];exact f⟩
def Qe{apos cpos:Pos}{e:aE}{c:Ex}(ha:AE X e c)(hbase:attributeBase e "items" X.env (eval e X.env)=eval e X.env<|>ε)(hline:(apos.endLine == cpos.line)=true<|>ε) :
  AI X (.Tuple elts x1 tpos) (.Call (.Attribute e "items" apos) [] [] cpos) (MK c):=λai s σ H Q I h9=>by
 room;refine QH ha hbase hline ai s σ H Q I ⟨ρ,S,τ,R,r,j6 (kh h) .refl λx S1 h1 ρ1 H1 v e1 R1 v1=>?_⟩
 cases v1 with
 | @ref p n hp=>
  obtain⟨f,hn,h1⟩:=kj h1;obtain⟨ks,O,B⟩:=R1.dct hp<|m9 hn;refine⟨p,ks,rfl,O,λo ps pl m=>?_⟩;obtain⟨ex,R2⟩:=R1.gone (o:=o) (u:=.dT ks) hp<|m9 hn;have dl:=B.length;refine h1 ρ1 _ _ (e1.trans ex) R2 ⟨λi S2 H2 ρ2 y e2 R3 g=>?_,λS2 H2 ρ2 e2 R3 _=>⟨?_,e2.im _ _ trivial kP⟩⟩
  ·have g:(f.map M4)[i]?=some y:=g;rw[aQ]at g;obtain⟨kv,J,rfl⟩:=bh.mp g;obtain⟨q,C,U,W⟩:=Xy B J;have hi:i<ps.length:=by rw[pl];exact(aJ.mp C).1
   obtain⟨k,e3,K⟩:=m i ps[i].1 ps[i].2 (aH hi);rw[C]at e3
   cases e3
   refine⟨⟨ps[i].1,ps[i].2,aH hi,e2.im _ _ trivial kP⟩,λZ H' N=>?_⟩;obtain⟨T,P,rfl,L⟩:=N;have j:=L _ _<|aH hi;subst j;obtain⟨d,Y⟩:=R3.im (u:=.tup [.ref ps[i].1,ps[i].2]) P;have G:H2 ps[i].1=some (.tup<|k.map kV):=e2.im _ _ trivial<|ex.toExt0.im _ _ trivial K;have M:k.map kV=kv.1.map V.int:=by rw[show k=kv.1.map Sum.inl from U,Ac]
   rw[M]at G;exact⟨d,Y,.tup kP<|.cons ((AV.tup G<|qi _).ext d)<|.cons (((W.mF ex.toExt0).mF e2).ext d) .nil⟩
  ·show(f.map M4).length=ps.length;rw[aK,dl,pl]
 | _=>exact h1.elim
end
abbrev su (s:Src)(g:Tg)(t:Te)(e:Ex):Nat->Nat->ae->j5->R (ae×ae)
 | 0,_=>λτ S=>if s.fin S then .ok ([],τ) S else .no
 | k+1,i=>λτ S=>opt (s.get i S) λx=>(g x τ S).n5 λd S1=>(t d S1).n5 λb S2=>match b with
  | true=>(e d S2).n5 λy S3=>(su s g t e k (i+1) d S3).n5 λp f=>.ok (y::p.1,p.2) f
  | false=>su s g t e k (i+1) d S2
abbrev qT (s:Src)(g:Tg)(t:Te)(src2:Ic)(g2:Tg)(t2:Te)(e:Ex):Nat->Nat->ae->j5->R (ae)
 | 0,_=>λ_ S=>if s.fin S then .ok [] S else .no
 | k+1,i=>λτ S=>opt (s.get i S) λx=>(g x τ S).n5 λd S1=>(t d S1).n5 λb S2=>match b with
  | true=>(src2 d S2).n5 λf S3=>(su f g2 t2 e f.k 0 d S3).n5 λp m=>(qT s g t src2 g2 t2 e k (i+1) p.2 m).n5 λys j=>.ok (p.1++ys) j
  | false=>qT s g t src2 g2 t2 e k (i+1) d S2
abbrev HG (cap:List<|bo)(src:Ic)(g:Tg)(t:Te)(src2:Ic)(g2:Tg)(t2:Te)(e:Ex):Ex:=λτ S=>(src τ S).bind λs S1=>(qT s g t src2 g2 t2 e s.k 0 (ng cap τ) S1).n5 λys S2=>newL ys S2
def GR{s:Src}{g:Tg}{t:Te}{e:Ex}{k:Nat}{T:Prop}(h:su s g t e (k+1) i τ S=.ok (zs,τ') S')
  (q:∀x τ1 S1 b S2,s.get i S=some x->g x τ S=.ok τ1 S1->t τ1 S1=.ok b S2->(b=true->∃y S3 ws,e τ1 S2=.ok y S3/\su s g t e k (i+1) τ1 S3=.ok (ws,τ') S'/\zs=y::ws)->(b=false->su s g t e k (i+1) τ1 S2=.ok (zs,τ') S')->T):T:=by
 obtain⟨x,f,h⟩:=HE h;obtain⟨τ1,S1,h1,h⟩:=mZ h;obtain⟨b,S2,h2,h⟩:=mZ h;refine q x τ1 S1 b S2 f h1 h2 (λhb=>?_) λhb=>?_
 ·subst hb;obtain⟨y,S3,h3,h⟩:=mZ h;obtain⟨⟨ws,j⟩,m,d,h⟩:=mZ h
  cases h
  exact⟨y,S3,ws,h3,d,rfl⟩
 ·subst hb;exact h
def E1{s:Src}{g:Tg}{t:Te}{src2:Ic}{g2:Tg}{t2:Te}{e:Ex}{k:Nat}{T:Prop}(h:qT s g t src2 g2 t2 e (k+1) i τ S=.ok zs S')
  (q:∀x τ1 S1 b S2,s.get i S=some x->g x τ S=.ok τ1 S1->t τ1 S1=.ok b S2->(b=true->∃s2 S3 ps τ2 S4 ws,src2 τ1 S2=.ok s2 S3/\su s2 g2 t2 e s2.k 0 τ1 S3=.ok (ps,τ2) S4/\qT s g t src2 g2 t2 e k (i+1) τ2 S4=.ok ws S'/\zs=ps++ws)->(b=false->qT s g t src2 g2 t2 e k (i+1) τ1 S2=.ok zs S')->T):T:=by
 obtain⟨x,d,h⟩:=HE h;obtain⟨τ1,S1,h1,h⟩:=mZ h;obtain⟨b,S2,h2,h⟩:=mZ h;refine q x τ1 S1 b S2 d h1 h2 (λhb=>?_) λhb=>?_
 ·subst hb;obtain⟨s2,S3,h3,h⟩:=mZ h;obtain⟨⟨ps,τ2⟩,S4,f,h⟩:=mZ h;obtain⟨ws,m,j,h⟩:=mZ h
  cases h
  exact⟨s2,S3,ps,τ2,S4,ws,h3,f,j,rfl⟩
 ·subst hb;exact h
abbrev tI0 (K:au)(c:Ic):TI:=λσ H Q=>∃ρ S τ s d,Rel K ρ H S/\SR K ρ H τ σ/\c τ S=.ok s d/\∀ρ' H' J,Ext ρ ρ' H H'->Rel K ρ' H' d->JR K s J ρ' H'->Q J H'
section
variable {X:Cx}{pos:Pos}{tg iter tg2 iter2 elt e:aE}{ifs ifs2:List aE}{scope:Scope}{N:ar}{cap:List (bo)}{src src2:Ic}{g g2:Tg}{t t2:Te}{c:Ex}
def AI.i0{K:au}(hK:X.K=K)(h:AI X tg e src):PI X tg e (tI0 K src):=λai s σ H Q I ⟨ρ,S,τ,a,g,R,r,hc,q⟩=>h ai s σ H Q I ⟨ρ,S,τ,by rw[hK];exact R,by rw[hK];exact r,by rw[hc];exact λρ' H' J e f d=>q ρ' H' J e (by rw[<- hK];exact f)<|by rw[<- hK];exact d⟩
def QG(hc:X.calm=true)(Sc:CpScope X scope N cap)(hi:AI X tg iter src)(hg:∀C s₀ H₀ ex,AG (mG X scope N C s₀ H₀ ex) tg g)(ht:∀C s₀ H₀ ex,ATs (mG X scope N C s₀ H₀ ex) ifs t)(hi2:∀C s₀ H₀ ex,AI (mG X scope N C s₀ H₀ ex) tg2 iter2 src2)
  (hg2:∀C s₀ H₀ ex,AG (mG X scope N C s₀ H₀ ex) tg2 g2) (ht2:∀C s₀ H₀ ex,ATs (mG X scope N C s₀ H₀ ex) ifs2 t2) (he:∀C s₀ H₀ ex,AE (mG X scope N C s₀ H₀ ex) elt c)
  (hs:(∀x,foldedSetIterable iter X.env x=pure x)<|>η) (hs2:∀env x,foldedSetIterable iter2 env x=pure x:=by intro _ _;rfl):AE X (.ListComp elt [⟨tg,iter,ifs,0⟩,⟨tg2,iter2,ifs2,0⟩] scope pos) (HG cap src g t src2 g2 t2 c):=by
 refine PE.imp (Yo hc Sc hi (g:=tG0 X.K g) (tc:=XQ X.K t) (wi2:=tI0 X.K src2) (g2:=tG0 X.K g2) (tc2:=XQ X.K t2) (te:=tE0 X.K c) (λC s₀ H₀ ex=>(hg C s₀ H₀ ex).g0 rfl) (λC s₀ H₀ ex=>ht C s₀ H₀ ex) (λC s₀ H₀ ex=>(hi2 C s₀ H₀ ex).i0 rfl) (λC s₀ H₀ ex=>(hg2 C s₀ H₀ ex).g0 rfl) (λC s₀ H₀ ex=>ht2 C s₀ H₀ ex) (λC s₀ H₀ ex=>(he C s₀ H₀ ex).e0 rfl) hs hs2) λσ H Q h9=>?_;room;refine⟨ρ,S,τ,R,r,j6 (kh h) .refl λs S1 h1 ρ1 H1 J e1 R1 jr D hD=>?_⟩;obtain⟨ys,S2,hcg,h1⟩:=Bc h1;obtain⟨hlen,h1⟩:=kO h1;have h1:zQ X ρ H Q (.ref S2.length) (S2++[.lst ys]):=h1;obtain⟨eD,RD⟩:=R1.im (u:=.lst []) hD;refine⟨Cq X.K ρ1 H1 D ys s.k (λ_ _=>True) λm i τ S zs=>qT s g t src2 g2 t2 c m i τ S=.ok zs S2,⟨s.k,.of rfl ⟨eD.toExt0,λa u na hu _=>by rw[j8 na];exact hu,λa ha=>.inl ha,R1.FN hD,kP⟩ trivial RD (WR ((r.ext e1).ext eD) cap) .nil hcg rfl⟩,?_⟩;intro i m σ3 H3 hw;refine hw.el λρ3 S3 τ3 acc zs accV hm Z _ R3 r3 ac3 j M=>?_;clear hw
 cases m with
 | zero=>
  left;have j:(if s.fin S3 then Am.R.ok [] S3 else .no)=.ok zs S2:=j
  cases hf:s.fin S3 with
  | false=>rw[hf]at j;cases j
  | true=>
   rw[hf]at j
   cases j
   rw[bR]at M;subst M;refine⟨by rw[show i=s.k by lia];exact jr.stop _ H3 ρ3 Z.e0 R3 hf,?_⟩;obtain⟨RT,gt⟩:=R3.take Z.hD Z.nD ac3;exact h1 (ρ3++[D]) H3 _ (e1.trans<|Z.end hD) RT<|.ref gt
 | succ m=>
  right;refine E1 j λx τ4 S4 b S5 hx hg4 ht5 hT hF=>?_;have jg:=jr.go i S3 H3 ρ3 x Z.e0 R3 hx;refine⟨jg.1,λv H4 y=>?_⟩;obtain⟨e4,R4,v4⟩:=jg.2 v H4 y;refine⟨ρ3,S3,τ3,x,τ4,S4,R4,r3.ext e4,v4,hg4,λρ5 H5 σ5 e5 R5 r5=>⟨ρ5,S4,τ4,b,S5,R5,r5,ht5,λρ6 H6 e6 R6=>?_⟩⟩;have e36:=(e4.trans e5).trans e6
  cases b with
  | false=>
   dsimp only;rw[aM br];exact⟨m,c9 _,.of () (Z.stay hD e36) trivial R6 (r5.ext e6) (ac3.ext e36) (hF rfl) M⟩
  | true=>
   dsimp only;rw[aO rfl];obtain⟨s2,S6,ps,τ7,S7,ws,hs6,ci7,co7,ezs⟩:=hT rfl;refine⟨ρ6,S5,τ4,s2,S6,R6,r5.ext e6,hs6,λρ8 H8 J2 e8 R8 jr2=>?_⟩;have e38:=e36.trans e8;refine⟨Cq X.K ρ1 H1 D (acc++ps) s2.k (λρ' H'=>Ext0 ρ8 ρ' H8 H') λm i τ S qs=>su s2 g2 t2 c m i τ S=.ok (qs,τ7) S7,⟨s2.k,.of rfl (Z.stay hD e38) ⟨dU _,λ_ _ _ h=>h⟩ R8 (r5.ext<|e6.trans e8) (ac3.ext e38) ci7 rfl⟩,?_⟩;intro i2 m2 σ9 H9 hw;refine hw.el λρ9 S9 τ9 acc9 qs O hm2 o9 U R9 r9 P f G=>?_;clear hw
   cases m2 with
   | zero=>
    left;have f:(if s2.fin S9 then Am.R.ok ([],τ9) S9 else .no)=.ok (qs,τ7) S7:=f
    cases hf:s2.fin S9 with
    | false=>rw[hf]at f;cases f
    | true=>
     rw[hf]at f
     cases f
     rw[bR]at G;subst G;exact⟨by rw[show i2=s2.k by lia];exact jr2.stop _ H9 ρ9 U R9 hf,m,c9 _,.of () o9 trivial R9 r9 P co7<|by rw[bT,<- ezs,M]⟩
   | succ m2=>
    right;refine GR f λx9 B S10 b10 S11 hx9 hg10 ht11 hT9 hF9=>?_;have jg2:=jr2.go i2 S9 H9 ρ9 x9 U R9 hx9;refine⟨jg2.1,λv10 H10 y10=>?_⟩;obtain⟨e10,R10,v10'⟩:=jg2.2 v10 H10 y10;refine⟨ρ9,S9,τ9,x9,B,S10,R10,r9.ext e10,v10',hg10,λρ11 H11 σ11 e11 R11 W=>⟨ρ11,S10,B,b10,S11,R11,W,ht11,λY H12 V R12=>?_⟩⟩;have d:=(e10.trans e11).trans V;have o12:=o9.stay hD d;have q:Ext0 ρ8 Y H8 H12:=⟨U.pre.trans d.pre,λa u i h=>d.im a u i<|U.im a u i h⟩
    cases b10 with
    | false=>
     dsimp only;rw[aM br];exact⟨m2,c9 _,.of () o12 q R12 (W.ext V) (P.ext d) (hF9 rfl) G⟩
    | true=>
     dsimp only;rw[aO rfl];obtain⟨y,S13,us,he13,ci13,eus⟩:=hT9 rfl;refine⟨Y,S11,B,y,S13,R12,W.ext V,he13,λρ14 H14 w L R14 v14=>?_⟩;have T:=o12.stay hD L;obtain⟨p,R15⟩:=R14.out (ws:=O++[w]) T.hD T.nD;have l1:=P.length;refine⟨O,T.hD,?_,m2,c9 _,.of () (T.put p) ⟨q.pre.trans L.pre,λa u i h=>p.im a u i<|L.im a u i<|q.im a u i h⟩ R15 ((W.ext<|V.trans L).mF p) (AVs.mF p<|(P.ext<|d.trans L).append<|.one v14) ci13 ?_⟩
     ·have:((acc++ps)++ws).length<=sizeLine:=by rw[bT,<- ezs,M];exact hlen
      rw[<- G,eus,aV,aV,bH]at this
      lia
     ·rw[bT,<- G,eus];rfl
end
abbrev Ck (K:au)(n:Nat)(F:ae->j5->R A):Sp:=λvs H Q E=>vs.length=n/\∃ρ S as,Rel K ρ H S/\AVs K ρ H as vs/\(F as S).post (λa d=>∀ρ' H' v,Ext ρ ρ' H H'->Rel K ρ' H' d->AV K ρ' H' a v->Q v H') (λc d=>∀C ρ' H',GZ K c C->Ext ρ ρ' H H'->Rel K ρ' H' d->E (.ref C) none H')
section
variable {P:aj}{w:ah}{K:au}{mg:Str->bd}{base:aq}
def Fun.okX{x:Str}{st:aF}{f:ak}{fd:FuncData}{N ps:ar}{k:Nat}{sp:Sp}(F:Fun K x qual st f fd)(S:FnScope N ps<|j_ st)(len:∀vs H Q E,sp vs H Q E->vs.length=ps.length)
  (hb:∀(cdv:af) (A:aA) (outer:List Env) (s:aC) (H:Hp) (vs:List V) (Q:VK) (E:XK),Room k (A.deeper<|envOfC qual (j_ st) s.heap.objs.size f cdv)->sp vs H Q E->∃t,Cg (ye (xN P w) P w K mg base N qual (j_ st) f cdv A outer s H E) (oW st) t/\t { nx:=λ_ H'=>Q .non H',rt:=Q } (L2.start N vs) H):FnOk P w K mg base (xN P w) (k+1) f fd ps sp:=by
 cb_eq;exact W_ lk hcd S len λA outer s H vs Q E g d=>hb cdv A outer s H vs Q E g d
def fnX{x:Str}{st:aF}{f:ak}{fd:FuncData}{N ps:ar}{k:Nat}{m:Sm}(F:Fun K x qual st f fd)(U:FnScope N ps<|j_ st)
  (body:∀(cdv:af) (A:aA) (outer:List Env) (s:aC) (H:Hp) (E:XK),Room k (A.deeper<|envOfC qual (j_ st) s.heap.objs.size f cdv)->MC (ye (xN P w) P w K mg base N qual (j_ st) f cdv A outer s H E) (oW st) m) :
  FnOk P w K mg base (xN P w) (k+1) f fd ps (Ck K ps.length<|lI N m):=by
 refine Fun.okX F U (λvs H Q E h=>h.1) λcdv B outer s H vs Q E G ⟨L,ρ,S,as,R,va,q⟩=>⟨_,body cdv B outer s H E G,ρ,S,_,R,Er va N,?_⟩;unfold lI at q
 cases d:m (as++List.replicate (N.length-as.length) .unb) S with
 | rt b S2=>rw[d]at q;exact q
 | nx τ S2=>rw[d]at q;exact λρ' H' g e j _=>q ρ' H' _ e j .non
 | bk τ S2=>rw[d]at q;exact q.elim
 | ct τ S2=>rw[d]at q;exact q.elim
 | no=>rw[d]at q;exact q.elim
 | ex c S2=>
  rw[d]at q;intro C ρ' H' n e j;exact⟨rfl,λai g s' J I p=>M7 I rfl p<|q C ρ' H' n e j⟩
end
abbrev yp (P:aj)(w:ah)(K:au)(mg:Str->bd)(base:aq)(k:Nat)(x:Str)(ps:ar)(F:ae->j5->R A):Prop:=
 ∃(f:ak) (fd:FuncData),FnOk P w K mg base (xN P w) k f fd ps (Ck K ps.length F)/\mg x=some (.ref f)/\keepIn K (.ref f)=true/\Binds K fd ps []
abbrev qp (F:ae->j5->R A)(d:rT):Ex:=λτ S=>(d τ S).bind λas S1=>F as S1
section
variable {X:Cx}{pos p:Pos}{e:aE}{es:List aE}{x:Str}{ps:ar}{k:Nat}{F:ae->j5->R A}{d:rT}
def sI(G:yp X.prog X.w X.K X.mg X.base k x ps F)(hr:Room k X.A)(ha:AL X (e::es) d)(hl:∀τ S as S',d τ S=.ok as S'->as.length=ps.length)(hg:Gl X x<|>ε)(Z:(x == ("__debug__" : Str))=false<|>δ)
  (hs:starEach (e::es) X.env=(false,eval e X.env)::starEach es X.env<|>ε) (U:((backTo pos<|starEach es X.env).any (·.1)=false)<|>ε):AE X (.Call (.Name x p) (e::es) [] pos) (qp F d):=by
 obtain⟨f,fd,J,B,m,hb⟩:=G;refine PE.imp (Jf J hr hg B m hb .nil (TR (X:=X) rfl rfl) ha Z hs U) λσ H Q h9=>?_;room;refine⟨ρ,S,τ,R,r,?_⟩;have g:=kh h
 cases j:d τ S with
 | no=>rw[j]at g;exact g
 | ex c S1=>rw[j]at g;exact g
 | ok as S1=>
  rw[j]at g;intro ρ1 H1 vs e1 R1 v1;rw[bR];refine⟨by rw[<- v1.length];exact hl τ S as S1 j,ρ1,S1,as,R1,v1,yR g (λa S2 q ρ2 H2 v e2=>q ρ2 H2 v<|e1.trans e2) λc S2 q C ρ2 H2 n e2=>q C ρ2 H2 n<|e1.trans e2⟩
end
abbrev VE:ba:=[.type "ValueError",.type "Exception",.type "BaseException",.type "object"]
def XH{K:au}{mg:Str->bd}{base:aq}{x:Str}(M:Mod K mg base)(e:GZ K x C)(q:excIn K C bmB newId=true):OwnCls x C bmB newId mg base:=by
 refine⟨cC M.kin M.glob e,?_⟩;unfold excIn at q;split at q
 ·rename_i dd cd m O;split at q
  ·rename_i P bm k0 k1 k2 k3 T k5 f hs;rw[bZ,bZ,bZ,bZ,bZ]at q;obtain⟨⟨⟨⟨⟨g,j⟩,d⟩,N⟩,G⟩,p⟩:=q;have g:=jo.mp g;have j:=jo.mp j;have d:cd.hasDel=false:=by simpa using d
   have p:=jo.mp p;subst g j;obtain⟨nm,bs,k,ns,J,L,sn,sub,ab,col,B⟩:=cd;have f:k=_:=f;have d:B=false:=d;subst f d;obtain⟨m⟩:=m;have hs:m=_:=hs;subst hs;exact⟨bm,ns,nm,J,bs,L,sn,sub,ab,col,dd,k0,k1,k2,k3,k5,_,M.kin _ _ O,.of_isNs<|PySem.W.isNs_of_in M.kin G,PySem.W.nsMap_none_of_in M.kin G p,PySem.W.tail_of_in M.kin N⟩
  ·cases q
 ·cases q
abbrev Qm:List (Str ⊕ Ex)->ae->j5->R Unit
 | [],_,S=>.ok Unit.unit S
 | .inl _::ps,τ,S=>Qm ps τ S
 | .inr e::ps,τ,S=>(e τ S).bind λv S1=>match v with
  | .int i=>gd (i.natAbs.log2<64) (Qm ps τ S1)
  | _=>.no
abbrev VD:List (Str ⊕ Ex)->Bool
 | []=>true
 | .inl x::ps=>decide (x.length<=1000) && VD ps
 | .inr _::ps=>VD ps
abbrev vF (c:Str)(ps:List<|Str ⊕ Ex):Sm:=λτ S=>.of (Qm ps τ S) λ_ S1=>.ex c S1
abbrev tPs (X:Cx):List (Str ⊕ Ex)->List (Str ⊕ TE)
 | []=>[]
 | .inl x::ps=>.inl x::tPs X ps
 | .inr e::ps=>.inr (tE X e)::tPs X ps
section
variable {X:Cx}{pos np cpos fp:Pos}{x:Str}{C:ak}{e1 e2:aE}{es:List aE}{ps:List (Str ⊕ Ex)}
theorem yO{H0:Hp}{k:Hp->Prop}(c:Str)(J:∀ρ H S,Ext ρ0 ρ H0 H->Rel X.K ρ H S->XE X ρ0 H0 c S->k H):∀(ps:List<|Str ⊕ Ex) (ρ:bb) (H:Hp) (S:j5),VD ps=true->Ext ρ0 ρ H0 H->Rel X.K ρ H S->SR X.K ρ H τ σ ->
  (Qm ps τ S).post (λ_ S'=>XE X ρ0 H0 c S') (XE X ρ0 H0)->Ay (tPs X ps) σ H k
 | [],ρ,H,S,_,e,R,r,h=>J ρ H S e R h
 | .inl x::ps,ρ,H,S,ok,e,R,r,h=>by
  obtain⟨d,ok⟩:=Bool.and_eq_true_iff.mp ok;exact⟨bJ d,yO c J ps ρ H S ok e R r h⟩
 | .inr a::ps,ρ,H,S,ok,e,R,r,h=>by
  refine⟨ρ,S,τ,R,r,?_⟩;have h:=kh h;refine yR h (λv S1 h1 ρ1 H1 u e1 R1 v1=>?_) λf S' z=>z.ext e
  cases v with
  | int i=>
   obtain⟨hi,h1⟩:=kO h1
   cases v1
   exact⟨i,rfl,hi,yO c J ps ρ1 H1 S1 ok (e.trans e1) R1 (r.ext e1) h1⟩
  | _=>exact h1.elim
def wc(hn:GZ X.K x C)(Z:excIn X.K C VE "ValueError.__new__" = true)(hh:X.A.handled=none)(hp:FParts X (e1::e2::es)<|tPs X ps)(J:VD ps=true<|>ε)(hg:Gl X x<|>ε)(hl:2000 * (e1::e2::es).length<=sizeLine<|>δ)
  (hs:starEach [.JoinedStr (e1::e2::es) fp] X.env=(false,eval (.JoinedStr (e1::e2::es) fp) X.env)::starEach [] X.env<|>ε) (U:((backTo cpos<|starEach [] X.env).any (·.1)=false)<|>ε) (hd:(x == ("__debug__" : Str))=false<|>δ) :
  AS X (.Raise (some<|.Call (.Name x np) [.JoinedStr (e1::e2::es) fp] [] cpos) none pos) (vF x ps):=by
 intro ai s σ H D I ⟨ρ,S,τ,R,r,h⟩;refine E6 (XH I.mod hn Z) jq hh (qP (acf hp hl) xg hs) hg hs U hd ai s σ H D I ?_;refine yO (X:=X) (ρ0:=ρ) (H0:=H) x (λρ1 H1 S1 e1 R1 z y hy=>?_) ps ρ H S J .refl R r<|of_post h;exact⟨(show 1<=sizeLine by decide),z C ρ1 H1 hn e1 R1⟩
def M0{t:Str}{j tp}(hn:GZ X.K x C)(U:excIn X.K C VE "ValueError.__new__" = true)(hh:X.A.handled=none)(hg:Gl X x<|>ε)
  (hs:starEach [.Constant (.str t) j tp] X.env=(false,eval (.Constant (.str t) j tp) X.env)::starEach [] X.env<|>ε) (J:((backTo cpos<|starEach [] X.env).any (·.1)=false)<|>ε) (Z:(x == ("__debug__" : Str))=false<|>δ) :
  AS X (.Raise (some<|.Call (.Name x np) [.Constant (.str t) j tp] [] cpos) none pos) (vF x []):=by
 intro ai s σ H D I ⟨ρ,S,τ,R,r,h⟩;refine E6 (XH I.mod hn U) jq hh (qP NR xg hs) hg hs J Z ai s σ H D I ?_;exact⟨(show 1<=sizeLine by decide),h C ρ H hn .refl R⟩
end
abbrev Uh (i:Nat):RS->RS
 | .nx τ S=>.nx (τ.set i .unb) S
 | .bk τ S=>.bk (τ.set i .unb) S
 | .ct τ S=>.ct (τ.set i .unb) S
 | .rt a S=>.rt a S
 | _=>.no
abbrev ER (i n:Nat)(cs:ar)(c d:Sm):Sm:=λτ S=>match c τ S with
 | .ex x S1=>if x∈cs then Uh i (d ((List.replicate n .unb).set i<|.exn x) S1)else .no
 | r=>r
def SR.unset{K:au}{H:Hp}{τ:ae}{σ:L2.St}(s:SR K ρ H τ σ):SR K ρ H (τ.set i .unb) (σ.set i none):=by
 refine⟨by simp[s.len],λj b e=>?_⟩;by_cases d:j=i
 ·subst d;have f:j<τ.length:=by
   have:=(aJ.mp e).1;simpa using this
  rw[bP f]at e
  cases e
  exact .inl rfl
 ·rw[bV<|Ne.symm d]at e;rw[bV<|Ne.symm d];exact s.at j b e
section
variable {X:Cx}{pos np hp:Pos}{y n:Str}{Dc:ak}{i:Nat}{body suite:List aF}{b0:aF}{c d:Sm}{cs:ar}
def Rg(hb:∀pn' xe',MC (X.Ca pn' xe') body c)(hh:∀pn' e oe C,XO C oe->MC (X.hand pn' e oe) (b0::suite) d)(hN:X.N.Nodup)(hD:GZ X.K y Dc)(mD:L2.mroIn X.K Dc=some VE)(hcs:∀x∈cs,∃C,GZ X.K x C/\L2.mroIn X.K C=some (.ref Dc::VE))
  {ln:Nat} (hln:X.N.length=ln<|>ε) (hi:X.N[i]?=some n<|>ε) (hlo:X.env.scope.names.lookup n=some .local<|>ε) (hst:X.stack=X.env::X.outer<|>ε) (hf:X.env.frame=some X.env.locals<|>ε) (hex:X.ex=[]<|>ε) (hg:Gl X y<|>ε) (hdb:(y == ("__debug__" : Str))=false<|>δ) :
  AS X (.Try body [.ExceptHandler (some<|.Name y np) (some n) (b0::suite) hp] [] [] pos) (ER i ln cs c d):=by
 subst hln;intro ai s σ H D I ⟨ρ,S,τ,R,r,h⟩;refine wpAny_Try_except ?_;have tl:τ.length=X.N.length:=by rw[r.len];exact I.len
 have P:∀xe',(∀x S1,c τ S=.ex x S1->XE (X.Ca (X.pn++ai) xe') ρ H x S1)->zI (X.Ca (X.pn++ai) xe') ρ H D (c τ S):=λxe' O=>by
  have h:zI X ρ H D (ER i X.N.length cs c d τ S):=h;unfold ER at h
  cases hc:c τ S with
  | nx k G=>rw[hc]at h;exact h
  | rt a G=>rw[hc]at h;exact h
  | bk k G=>rw[hc]at h;exact h
  | ct k G=>rw[hc]at h;exact h
  | no=>rw[hc]at h;exact h
  | ex x S1=>exact O x S1 hc
 refine c5 (hb (X.pn++ai) _ [] s σ H D (I.Ca _) ⟨ρ,S,τ,R,r,P _ λx S1 hc C ρ1 H1 hn e1 R1=>?_⟩) (λf s1 hs=>?_) λe s1 z=>z
 ·refine⟨hex,λpins' g s' e U m=>?_⟩;have h:zI X ρ H D (ER i X.N.length cs c d τ S):=h;unfold ER at h;rw[hc]at h;have h:zI X ρ H D (if x∈cs then Uh i (d ((List.replicate X.N.length .unb).set i<|.exn x) S1)else .no):=h;by_cases O:x∈cs
  ·rw[aO O]at h;obtain⟨V,M,Z⟩:=hcs x O;have:V=C:=by
    have z:=M.symm.trans hn
    injection z with z
    injection z with z
    injection z
   subst this;have Y:X.mg y=some (.ref Dc):=cC I.mod.kin I.mod.glob hD;refine NT hst hf hex hN hi hlo hg Y mD ⋯ U m Z (by simp) (λoe s6 W T I6=>?_) I.ok hdb;obtain⟨ex,Rn⟩:=R1.im (u:=.frz oe xu) T;refine hh (X.pn++ai) e oe V W [] s6 _ _ (unD i D) I6 ⟨ρ1,S1,(List.replicate X.N.length .unb).set i<|.exn x,Rn,SR.set ⟨?_,λj b z=>?_⟩<|.exn M kP W,?_⟩
   ·rw[List.length_replicate];exact U.len.symm
   ·rw[fR]at z;split at z
    ·exact .inl (bB z).symm
    ·cases z
   ·have e2:=e1.trans ex
    cases L:d ((List.replicate X.N.length .unb).set i<|.exn x) S1 with
    | nx k G=>rw[L]at h;exact λρ' H' g p m B=>h ρ' H' _ (e2.trans p) m B.unset
    | bk k G=>rw[L]at h;exact λρ' H' g p m B=>h ρ' H' _ (e2.trans p) m B.unset
    | ct k G=>rw[L]at h;exact λρ' H' g p m B=>h ρ' H' _ (e2.trans p) m B.unset
    | rt a G=>rw[L]at h;exact λρ' H' v p m B=>h ρ' H' v (e2.trans p) m B
    | ex _ _=>rw[L]at h;exact h.elim
    | no=>rw[L]at h;exact h.elim
  ·rw[aM O]at h;exact h.elim
 ·cases f with
  | next=>obtain⟨g,H',J,q⟩:=hs;exact gU ⟨g,H',J.JH,q⟩
  | brk=>obtain⟨g,H',J,q⟩:=hs;exact⟨g,H',J.JH,q⟩
  | cont=>obtain⟨g,H',J,q⟩:=hs;exact⟨g,H',J.JH,q⟩
  | ret u=>obtain⟨v,g,H',J,rv,q⟩:=hs;exact⟨v,g,H',J.JH,rv,q⟩
end
abbrev yU (f:Str->bj)(c:Ex):Ex:=λτ S=>(c τ S).bind λv S1=>match v with
 | .exn x=>opt (f x) λb=>.ok (.bl b) S1
 | _=>.no
section
variable {X:Cx}{pos p py:Pos}{a:aE}{y:Str}{vy:V}{cy:af}{f:Str->bj}{c:Ex}
def Oq(ry:∀u,RelV vy u->u=cy)(hf:∀x b C,f x=some b->GZ X.K x C->XCls X.K C/\(PySem.W.clsIn X.K C).isSome=true/\kitOne X.K (.ref C) cy=some b) :
  kR X (.builtin "isinstance") (λxs H Q=>∃ρ S x v b,Rel X.K ρ H S/\xs=[v,vy]/\AV X.K ρ H (.exn x) v/\f x=some b/\Q (.bl b) H):=by
 intro ai s σ H xs us Q I r ⟨ρ,S,x,v,b,R,d,va,hb,q⟩;subst d;obtain⟨u,p,rfl,r1,r2⟩:=vals2 r;have:=ry _ r2;subst this
 cases va with
 | exn n h g=>
  obtain⟨k,g2,m⟩:=hf _ _ _ hb n
  cases(show u=Value.ref _ from r1)
  exact Hx k g2 I h g m λj=>⟨.bl b,H,I.tok j,rfl,q⟩
def Qt(hy:PE X (.Name y py)<|tC vy)(ry:∀u,RelV vy u->u=cy)(hf:∀x b C,f x=some b->GZ X.K x C->XCls X.K C/\(PySem.W.clsIn X.K C).isSome=true/\kitOne X.K (.ref C) cy=some b)(ha:AE X a c)(hm:X.mg "isinstance" = none)(hg:Gl X "isinstance"<|>ε)
  (Z:starEach [a,.Name y py] X.env=(false,eval a X.env)::starEach [.Name y py] X.env<|>ε) (J:starEach [.Name y py] X.env=(false,eval (.Name y py) X.env)::starEach [] X.env<|>ε) (U:((backTo pos<|starEach [.Name y py] X.env).any (·.1)=false)<|>ε) :
  AE X (.Call (.Name "isinstance" p) [a,.Name y py] [] pos) (yU f c):=
 PE.imp (Gp (Oq ry hf) hg hm tu (qP ha (qP hy xg J) Z) ⋯ ⋯ Z U) λσ H Q h9=>by
  room;refine⟨ρ,S,τ,R,r,j6 (kh h) .refl λv S1 h1 ρ1 H1 x e1 R1 v1=>?_⟩
  cases v with
  | exn n=>
   obtain⟨b,hb,h1⟩:=kj h1;exact⟨ρ1,S1,n,x,b,R1,rfl,v1,hb,h1 ρ1 H1 _ e1 R1<|.bl b⟩
  | _=>exact h1.elim
end
structure ExcK (K:au)(U:ak)(c:Str)(C:ak):Prop where
 n:GZ K c C
 q:excIn K C VE "ValueError.__new__" = true
 r:L2.mroIn K C=some (.ref U::VE)
 x:XCls K C
 cl:(PySem.W.clsIn K C).isSome=true
 v:kitOne K (.ref C) (.type "ValueError")=some true
def Cf:bootBuiltins "ValueError" = some (.type "ValueError"):=by decide +kernel
abbrev I0 (tb:List<|Str×Bool):Str->bj:=λx=>tb.lookup x
def WA{K:au}{tb:List<|Str×Bool}(h:∀p∈tb,∃C,GZ K p.1 C/\XCls K C/\(PySem.W.clsIn K C).isSome=true/\kitOne K (.ref C) cy=some p.2):∀x b C,I0 tb x=some b->GZ K x C->XCls K C/\(PySem.W.clsIn K C).isSome=true/\kitOne K (.ref C) cy=some b:=λx b C e n=>by
 obtain⟨f,d,g⟩:=h (x,b)<|eB e;have:f=C:=by
  have z:=d.symm.trans n
  injection z with z
  injection z with z
  injection z
 subst this;exact g
section
variable {X:Cx}{pos p py:Pos}{a:aE}{y:Str}{Cy:ak}{tb:List (Str×Bool)}{c:Ex}
def u7(hm:X.mg y=some (.ref Cy))(h:∀p∈tb,∃C,GZ X.K p.1 C/\XCls X.K C/\(PySem.W.clsIn X.K C).isSome=true/\kitOne X.K (.ref C) (.ref Cy)=some p.2)(ha:AE X a c)(hi:X.mg "isinstance" = none)(hg:Gl X "isinstance"<|>ε)(J:Gl X y<|>ε)(U:(y == ("__debug__" : Str))=false<|>δ)
  (he:starEach [a,.Name y py] X.env=(false,eval a X.env)::starEach [.Name y py] X.env<|>ε) (Z:starEach [.Name y py] X.env=(false,eval (.Name y py) X.env)::starEach [] X.env<|>ε) (hpl:((backTo pos<|starEach [.Name y py] X.env).any (·.1)=false)<|>ε) :
  AE X (.Call (.Name "isinstance" p) [a,.Name y py] [] pos) (yU (I0 tb) c):=Qt (vy:=.ref Cy) (cy:=.ref Cy) (DN J hm rfl U) (λu r=>r) (WA h) ha hi hg he Z hpl
def Yd(hm:X.mg "ValueError" = none)(h:∀p∈tb,∃C,GZ X.K p.1 C/\XCls X.K C/\(PySem.W.clsIn X.K C).isSome=true/\kitOne X.K (.ref C) (.type "ValueError")=some p.2)(ha:AE X a c)(hi:X.mg "isinstance" = none)(hg:Gl X "isinstance"<|>ε)(J:Gl X "ValueError"<|>ε)
  (he:starEach [a,.Name "ValueError" py] X.env=(false,eval a X.env)::starEach [.Name "ValueError" py] X.env<|>ε) (U:starEach [.Name "ValueError" py] X.env=(false,eval (.Name "ValueError" py) X.env)::starEach [] X.env<|>ε) (Z:((backTo pos<|starEach [.Name "ValueError" py] X.env).any (·.1)=false)<|>ε) :
  AE X (.Call (.Name "isinstance" p) [a,.Name "ValueError" py] [] pos) (yU (I0 tb) c):=Qt (vy:=.ty "ValueError") (cy:=.type "ValueError") (JW J hm Cf rfl ⋯ ⋯) (λu r=>r) (WA h) ha hi hg he U Z
end
section
variable {P:aj}{w:ah}{K:au}{mg:Str->bd}{base:aq}
def fnH{x:Str}{st:aF}{f:ak}{fd:FuncData}{N ps:ar}{k:Nat}{m:Sm}(F:Fun K x qual st f fd)(U:FnScope N ps<|j_ st)
  (body:∀(cdv:af) (A:aA) (outer:List Env) (s:aC) (H:Hp) (e:ak) (oe:Obj) (C:ak),Cu k (A.deeper<|envOfC qual (j_ st) s.heap.objs.size f cdv)->A.handled=some (.ref e)->H e=some (.frz oe xu)->XO C oe->MC (cxH P w K mg base N qual (j_ st) f cdv A outer s H) (oW st) m) :
  FnOkH P w K mg base (k+1) f fd ps (uN K ps.length<|lI N m):=by
 refine aab F U (λvs H Q E h=>h.1) λcdv B outer s H vs Q e oe C J j ⟨L,ρ,S,as,a,M,R,va,d,q⟩=>⟨_,body cdv B outer s H e oe C J j.hh j.h0 j.xo,ρ,S,_,R,Er va N,?_⟩;unfold lI at d
 cases g:m (as++List.replicate (N.length-as.length) .unb) S with
 | rt b S2=>rw[g]at d;cases d;exact q
 | nx τ S2=>rw[g]at d;cases d;exact λρ' H' p e G _=>q ρ' H' _ e G .non
 | bk τ S2=>rw[g]at d;cases d
 | ct τ S2=>rw[g]at d;cases d
 | ex c S2=>rw[g]at d;cases d
 | no=>rw[g]at d;cases d
end
meta abbrev Ut (P:aj)(w:ah)(K:au)(mg:Str->bd)(base:aq)(k:Nat)(x:Str)(ps:ar)(F:ae->j5->R A):Prop:=KnH P w K mg base k x ps<|uN K ps.length F
def PZ{X:Cx}{p:Pos}{a:aE}{x:Str}{ps:ar}{k:Nat}{F:ae->j5->R A}{d:rT}{e:ak}(G:Ut X.prog X.w X.K X.mg X.base k x ps F)(Z:Cu k X.A)(hh:X.A.handled=some (.ref e))(h0:X.H₀ e=some (.frz oe xu))(xo:XO C oe)(ha:AL X (a::es) d)(hl:∀τ S as S',d τ S=.ok as S'->as.length=ps.length)(hg:Gl X x<|>ε)(U:(x == ("__debug__" : Str))=false<|>δ)
  (hs:starEach (a::es) X.env=(false,eval a X.env)::starEach es X.env<|>ε) (J:((backTo pos<|starEach es X.env).any (·.1)=false)<|>ε):AE X (.Call (.Name x p) (a::es) [] pos) (eFn F d):=
 PE.imp (Zl G Z hh h0 xo ha hg U hs J) λσ H Q h9=>by
  room;refine⟨ρ,S,τ,R,r,?_⟩;have f:=kh h
  cases g:d τ S with
  | no=>rw[g]at f;exact f
  | ex c S1=>rw[g]at f;exact f
  | ok as S1=>
   rw[g]at f;intro ρ1 H1 vs e1 R1 v1;rw[bR];refine⟨by rw[<- v1.length];exact hl τ S as S1 g,ρ1,S1,as,?_⟩;have f:Am.R.post (match F as S1 with
    | .ok a S2=>.ok a S2
    | _=>.no) (zQ X ρ H Q) (XE X ρ H):=f
   cases j:F as S1 with
   | ok a S2=>rw[j]at f;exact⟨a,S2,R1,v1,rfl,λρ2 H2 v e2=>f ρ2 H2 v<|e1.trans e2⟩
   | ex c S2=>rw[j]at f;exact f.elim
   | no=>rw[j]at f;exact f.elim
abbrev abb (F:ae->j5->R A)(d:rT):Ex:=λτ S=>match d τ S with
 | .ok as S1=>F as S1
 | _=>.no
section
variable {d:rT}
abbrev abf (t:Te)(c d:Sm):Sm:=λτ S=>match t τ S with
 | .ok true S1=>c τ S1
 | .ok false S1=>d τ S1
 | _=>.no
end
abbrev WE (i:Nat)(cs:ar)(c d:Sm):Sm:=λτ S=>match c τ S with
 | .ex x S1=>if x∈cs then Uh i (d (τ.set i<|.exn x) S1)else .no
 | r=>r
end Am
namespace L2
open PySem PySem.Spec PyProof.Rows
abbrev HX (e:ak)(oe:Obj)(Y:Cx):Prop:=Y.A.handled=some (.ref e)/\Y.H₀ e=some (.frz oe xu)
end L2
namespace Am
open PySem PySem.Spec PyProof.Rows L2
def MN{K:au}{H:Hp}{a:ak}{ns:ag}{F:ae->j5->R A}(J:Vi H)(hS:qX K H a<|ns.map V.int)(h:∃S',F [.frz<|ns.map .int] []=.ok (.bl true) S'):uN K 1 F [.ref a] H (λv _=>v=.bl true) λ_ _ _=>False:=by
 obtain⟨S',h⟩:=h;have fz:Fz K H a (ns.map V.int):=by
  rcases hS with(h|⟨o,h⟩)|h
  ·rcases J a with z|⟨d,xs,z⟩
   ·rw[h]at z;cases z
   ·rw[h]at z;cases z
  ·exact .inl ⟨o,h⟩
  ·exact .inr h
 exact⟨rfl,[],[],_,_,S',⟨rfl,fS,λn a o h=>by simp at h⟩,.cons (.frz fz<|qi ns) .nil,h,λρ' H' v _ _ hv=>Gv hv⟩
section
variable {P:aj}{w:ah}{K:au}{mg:Str->bd}{base:aq}{f:ak}{fd:FuncData}{ps:ar}{k n:Nat}
def Zv(h:n=ps.length):FnOk P w K mg base (xN P w) k f fd ps (Ck K n λ_ _=>.no):=
 ⟨λ_ _ _ _ z=>z.1.trans h,λ_ _ _ _ _ _ _ _ _ _ _ _ _ z=>by obtain⟨_,_,_,_,_,_,e⟩:=z;exact e.elim⟩
end
def CI{P:ba->Prop}(h:∀a0,P [a0]):∀us:ba,us.length=1->P us
 | [_],_=>h _
def EV{P:ba->Prop}(h:∀a0 a1,P [a0,a1]):∀us:ba,us.length=2->P us
 | [_,_],_=>h _ _
def F8{n:Nat}{us:ba}(h:us.length=n+1):∃a t,us=a::t/\t.length=n:=by
 cases us with
 | nil=>simp at h
 | cons a t=>exact⟨a,t,rfl,by simpa using h⟩
def us3{P:ba->Prop}(h:∀a0 a1 a2,P [a0,a1,a2]):∀us:ba,us.length=3->P us:=λus e=>by
 obtain⟨a0,t0,rfl,e0⟩:=F8 e;obtain⟨a1,d,rfl,e1⟩:=F8 e0;obtain⟨a2,t2,rfl,e2⟩:=F8 e1
 cases dI.mp e2
 exact h _ _ _
def us5{P:ba->Prop}(h:∀a0 a1 a2 a3 a4,P [a0,a1,a2,a3,a4]):∀us:ba,us.length=5->P us:=λus e=>by
 obtain⟨a0,t0,rfl,e0⟩:=F8 e;obtain⟨a1,g,rfl,e1⟩:=F8 e0;obtain⟨a2,t2,rfl,e2⟩:=F8 e1;obtain⟨a3,j,rfl,e3⟩:=F8 e2;obtain⟨a4,f,rfl,d⟩:=F8 e3
 cases dI.mp d
 exact h _ _ _ _ _
end Am
namespace Am
open PySem L2
section
variable {α β:Type}{a b:A}{S S1:j5}{τ:ae}{x:α}
@[simp]def R.nk {f:α->j5->R β}:(R.ok x S).bind f=f x S:=rfl
@[simp]def R.LQ {f:α->j5->R β}{c:Str}:(R.ex c S:R α).bind f=.ex c S:=rfl
@[simp]def R.mK {f:α->j5->R β}:(R.ok x S).n5 f=f x S:=rfl
@[simp]def RS.of_ok {f:α->j5->RS}:RS.of (R.ok x S) f=f x S:=rfl
@[simp]def RS.Xs {f:α->j5->RS}{c:Str}:RS.of (R.ex c S:R α) f=.ex c S:=rfl
@[simp]def kL {f:β->R α}{y:β}:opt (some y) f=f y:=rfl
@[simp]def LP {r:R α}:gd True r=r:=aO trivial
theorem mV{c:Prop}[Decidable c]{r:R α}(h:c):gd c r=r:=aO h
@[simp]def qO {i:Nat}:jZ i τ S=bif (τ.getD i .unb).pU then .no else .ok (τ.getD i .unb) S:=by unfold jZ;cases(τ.getD i .unb).pU<;>rfl
@[simp]def Jq {xs:ae}:A.pU (.tup xs)=false:=rfl
@[simp]def LL {xs:ae}:A.pU (.frz xs)=false:=rfl
@[simp]def Ji {i:Int}:A.pU (.int i)=false:=rfl
@[simp]def Qs {i:Bool}:A.pU (.bl i)=false:=rfl
@[simp]def Ly {i:Str}:A.pU (.str i)=false:=rfl
@[simp]def JB {i:Nat}:A.pU (.ref i)=false:=rfl
@[simp]def LK:A.pU .non=false:=rfl
@[simp]def J0 {i j:Int}:A.pU (.rng i j)=false:=rfl
@[simp]def Jp {c:Str}:A.pU (.exn c)=false:=rfl
@[simp]def Xx:eC a τ S=.ok a S:=rfl
abbrev ab0 (f:A->A->j5->R A)(cb:Ex)(τ:ae)(a:A)(S:j5):R A:=(cb τ S).bind<|f a
@[simp]def JD {f:A->A->j5->R A}{cb:Ex}:ab0 f cb τ a S=(cb τ S).bind (f a):=rfl
@[simp]def Li {f:A->A->j5->R A}{ca cb:Ex}:ko f ca cb τ S=(ca τ S).bind (ab0 f cb τ):=rfl
@[simp]def Qy {f:A->j5->R A}{ca:Ex}:eUn f ca τ S=(ca τ S).bind f:=rfl
@[simp]def KQ {c:Ex}:rL c τ S=(c τ S).bind λa S1=>opt (a.U8 S1) λb=>.ok b S1:=rfl
abbrev aB (a:A)(S:j5):R Bool:=match a with
 | .bl b=>.ok b S
 | _=>.no
@[simp]def W5 {b:Bool}:aB (.bl b) S=.ok b S:=rfl
@[simp]def RN {c:Ex}:wK c τ S=(c τ S).bind aB:=rfl
@[simp]def Lh {c:Te}:Tt c τ S=(c τ S).bind λb S1=>.ok (!b) S1:=rfl
abbrev X9 (d:Te)(τ:ae)(b:Bool)(S:j5):R Bool:=match b with|true=>d τ S|false=>.ok false S
abbrev kOr (d:Te)(τ:ae)(b:Bool)(S:j5):R Bool:=match b with|true=>.ok true S|false=>d τ S
@[simp]def NZ {d:Te}:X9 d τ true S=d τ S:=rfl
@[simp]def Ru {d:Te}:X9 d τ false S=.ok false S:=rfl
@[simp]def WK {d:Te}:kOr d τ true S=.ok true S:=rfl
@[simp]def Xp {d:Te}:kOr d τ false S=d τ S:=rfl
@[simp]def JJ {c d:Te}:RP c d τ S=(c τ S).bind (X9 d τ):=rfl
@[simp]def P0 {c d:Te}:bOr c d τ S=(c τ S).bind (kOr d τ):=rfl
@[simp]def J7:DY τ S=.ok true S:=rfl
abbrev SH (d:Ex)(τ:ae)(a:A)(S:j5):R A:=match a with | .bl true=>d τ S | .bl false=>.ok (.bl false) S|_=>.no
abbrev Ye (d:Ex)(τ:ae)(a:A)(S:j5):R A:=match a with | .bl true=>.ok (.bl true) S | .bl false=>d τ S|_=>.no
@[simp]def JC {d:Ex}:SH d τ (.bl true) S=d τ S:=rfl
@[simp]def Ke {d:Ex}:SH d τ (.bl false) S=.ok (.bl false) S:=rfl
@[simp]def OU {d:Ex}:Ye d τ (.bl true) S=.ok (.bl true) S:=rfl
@[simp]def QF {d:Ex}:Ye d τ (.bl false) S=d τ S:=rfl
@[simp]def J6 {c d:Ex}:RQ c d τ S=(c τ S).bind (SH d τ):=by
 unfold RQ
 cases c τ S with
 | ok a S1=>cases a<;>first|rfl|(rename_i b;cases b<;>rfl)
 | _=>rfl
@[simp]def Sa {c d:Ex}:eOr c d τ S=(c τ S).bind (Ye d τ):=by
 unfold eOr
 cases c τ S with
 | ok a S1=>cases a<;>first|rfl|(rename_i b;cases b<;>rfl)
 | _=>rfl
abbrev Xu (a:A)(S:j5):R A:=match a with | .bl b=>.ok (.bl !b) S|_=>.no
@[simp]def Fv {b:Bool}:Xu (.bl b) S=.ok (.bl !b) S:=rfl
@[simp]def KA {c:Ex}:UH c τ S=(c τ S).bind Xu:=rfl
abbrev XX (c d:Ex)(τ:ae)(b:Bool)(S:j5):R A:=match b with|true=>c τ S|false=>d τ S
@[simp]def TV {c d:Ex}:XX c d τ true S=c τ S:=rfl
@[simp]def Qa {c d:Ex}:XX c d τ false S=d τ S:=rfl
@[simp]def Q4 {t:Te}{c d:Ex}:eIf t c d τ S=(t τ S).bind (XX c d τ):=rfl
@[simp]def J5:ki τ S=.ok [] S:=rfl
abbrev I_ (a:A)(as:ae)(S:j5):R (ae):=.ok (a::as) S
abbrev Xz (d:rT)(τ:ae)(a:A)(S:j5):R (ae):=(d τ S).bind<|I_ a
@[simp]def Dg {as:ae}:I_ a as S=.ok (a::as) S:=rfl
@[simp]def Fl {d:rT}:Xz d τ a S=(d τ S).bind (I_ a):=rfl
@[simp]def FP {c:Ex}{d:rT}:jY c d τ S=(c τ S).bind (Xz d τ):=rfl
@[simp]def LR {d:rT}:rW d τ S=(d τ S).bind λas S1=>gd (as.length<=sizeLine) (.ok (.tup as) S1):=rfl
@[simp]def JK {d:rT}:t9 d τ S=(d τ S).bind newL:=rfl
theorem lG{as:ae}(h:as.length<=16777216):newL as S=.ok (.ref S.length) (S++[.lst as]):=mV<|by rw[dh];exact h
@[simp]def GP {f:ae->j5->R A}{d:rT}:kK f d τ S=(d τ S).bind f:=rfl
abbrev okR (r:R A):R A:=match r with
 | .ok a S=>.ok a S
 | _=>.no
@[simp]def NV:okR (.ok a S)=.ok a S:=rfl
abbrev kFn (f:ae->j5->R A)(as:ae)(S:j5):R A:=okR<|f as S
@[simp]def QV {f:ae->j5->R A}{as:ae}:kFn f as S=okR (f as S):=rfl
@[simp]def SE {f:ae->j5->R A}{d:rT}:eFn f d τ S=(d τ S).bind (kFn f):=rfl
@[simp]def Xo {g:A->j5->R A}:f1 g [a] S=g a S:=rfl
@[simp]def XG {g:A->A->j5->R A}:f2 g [a,b] S=g a b S:=rfl
abbrev aaj (h:Pt)(τ:ae)(a:A)(l:bi)(S:j5):R A:=(h τ S).bind<|aSl a l
abbrev kSl (l h:Pt)(τ:ae)(a:A)(S:j5):R A:=(l τ S).bind<|aaj h τ a
@[simp]def Km {h:Pt}{l:bi}:aaj h τ a l S=(h τ S).bind (aSl a l):=rfl
@[simp]def Q2 {l h:Pt}:kSl l h τ a S=(l τ S).bind (aaj h τ a):=rfl
@[simp]def OZ {c:Ex}{l h:Pt}:eSl c l h τ S=(c τ S).bind (kSl l h τ):=rfl
@[simp]def FA:aaV τ S=.ok none S:=rfl
abbrev aPt (a:A)(S:j5):R (bi):=match a with
 | .int i=>.ok (some i) S
 | _=>.no
@[simp]def K5 {i:Int}:aPt (.int i) S=.ok (some i) S:=rfl
@[simp]def Gx {c:Ex}:CV c τ S=(c τ S).bind aPt:=rfl
abbrev YZ (f:A->ae->j5->R A)(d:rT)(τ:ae)(o:A)(S:j5)(_:ae):R A:=(d τ S).bind<|f o
abbrev kMe (f:A->ae->j5->R A)(d:rT)(τ:ae)(o:A)(S:j5):R A:=opt (o.lst? S)<|YZ f d τ o S
@[simp]def JI {f:A->ae->j5->R A}{d:rT}{xs:ae}:YZ f d τ a S xs=(d τ S).bind (f a):=rfl
@[simp]def Rb {f:A->ae->j5->R A}{d:rT}:kMe f d τ a S=opt (a.lst? S) (YZ f d τ a S):=rfl
@[simp]def Oz {f:A->ae->j5->R A}{c:Ex}{d:rT}:eMe f c d τ S=(c τ S).bind (kMe f d τ):=rfl
@[simp]def LC {f:A->ae->j5->R A}{c:Ex}:Ze f c τ S=(c τ S).bind λo S1=>opt (o.lst? S1) λ_=>f o [] S1:=rfl
@[simp]def lst?_ref {n:Nat}:A.lst? S (.ref n)=j4 S n:=rfl
abbrev RS.seq (r:RS)(d:Sm):RS:=match r with
 | .nx τ S=>d τ S
 | r=>r
@[simp]def RS.QS {d:Sm}:RS.seq (.nx τ S) d=d τ S:=rfl
@[simp]def RS.Qw {d:Sm}:RS.seq (.rt a S) d=.rt a S:=rfl
@[simp]def RS.RX {d:Sm}{c:Str}:RS.seq (.ex c S) d=.ex c S:=rfl
@[simp]def RS.TZ {d:Sm}:RS.seq (.bk τ S) d=.bk τ S:=rfl
@[simp]def RS.Oa {d:Sm}:RS.seq (.ct τ S) d=.ct τ S:=rfl
@[simp]def Kq {c d:Sm}:kZ c d τ S=RS.seq (c τ S) d:=by unfold kZ RS.seq;cases c τ S<;>rfl
@[simp]def Kv:qZ τ S=.nx τ S:=rfl
@[simp]def CK:X3 τ S=.bk τ S:=rfl
@[simp]def GL:abS τ S=.ct τ S:=rfl
@[simp]def FW {e:Ex}:qL e τ S=RS.of (e τ S) λ_ S1=>.nx τ S1:=rfl
@[simp]def KN {e:Ex}:lY e τ S=RS.of (e τ S) .rt:=rfl
@[simp]def GA:Pn τ S=.rt .non S:=rfl
abbrev kIf (c d:Sm)(τ:ae)(b:Bool)(S:j5):RS:=match b with|true=>c τ S|false=>d τ S
@[simp]def XF {c d:Sm}:kIf c d τ true S=c τ S:=rfl
@[simp]def Xn {c d:Sm}:kIf c d τ false S=d τ S:=rfl
@[simp]def OW {t:Te}{c d:Sm}:zR t c d τ S=RS.of (t τ S) (kIf c d τ):=rfl
abbrev abA (g:Tg)(τ:ae)(a:A)(S:j5):RS:=RS.of (g a τ S) .nx
@[simp]def KI {g:Tg}:abA g τ a S=RS.of (g a τ S) .nx:=rfl
@[simp]def Lf {e:Ex}{g:Tg}:lN e g τ S=RS.of (e τ S) (abA g τ):=rfl
@[simp]def adO {i:Nat}:k_ i a τ S=.ok (τ.set i a) S:=rfl
abbrev Zm (a o:A)(τ:ae)(i:A)(S:j5):R (ae):=(FH o i a S).bind λ_ S3=>.ok τ S3
abbrev kSb (J:Ex)(τ:ae)(a o:A)(S:j5):R (ae):=(J τ S).bind<|Zm a o τ
@[simp]def Lv {o i:A}:Zm a o τ i S=(FH o i a S).bind λ_ S3=>.ok τ S3:=rfl
@[simp]def QW {J:Ex}{o:A}:kSb J τ a o S=(J τ S).bind (Zm a o τ):=rfl
@[simp]def OF {co J:Ex}:gSb co J a τ S=(co τ S).bind (kSb J τ a):=rfl
@[simp]def Pu {n:Nat}{gs:Ud}{xs:ae}:wH n gs (.tup xs) τ S=gd (xs.length=n) (gs xs τ S):=rfl
@[simp]def P1:wJ [] τ S=.ok τ S:=rfl
@[simp]def SS {g:Tg}{gs:Ud}{as:ae}:oR g gs (a::as) τ S=(g a τ S).bind (gs as):=rfl
abbrev sPr (i j:Nat)(τ:ae)(as:ae)(S:j5):RS:=match as with
 | [a,b]=>.nx ((τ.set i a).set j b) S
 | _=>.no
@[simp]def Sb {i j:Nat}:sPr i j τ [a,b] S=.nx ((τ.set i a).set j b) S:=rfl
@[simp]def LG {i j:Nat}{c:rT}:adS i j c τ S=RS.of (c τ S) (sPr i j τ):=rfl
abbrev To (i:Nat)(τ:ae)(c:A)(S:j5):RS:=.nx (τ.set i c) S
abbrev acy (i:Nat)(f:A->A->j5->R A)(τ:ae)(b:A)(S:j5):RS:=.of (f (τ.getD i .unb) b S)<|To i τ
@[simp]def GI {i:Nat}:To i τ a S=.nx (τ.set i a) S:=rfl
@[simp]def Ln {i:Nat}{f:A->A->j5->R A}:acy i f τ a S=.of (f (τ.getD i .unb) a S) (To i τ):=rfl
@[simp]def JM {i:Nat}{f:A->A->j5->R A}{e:Ex}:Qx i f e τ S=bif (τ.getD i .unb).pU then .no else .of (e τ S) (acy i f τ):=by
 unfold Qx;cases(τ.getD i .unb).pU<;>rfl
abbrev kS5 (o i:A)(τ:ae)(z:A)(S:j5):RS:=.of (FH o i z S) λ_ d=>.nx τ d
abbrev kS4 (f:A->A->j5->R A)(o i x:A)(τ:ae)(y:A)(S:j5):RS:=.of (f x y S)<|kS5 o i τ
abbrev kS3 (J:Ex)(f:A->A->j5->R A)(o i:A)(τ:ae)(x:A)(S:j5):RS:=.of (J τ S)<|kS4 f o i x τ
abbrev kS2 (J:Ex)(f:A->A->j5->R A)(o:A)(τ:ae)(i:A)(S:j5):RS:=.of (RJ o i S)<|kS3 J f o i τ
abbrev kS1 (J U:Ex)(f:A->A->j5->R A)(τ:ae)(o:A)(S:j5):RS:=.of (J τ S)<|kS2 U f o τ
@[simp]def Sq {o i:A}:kS5 o i τ a S=.of (FH o i a S) λ_ S6=>.nx τ S6:=rfl
@[simp]def OB {f:A->A->j5->R A}{o i x:A}:kS4 f o i x τ a S=.of (f x a S) (kS5 o i τ):=rfl
@[simp]def Rm {J:Ex}{f:A->A->j5->R A}{o i:A}:kS3 J f o i τ a S=.of (J τ S) (kS4 f o i a τ):=rfl
@[simp]def OX {J:Ex}{f:A->A->j5->R A}{o:A}:kS2 J f o τ a S=.of (RJ o a S) (kS3 J f o a τ):=rfl
@[simp]def Tu {J U:Ex}{f:A->A->j5->R A}:kS1 J U f τ a S=.of (J τ S) (kS2 U f a τ):=rfl
@[simp]def Gb {co J U:Ex}{f:A->A->j5->R A}:yl co J U f τ S=RS.of (co τ S) (kS1 J U f τ):=rfl
abbrev RS.end (r:RS):R A:=match r with
 | .rt a d=>.ok a d
 | .nx _ d=>.ok .non d
 | .ex c d=>.ex c d
 | _=>.no
@[simp]def RS.QT:RS.end (.rt a S)=.ok a S:=rfl
@[simp]def RS.RH:RS.end (.nx τ S)=.ok .non S:=rfl
@[simp]def RS.PF {c:Str}:RS.end (.ex c S)=.ex c S:=rfl
theorem xP {N:ar}{m:Sm}{as:ae}:lI N m as S=RS.end (m (as++List.replicate (N.length-as.length) .unb) S):=by
 unfold lI RS.end;cases m (as++List.replicate (N.length-as.length) .unb) S<;>rfl
@[simp]def Ox {i j:Int}:oH (.int i) (.int j) S=.ok (.int<|i+j) S:=rfl
@[simp]def PN {i j:Int}:aSub (.int i) (.int j) S=.ok (.int<|i-j) S:=rfl
@[simp]def QO {i j:Int}:FY (.int i) (.int j) S=.ok (.int<|i+j) S:=rfl
theorem Ss{i j:Int}(h:-18446744073709551616<i)(h':i<18446744073709551616):wG (.int i) (.int j) S=.ok (.int<|i * j) S:=mV<|by unfold Fb;simp;left;exact⟨by omega,by omega⟩
def mul_r{i j:Int}(h:-18446744073709551616<j)(h':j<18446744073709551616):wG (.int i) (.int j) S=.ok (.int<|i * j) S:=mV<|by unfold Fb;simp;right;exact⟨(),()⟩
def Io{i j:Int}(h:0<j)(h':j<1073741824):FQ (.int i) (.int j) S=.ok (.int<|i / j) S:=mV ⟨h,()⟩
def F0{i j:Int}(h:0<j):Dr (.int i) (.int j) S=.ok (.int<|i % j) S:=mV h
@[simp]def Xl {i j:Int}:Hu (.int i) (.int j) S=.ok (.bl<|decide<|i<j) S:=rfl
@[simp]def W0 {i j:Int}:aLe (.int i) (.int j) S=.ok (.bl<|decide<|i<=j) S:=rfl
@[simp]def WU {i j:Int}:Hi (.int i) (.int j) S=.ok (.bl<|decide<|j<i) S:=rfl
@[simp]def W9 {i j:Int}:aGe (.int i) (.int j) S=.ok (.bl<|decide<|j<=i) S:=rfl
@[simp]def Xm {i j:Bool}:M_ false (.bl i) (.bl j) S=.ok (.bl<|i == j) S:=rfl
@[simp]def Od {i j:Bool}:M_ true (.bl i) (.bl j) S=.ok (.bl<|i != j) S:=rfl
@[simp]def Q_ {i:Int}:OL (.int i) S=.ok (.int<|-i) S:=rfl
@[simp]def Q5 {xs:ae}:nM (.tup xs) S=.ok (.int xs.length) S:=rfl
@[simp]def OI {xs:ae}:nM (.frz xs) S=.ok (.int xs.length) S:=rfl
@[simp]def Pz {n:Nat}:nM (.ref n) S=opt (j4 S n) λxs=>.ok (.int xs.length) S:=rfl
@[simp]def Ob {i:Int}:Yu (.int i) S=.ok (.int<|if i<0 then -i else i) S:=rfl
@[simp]def Js {i j:Int}:Lb (.int i) (.int j) S=.ok (.int<|if j>i then j else i) S:=rfl
@[simp]def JZ {i j:Int}:K6 (.int i) (.int j) S=.ok (.int<|if j<i then j else i) S:=rfl
@[simp]def Kx {i:Int}:Fx (.int i) S=.ok (.int i) S:=rfl
@[simp]def JL {i:Bool}:Fx (.bl i) S=.ok (.int<|if i then 1 else 0) S:=rfl
@[simp]def Dh {i j:Int}:zS (.int i) (.int j) S=.ok (.rng i j) S:=rfl
@[simp]def W4 {xs:ae}{i:Int}:qk (.tup xs) (.int i) S=opt (rF xs i) λx=>.ok x S:=rfl
@[simp]def WL {xs:ae}{i:Int}:qk (.frz xs) (.int i) S=opt (rF xs i) λx=>.ok x S:=rfl
@[simp]def Xj {n:Nat}{i:Int}:qk (.ref n) (.int i) S=opt (j4 S n) λxs=>opt (rF xs i) λx=>.ok x S:=rfl
@[simp]def O6 {n:Nat}{k:Int}:FH (.ref n) (.int k) a S=opt (j4 S n) λxs=>opt (B9 xs.length k) λj=>.ok Unit.unit (S.set n<|.lst<|xs.set j a):=rfl
@[simp]def Q0 {n:Nat}{i:Int}:RJ (.ref n) (.int i) S=opt (j4 S n) λxs=>gd (0<=i) (opt (xs[i.toNat]?) λx=>.ok x S):=rfl
theorem MM{i j:Int}(h:Bt i j):zh (.rng i j) S=.ok (.ref S.length) (S++[.lst<|(lE i j).map .int]):=mV h
def IQ{i j:Int}(h:Bt i j):ve (.rng i j) S=.ok (.tup<|(lE i j).map .int) S:=mV h
@[simp]def K_ {xs:ae}:zh (.tup xs) S=.ok (.ref S.length) (S++[.lst xs]):=rfl
@[simp]def Ma {xs:ae}:zh (.frz xs) S=.ok (.ref S.length) (S++[.lst xs]):=rfl
@[simp]def Ks {n:Nat}:zh (.ref n) S=opt (j4 S n) λxs=>.ok (.ref S.length) (S++[.lst xs]):=rfl
@[simp]def GB {xs:ae}:ve (.tup xs) S=.ok (.tup xs) S:=rfl
@[simp]def E5 {n:Nat}:ve (.ref n) S=opt (j4 S n) λxs=>.ok (.tup xs) S:=rfl
@[simp]def PM {xs:ae}:aba (.tup xs) S=.ok (.tup xs.reverse) S:=rfl
@[simp]def RU {n:Nat}:aba (.ref n) S=opt (j4 S n) λxs=>.ok (.ref S.length) (S++[.lst xs.reverse]):=rfl
@[simp]def WC {n:Nat}{l u:bi}:aSl (.ref n) l u S=opt (j4 S n) λxs=>.ok (.ref S.length) (S++[.lst<|Eg xs l u]):=rfl
@[simp]def BP {n:Nat}:Aa (.ref n) [a] S=opt (j4 S n) λxs=>gd (xs.length<sizeLine) (.ok .non<|S.set n<|.lst<|xs++[a]):=rfl
@[simp]def Of {b:Bool}:A.U8 (.bl b) S=some b:=rfl
@[simp]def Ku {i:Int}:A.U8 (.int i) S=some (i != 0):=rfl
theorem IZ{o:O}:(S++[o])[S.length]?=some o:=by simp
@[simp]def ku {xs:ae}:j4 (S++[.lst xs]) S.length=some xs:=yg IZ
theorem mX{o:O}{n:Nat}(h:j4 S n=some xs):j4 (S++[o]) n=some xs:=by
 have h':=kI h;exact yg<|by rw[bE (aJ.mp h').1];exact h'
def nY{n:Nat}(h:j4 S n=some xs):n<S.length:=(aJ.mp<|kI h).1
def oq{n:Nat}(h:n<S.length):j4 (S.set n<|.lst ys) n=some ys:=yg<|bP h
def p8{n:Nat}(h:n≠m):j4 (S.set n<|.lst ys) m=j4 S m:=by unfold j4;rw[bV h]
def Im{xs:ae}{i:Int}{k:Nat}{x:A}(h:i=k)(J:xs[k]?=some x):rF xs i=some x:=by rw[h];exact Wl J
def uK{n:Nat}{i:Int}{k:Nat}(h:i=k)(J:k<n):B9 n i=some k:=by
 subst h;unfold B9;rw[aO (),aO ()];simp
end
structure Kp (b:Nat->Prop)(S S':j5):Prop where
 len:S.length<=S'.length
 obj:∀(n:Nat) (o:O),¬b n->S[n]?=some o->S'[n]?=some o
meta abbrev nK:=Kp λ_=>False
def Kp.lst{b:Nat->Prop}(h:Kp b S S')(n:Nat)(xs:ae)(hb:¬b n)(e:j4 S n=some xs):j4 S' n=some xs:=yg<|h.obj n _ hb<|kI e
def Kp.dct{b:Nat->Prop}(h:Kp b S S')(n:Nat)(xs:List<|ag×A)(hb:¬b n)(e:kG S n=some xs):kG S' n=some xs:=rJ<|h.obj n _ hb<|m9 e
def Kp.refl{b:Nat->Prop}:Kp b S S:=⟨aP _,λ_ _ _ h=>h⟩
def Kp.trans{b:Nat->Prop}(h:Kp b S S1)(h':Kp b S1 S2):Kp b S S2:=⟨bI h.len h'.len,λn xs hb e=>h'.obj n xs hb<|h.obj n xs hb e⟩
def Ed{S:j5}{n:Nat}(e:S[n]?=some o):n<S.length:=(aJ.mp e).1
def Kp.lay{b:Nat->Prop}{o:O}(h:Kp b S S1):Kp b S (S1++[o]):=⟨bI h.len<|by simp,λn xs hb e=>by
 have:=h.obj n xs hb e;rw[bE<|Ed this];exact this⟩
def Kp.Fe{b:Nat->Prop}{S S1:j5}(h:Kp b S S1)(J:b m\/S.length<=m):Kp b S (S1.set m o):=⟨by rw[bW];exact h.len,λn xs hb e=>by
 have:m≠n:=λz=>by
  subst z
  rcases J with z|z
  ·exact hb z
  ·exact absurd (Ed e) ()
 rw[bV this];exact h.obj n xs hb e⟩
def Kp.set{b:Nat->Prop}{S S1:j5}(h:Kp b S S1)(J:b m\/S.length<=m):Kp b S (S1.set m<|.lst ys):=h.Fe J
def Kp.mono{b c:Nat->Prop}{S:j5}(h:Kp b S S1)(hb:∀n,n<S.length->b n->c n):Kp c S S1:=⟨h.len,λn xs hc e=>h.obj n xs (λz=>hc<|hb n (Ed e) z) e⟩
def Kp.of0{b:Nat->Prop}(h:nK S S1):Kp b S S1:=h.mono λ_ _ z=>z.elim
def Kp.old{b c:Nat->Prop}{S:j5}(h:Kp b S S1)(h':Kp c S1 S2)(hc:∀n,n<S.length->¬b n->¬c n):Kp b S S2:=⟨bI h.len h'.len,λn xs hb e=>h'.obj n xs (hc n (Ed e) hb)<|h.obj n xs hb e⟩
theorem xY{t:Te}{c:Sm}(Inv:ae->j5->Prop)(J:ae->j5->Nat)(Post:RS->Prop)
  (h:∀τ S,Inv τ S->(∃S1,t τ S=.ok false S1/\Post (.nx τ S1))\/(∃S1,t τ S=.ok true S1/\((∃τ' S',c τ S1=.nx τ' S'/\Inv τ' S'/\J τ' S'<J τ S)\/(∃a S',c τ S1=.rt a S'/\Post (.rt a S'))))) :
  ∀n τ S,Inv τ S->J τ S<n->Post (pD t c n τ S)
 | 0,_,_,_,hn=>absurd hn (fh _)
 | n+1,τ,S,hi,hn=>by
  unfold pD
  rcases h τ S hi with⟨S1,e,q⟩|⟨S1,e,⟨τ',S',e2,d,f⟩|⟨a,S',e2,q⟩⟩
  ·rw[e];exact q
  ·rw[e];show Post (match c τ S1 with
    | .nx τ' S'=>pD t c n τ' S'
    | .ct τ' S'=>pD t c n τ' S'
    | .bk τ' S'=>.nx τ' S'
    | r=>r)
   rw[e2];exact xY Inv J Post h n τ' S' d ()
  ·rw[e];show Post (match c τ S1 with
    | .nx τ' S'=>pD t c n τ' S'
    | .ct τ' S'=>pD t c n τ' S'
    | .bk τ' S'=>.nx τ' S'
    | r=>r)
   rw[e2];exact q
theorem H_{s:Src}{g:Tg}{c:Sm}(Inv:Nat->ae->j5->Prop)(Post:RS->Prop)
  (step:∀i τ S,i<s.k->Inv i τ S->∃x τ1 S1,s.get i S=some x/\g x τ S=.ok τ1 S1/\((∃τ' S',c τ1 S1=.nx τ' S'/\Inv (i+1) τ' S')\/(∃a S',c τ1 S1=.rt a S'/\Post (.rt a S'))))
  (fin:∀τ S,Inv s.k τ S->s.fin S=true/\Post (.nx τ S)):∀k i τ S,k+i=s.k->Inv i τ S->Post (r8 s g c k i τ S)
 | 0,i,τ,S,hk,hi=>by
  have:i=s.k:=()
  subst this;obtain⟨hf,q⟩:=fin τ S hi;unfold r8;rw[aO hf];exact q
 | k+1,i,τ,S,hk,hi=>by
  obtain⟨x,τ1,S1,f,hg,h⟩:=step i τ S () hi;unfold r8;rw[f];show Post (RS.of (g x τ S) λτ1 S1=>match c τ1 S1 with
   | .nx τ' S'=>r8 s g c k (i+1) τ' S'
   | .ct τ' S'=>r8 s g c k (i+1) τ' S'
   | .bk τ' S'=>.nx τ' S'
   | r=>r)
  rw[hg];show Post (match c τ1 S1 with
   | .nx τ' S'=>r8 s g c k (i+1) τ' S'
   | .ct τ' S'=>r8 s g c k (i+1) τ' S'
   | .bk τ' S'=>.nx τ' S'
   | r=>r)
  rcases h with⟨τ',S',e,d⟩|⟨a,S',e,q⟩
  ·rw[e];exact H_ Inv Post step fin k (i+1) τ' S' () d
  ·rw[e];exact q
def MB(S:j5)(o:O):∃T,T=S++[o]/\nK S T:=⟨_,rfl,Kp.refl.lay⟩
def Vr(S:j5)(xs:ae):∃T,T=S++[.lst xs]/\nK S T/\j4 T S.length=some xs:=⟨_,rfl,Kp.refl.lay,ku⟩
def zO{lo hi:Int}{c:Sm}{src:Ic}{τ:ae}(hs:src τ S=.ok (m_ lo hi) S1)(Inv:Nat->ae->j5->Prop)(Post:RS->Prop)(h0:Inv 0 τ S1)
  (step:∀(i:Nat) τ S,(i:Int)<hi-lo->Inv i τ S->(∃τ' S',c (τ.set j<|.int<|lo+i) S=.nx τ' S'/\Inv (i+1) τ' S')\/(∃a S',c (τ.set j<|.int<|lo+i) S=.rt a S'/\Post (.rt a S')))
  (fin:∀τ S,Inv (hi-lo).toNat τ S->Post (.nx τ S)):Post (nF src (k_ j) c τ S):=by
 unfold nF;rw[hs];refine H_ (s:=m_ lo hi) Inv Post (λi τ S d h=>?_) (λτ S h=>⟨rfl,fin τ S h⟩) _ 0 τ S1 rfl h0;have d:i<(hi-lo).toNat:=d;exact⟨.int<|lo+i,_,S,aO d,rfl,step i τ S (by omega) h⟩
def qe{n:Nat}{xs:ae}{g:Tg}{c:Sm}{src:Ic}(hs:src τ S=.ok (mq n xs.length) S1)(Inv:Nat->ae->j5->Prop)(Post:RS->Prop)(h0:Inv 0 τ S1)(J:∀i τ S,Inv i τ S->j4 S n=some xs)
  (step:∀(i:Nat) x τ S,xs[i]?=some x->Inv i τ S->∃τ1 S1,g x τ S=.ok τ1 S1/\((∃τ' S',c τ1 S1=.nx τ' S'/\Inv (i+1) τ' S')\/(∃a S',c τ1 S1=.rt a S'/\Post (.rt a S'))))
  (fin:∀τ S,Inv xs.length τ S->Post (.nx τ S)):Post (nF src g c τ S):=by
 unfold nF;rw[hs];refine H_ (s:=mq n xs.length) Inv Post (λi τ S d h=>?_) (λτ S h=>⟨?_,fin τ S h⟩) _ 0 τ S1 rfl h0
 ·have d:i<xs.length:=d;obtain⟨τ1,S1,e,q⟩:=step i xs[i] τ S (aH d) h;exact⟨xs[i],τ1,S1,by show(j4 S n).bind _=_;rw[J i τ S h];exact aH d,e,q⟩
 ·show(match j4 S n with
   | some ys=>decide (ys.length<=xs.length)
   | none=>false)=true
  rw[J _ τ S h];exact aX<|aP _
@[simp]def tV {c:Ex}{τ:ae}{S S1:j5}{j:Int}(h:c τ S=.ok (.int j) S1)(hb:bnd j):rH c τ S=.ok (m_ 0 j) S1:=by
 unfold rH;rw[h];exact mV hb
def Bm{c d:Ex}{i j:Int}(h:c τ S=.ok (.int i) S1)(h':d τ S1=.ok (.int j) S2)(hb:bnd i)(J:bnd j):uM c d τ S=.ok (m_ i j) S2:=by
 unfold uM;rw[h];show(d τ S1).bind _=_;rw[h'];exact mV ⟨hb,J⟩
def Zg{c:Ex}(h:c τ S=.ok (.tup xs) S1):oM c τ S=.ok (p5 xs) S1:=by unfold oM;rw[h];rfl
def oA{c:Ex}{n:Nat}{xs:ae}(h:c τ S=.ok (.ref n) S1)(J:j4 S1 n=some xs):oM c τ S=.ok (mq n xs.length) S1:=by
 unfold oM;rw[h];show opt (j4 S1 n) _=_;rw[J];rfl
theorem qU{s:Src}{g:Tg}{t:Te}{e:Ex}{P:j5->Prop}{T:ae->Prop}(it:Nat->A)(p:Nat->Bool)(f:Nat->A)
  (J:∀i S,i<s.k->P S->s.get i S=some (it i)) (U:∀S,P S->s.fin S=true)
  (step:∀i τ S,i<s.k->T τ->P S->∃τ1 S1 S2,g (it i) τ S=.ok τ1 S1/\t τ1 S1=.ok (p i) S2/\T τ1/\(p i=false->P S2)/\(p i=true->∃S3,e τ1 S2=.ok (f i) S3/\P S3)) :
  ∀k i τ S,k+i=s.k->T τ->P S->∃S',oZ s g t e k i τ S=.ok (((List.range' i k).filter p).map f) S'/\P S'
 | 0,i,τ,S,hk,hT,hP=>⟨S,by unfold oZ;rw[aO<|U S hP];rfl,hP⟩
 | k+1,i,τ,S,hk,hT,hP=>by
  obtain⟨τ1,S1,S2,hg,q,d,C,j⟩:=step i τ S (by omega) hT hP;unfold oZ;rw[J i S (by omega) hP,kL,hg,R.mK,q,R.mK,gE,jH]
  cases hp:p i with
  | false=>
   obtain⟨S',h1,h2⟩:=qU it p f J U step k (i+1) τ1 S2 (by omega) d<|C hp;exact⟨S',by simpa using h1,h2⟩
  | true=>
   obtain⟨S3,B,m⟩:=j hp;obtain⟨S',h1,h2⟩:=qU it p f J U step k (i+1) τ1 S3 (by omega) d m;refine⟨S',?_,h2⟩
   skip
   rw[B,R.mK,h1];rfl
def zd{s:Src}{src:Ic}{t:Te}{e:Ex}{S1:j5}(hs:src τ S=.ok s S1)(it:Nat->A)(p:Nat->Bool)(f:Nat->A)(J:∀i,i<s.k->s.get i S1=some (it i))(U:s.fin S1=true)
  (Z:∀i,i<s.k->t (it i::ng cap τ) S1=.ok (p i) S1) (he:∀i,i<s.k->p i=true->e (it i::ng cap τ) S1=.ok (f i) S1) (hl:s.k<=16777216) :
  lJ (none::cap) src (k_ 0) t e τ S=.ok (.ref S1.length) (S1++[.lst<|((List.range s.k).filter p).map f]):=by
 unfold lJ;rw[hs,R.nk];obtain⟨j,h1,h2⟩:=qU (s:=s) (g:=k_ 0) (t:=t) (e:=e) (P:=λS=>S=S1) (T:=λd=>∃y,d=y::ng cap τ) it p f (λi S hi h=>by subst h;exact J i hi) (λS h=>by subst h;exact U)
  (λi d S hi ⟨y,hy⟩ h=>by
   subst h hy;exact⟨it i::ng cap τ,S,S,rfl,Z i hi,⟨_,rfl⟩,λ_=>rfl,λhp=>⟨S,he i hi hp,rfl⟩⟩) s.k 0 (ng (none::cap) τ) S1 rfl ⟨_,rfl⟩ rfl
 subst h2;rw[h1,R.mK,cu];refine lG ?_;rw[aK];refine bI (cI _ _) ?_;rw[List.length_range'];exact hl
def m8{α β:Type}(xs:List α)(p:α->Bool)(f:α->β):∀(d:α) ,(((List.range xs.length).filter λi=>p<|xs.getD i d).map λi=>f<|xs.getD i d)=(xs.filter p).map f:=by
 intro d
 induction xs with
 | nil=>rfl
 | cons x xs g=>
  rw[bH,List.range_succ_eq_map,jH,jH];have e:((List.filter (λi=>p<|(x::xs).getD i d)<|List.map Nat.succ<|List.range xs.length).map λi=>f<|(x::xs).getD i d)=(xs.filter p).map f:=by
   rw[gW,bF];rw[<- g];rfl
  show List.map _ (if p x=true then _ else _)=List.map f (if p x=true then _ else _);by_cases hp:p x=true
  ·rw[aO hp,aO hp,bL,bL,e];rfl
  ·rw[aM hp,aM hp,e]
def Tw{xs:ae}{src:Ic}{t:Te}{e:Ex}{S1:j5}(hs:src τ S=.ok (p5 xs) S1)(p:A->Bool)(f:A->A)
  (J:∀x∈xs,t (x::ng cap τ) S1=.ok (p x) S1) (U:∀x∈xs,p x=true->e (x::ng cap τ) S1=.ok (f x) S1) (Z:xs.length<=16777216) :
  lJ (none::cap) src (k_ 0) t e τ S=.ok (.ref S1.length) (S1++[.lst<|(xs.filter p).map f]):=by
 have d:∀i,i<xs.length->xs.getD i .unb∈xs:=λi hi=>by
  rw[aI,aH hi];exact dJ hi
 rw[zd hs (λi=>xs.getD i .unb) (λi=>p<|xs.getD i .unb) (λi=>f<|xs.getD i .unb) (λi hi=>by
  have hi:i<xs.length:=hi;show xs[i]?=_;rw[aI,aH hi];rfl) rfl (λi hi=>J _<|d i hi) (λi hi=>U _<|d i hi) Z]
 have:=m8 xs p f .unb;show R.ok _ (S1++[O.lst<|((List.range xs.length).filter _).map _])=_;rw[this]
def RA{xs:ae}{src:Ic}{e:Ex}{S1:j5}(hs:src τ S=.ok (p5 xs) S1)(f:A->A)
  (J:∀x∈xs,e (x::ng cap τ) S1=.ok (f x) S1) (U:xs.length<=16777216) :
  lJ (none::cap) src (k_ 0) DY e τ S=.ok (.ref S1.length) (S1++[.lst<|xs.map f]):=by
 rw[Tw hs (λ_=>true) f (λ_ _=>rfl) (λx d _=>J x d) U,List.filter_eq_self.mpr λ_ _=>rfl]
def OC{lo hi:Int}{src:Ic}{t:Te}{e:Ex}{S1:j5}(hs:src τ S=.ok (m_ lo hi) S1)(p:Int->Bool)(f:Int->A)
  (J:∀k,lo<=k->k<hi->t (.int k::ng cap τ) S1=.ok (p k) S1) (U:∀k,lo<=k->k<hi->p k=true->e (.int k::ng cap τ) S1=.ok (f k) S1) (Z:(hi-lo).toNat<=16777216) :
  lJ (none::cap) src (k_ 0) t e τ S=.ok (.ref S1.length) (S1++[.lst<|((lE lo hi).filter p).map f]):=by
 rw[zd hs (λi=>.int<|lo+i) (λi=>p<|lo+i) (λi=>f<|lo+i) (λi d=>aO d) rfl (λi d=>J _ () (by have:i<(hi-lo).toNat:=d;lia)) (λi d=>U _ () (by have:i<(hi-lo).toNat:=d;lia)) Z];unfold lE;rw[gW,bF];rfl
@[simp]def Oe {cap:List<|bo}{τ:ae}:ng (none::cap) τ=.unb::ng cap τ:=rfl
@[simp]def Sy {cap:List<|bo}{τ:ae}{j:Nat}:ng (some j::cap) τ=τ.getD j .unb::ng cap τ:=rfl
@[simp]def FU {τ:ae}:ng [] τ=[]:=rfl
theorem zu{x:A}:rF (x::xs) 0=some x:=Im (k:=0) rfl rfl
def N8{x:A}:rF (x::y::xs) 1=some y:=Im (k:=1) rfl rfl
def xJ{ns:ag}{i:Int}{k:Nat}{x:Int}(h:i=k)(J:ns[k]?=some x):rF (ns.map A.int) i=some (.int x):=Im h<|by rw[aQ,J];rfl
def qK{j:Int}(h:-4611686018427387904<=j)(h':j<4611686018427387904):bnd j:=⟨(),()⟩
def GF{i j:Int}(h1:-1000000<=i)(h2:i<=1000000)(h3:-1000000<=j)(J:j<=1000000)(U:j-i<=1000):Bt i j:=⟨⟨(),(),(),()⟩,()⟩
theorem ints_map:∀(ns:ag),A.ints (ns.map .int)=some ns
 | []=>rfl
 | n::ns=>by show(A.ints<|ns.map .int).map (n::·)=_;rw[ints_map ns];rfl
@[simp]def XJ {S:j5}{x y:Bool}:Hh false (.bl x) (.bl y) S=.ok (.bl<|x == y) S:=rfl
@[simp]def Xh {S:j5}{x y:Bool}:Hh true (.bl x) (.bl y) S=.ok (.bl<|!(x == y)) S:=rfl
@[simp]def Xd {S:j5}{x y:Int}:Hh false (.int x) (.int y) S=.ok (.bl<|x == y) S:=rfl
@[simp]def WX {S:j5}{x y:Int}:Hh true (.int x) (.int y) S=.ok (.bl<|!(x == y)) S:=rfl
@[simp]def LV {S:j5}:M_ false .non .non S=.ok (.bl true) S:=rfl
@[simp]def Kf {S:j5}{xs:ae}:M_ false (.tup xs) .non S=.ok (.bl false) S:=rfl
@[simp]def JO {S:j5}{n:Nat}:M_ false (.ref n) .non S=.ok (.bl false) S:=rfl
@[simp]def Gq {S:j5}:M_ true .non .non S=.ok (.bl false) S:=rfl
@[simp]def GW {S:j5}{xs:ae}:M_ true (.tup xs) .non S=.ok (.bl true) S:=rfl
@[simp]def FJ {S:j5}{n:Nat}:M_ true (.ref n) .non S=.ok (.bl true) S:=rfl
@[simp]def Lq {S:j5}{x:A}{c:String}:UW x (.ty c) S=opt (x.kd S) λk=>opt (Ny k c) λb=>.ok (.bl b) S:=rfl
@[simp]def WW {S:j5}{b:Bool}:A.kd (.bl b) S=some .bl:=rfl
@[simp]def TH {S:j5}{b:Int}:A.kd (.int b) S=some .int:=rfl
@[simp]def OT {S:j5}{b:ae}:A.kd (.tup b) S=some .tup:=rfl
@[simp]def RZ {S:j5}:A.kd .non S=some .non:=rfl
@[simp]def SX {S:j5}{b:Str}:A.kd (.str b) S=some .str:=rfl
@[simp]def T8 {S:j5}{n:Nat}:A.kd (.ref n) S=(j4 S n).map λ_=>.lst:=rfl
@[simp]def OP {S:j5}:newL [] S=.ok (.ref S.length) (S++[.lst []]):=lG<|by simp
@[simp]def TF {S:j5}{x0:A}:newL [x0] S=.ok (.ref S.length) (S++[.lst [x0]]):=lG<|by simp
@[simp]def NY {S:j5}{x0 x1:A}:newL [x0,x1] S=.ok (.ref S.length) (S++[.lst [x0,x1]]):=lG<|by simp
@[simp]def Qf {S:j5}{x0 x1 J:A}:newL [x0,x1,J] S=.ok (.ref S.length) (S++[.lst [x0,x1,J]]):=lG<|by simp
@[simp]def Pj {S:j5}{x0 x1 J x3:A}:newL [x0,x1,J,x3] S=.ok (.ref S.length) (S++[.lst [x0,x1,J,x3]]):=lG<|by simp
@[simp]def RE {S:j5}{x0 x1 J x3 x4:A}:newL [x0,x1,J,x3,x4] S=.ok (.ref S.length) (S++[.lst [x0,x1,J,x3,x4]]):=lG<|by simp
@[simp]def Q3 {S:j5}{x0 x1 J x3 x4 x5:A}:newL [x0,x1,J,x3,x4,x5] S=.ok (.ref S.length) (S++[.lst [x0,x1,J,x3,x4,x5]]):=lG<|by simp
@[simp]def QD {S:j5}{x0 x1 J x3 x4 x5 x6:A}:newL [x0,x1,J,x3,x4,x5,x6] S=.ok (.ref S.length) (S++[.lst [x0,x1,J,x3,x4,x5,x6]]):=lG<|by simp
@[simp]def OG {S:j5}{x0 x1 J x3 x4 x5 x6 U:A}:newL [x0,x1,J,x3,x4,x5,x6,U] S=.ok (.ref S.length) (S++[.lst [x0,x1,J,x3,x4,x5,x6,U]]):=lG<|by simp
@[simp]def O8 {S:j5}{x0 x1 J x3 x4 x5 x6 U Z:A}:newL [x0,x1,J,x3,x4,x5,x6,U,Z] S=.ok (.ref S.length) (S++[.lst [x0,x1,J,x3,x4,x5,x6,U,Z]]):=lG<|by simp
@[simp]def JA {S:j5}{x0 x1 J x3 x4 x5 x6 U Z x9:A}:newL [x0,x1,J,x3,x4,x5,x6,U,Z,x9] S=.ok (.ref S.length) (S++[.lst [x0,x1,J,x3,x4,x5,x6,U,Z,x9]]):=lG<|by simp
theorem pX{α:Type}{n:Nat}{r:R α}(h:n<=16777216):gd (n<=sizeLine) r=r:=mV<|by rw[dh];exact h
def CN{α:Type}{n:Nat}{r:R α}(h:n<16777216):gd (n<sizeLine) r=r:=mV<|by rw[dh];exact h
def WS {x:A}{xs:ae}:(x::xs).getD 0 .unb=x:=rfl
def Xf {x:A}{xs:ae}{n:Nat}:(x::xs).getD (n+1) .unb=xs.getD n .unb:=rfl
def abP {x y:A}{xs:ae}:(x::xs).set 0 y=y::xs:=rfl
def sets {x y:A}{xs:ae}{n:Nat}:(x::xs).set (n+1) y=x::xs.set n y:=rfl
def rep0 {x:A}:List.replicate 0 x=[]:=rfl
def reps {x:A}{n:Nat}:List.replicate (n+1) x=x::List.replicate n x:=rfl
def aa3 {x:A}{xs ys:ae}:(x::xs)++ys=x::(xs++ys):=rfl
def ace {ys:ae}:[]++ys=ys:=rfl
def XC{S:j5}{n:Nat}{xs ys:ae}(h:j4 S n=some xs)(h':j4 S m=some ys)(J:xs.length+ys.length<=16777216):oH (.ref n) (.ref m) S=.ok (.ref S.length) (S++[.lst<|xs++ys]):=by
 show opt (j4 S n) _=_;rw[h,kL,h',kL];exact mV<|by rw[dh];exact J
abbrev uV (x:A)(S:j5):R A:=bif x.pU then .no else .ok x S
def S8 {xs:ae}{S:j5}:uV (.tup xs) S=.ok (.tup xs) S:=rfl
def ON {xs:ae}{S:j5}:uV (.frz xs) S=.ok (.frz xs) S:=rfl
def SN {i:Int}{S:j5}:uV (.int i) S=.ok (.int i) S:=rfl
def WT {b:Bool}{S:j5}:uV (.bl b) S=.ok (.bl b) S:=rfl
def Se {s:Str}{S:j5}:uV (.str s) S=.ok (.str s) S:=rfl
def T9 {n:Nat}{S:j5}:uV (.ref n) S=.ok (.ref n) S:=rfl
def Tc  {S:j5}:uV (.non) S=.ok (.non) S:=rfl
def SG {i j:Int}{S:j5}:uV (.rng i j) S=.ok (.rng i j) S:=rfl
def Tn {s:Str}{S:j5}:uV (.exn s) S=.ok (.exn s) S:=rfl
def eV0 {x0:A}{xs:ae}{S:j5}:jZ 0 (x0::xs) S=uV x0 S:=qO
def eV1 {x0 x1:A}{xs:ae}{S:j5}:jZ 1 (x0::x1::xs) S=uV x1 S:=qO
def eV2 {x0 x1 J:A}{xs:ae}{S:j5}:jZ 2 (x0::x1::J::xs) S=uV J S:=qO
def eV3 {x0 x1 J x3:A}{xs:ae}{S:j5}:jZ 3 (x0::x1::J::x3::xs) S=uV x3 S:=qO
def eV4 {x0 x1 J x3 x4:A}{xs:ae}{S:j5}:jZ 4 (x0::x1::J::x3::x4::xs) S=uV x4 S:=qO
def eV5 {x0 x1 J x3 x4 x5:A}{xs:ae}{S:j5}:jZ 5 (x0::x1::J::x3::x4::x5::xs) S=uV x5 S:=qO
def eV6 {x0 x1 J x3 x4 x5 x6:A}{xs:ae}{S:j5}:jZ 6 (x0::x1::J::x3::x4::x5::x6::xs) S=uV x6 S:=qO
def eV7 {x0 x1 U x3 x4 x5 x6 J:A}{xs:ae}{S:j5}:jZ 7 (x0::x1::U::x3::x4::x5::x6::J::xs) S=uV J S:=qO
def eV8 {x0 x1 U x3 x4 x5 x6 Z J:A}{xs:ae}{S:j5}:jZ 8 (x0::x1::U::x3::x4::x5::x6::Z::J::xs) S=uV J S:=qO
def gN0 {a x0:A}{xs:ae}{S:j5}:k_ 0 a (x0::xs) S=.ok (a::xs) S:=rfl
def gN1 {a x0 x1:A}{xs:ae}{S:j5}:k_ 1 a (x0::x1::xs) S=.ok (x0::a::xs) S:=rfl
def gN2 {a x0 x1 J:A}{xs:ae}{S:j5}:k_ 2 a (x0::x1::J::xs) S=.ok (x0::x1::a::xs) S:=rfl
def gN3 {a x0 x1 J x3:A}{xs:ae}{S:j5}:k_ 3 a (x0::x1::J::x3::xs) S=.ok (x0::x1::J::a::xs) S:=rfl
def gN4 {a x0 x1 J x3 x4:A}{xs:ae}{S:j5}:k_ 4 a (x0::x1::J::x3::x4::xs) S=.ok (x0::x1::J::x3::a::xs) S:=rfl
def gN5 {a x0 x1 J x3 x4 x5:A}{xs:ae}{S:j5}:k_ 5 a (x0::x1::J::x3::x4::x5::xs) S=.ok (x0::x1::J::x3::x4::a::xs) S:=rfl
def gN6 {a x0 x1 J x3 x4 x5 x6:A}{xs:ae}{S:j5}:k_ 6 a (x0::x1::J::x3::x4::x5::x6::xs) S=.ok (x0::x1::J::x3::x4::x5::a::xs) S:=rfl
def gN7 {a x0 x1 J x3 x4 x5 x6 U:A}{xs:ae}{S:j5}:k_ 7 a (x0::x1::J::x3::x4::x5::x6::U::xs) S=.ok (x0::x1::J::x3::x4::x5::x6::a::xs) S:=rfl
def gN8 {a x0 x1 J x3 x4 x5 x6 U Z:A}{xs:ae}{S:j5}:k_ 8 a (x0::x1::J::x3::x4::x5::x6::U::Z::xs) S=.ok (x0::x1::J::x3::x4::x5::x6::U::a::xs) S:=rfl
def kY:type_of% (anI @R.nk<|anI @R.LQ<|anI @R.mK<|anI @RS.of_ok<|anI @RS.Xs<|anI @kL<|anI @LP<|anI @eV0<|anI @eV1<|anI @eV2<|anI @eV3<|anI @eV4<|anI @eV5<|anI @eV6<|anI @eV7<|anI @eV8<|anI @S8<|anI @ON<|anI @SN<|anI @WT<|anI @Se<|anI @T9<|anI @Tc<|anI @SG<|anI @Tn<|anI @Jq<|anI @LL<|anI @Ji<|anI @Qs<|anI @Ly<|anI @JB<|anI @LK<|anI @J0<|anI @Jp<|anI @Xx<|anI @Li<|anI @Qy<|anI @KQ<|anI @W5<|anI @RN<|anI @Lh<|anI @JJ<|anI @P0<|anI @J7<|anI @JC<|anI @Ke<|anI @OU<|anI @QF<|anI @J6<|anI @Sa<|anI @Fv<|anI @KA<|anI @Q4<|anI @J5<|anI @FP<|anI @LR<|anI @JK<|anI @GP<|anI @NV<|anI @SE<|anI @Xo<|anI @XG<|anI @OZ<|anI @FA<|anI @K5<|anI @Gx<|anI @Oz<|anI @LC<|anI @lst?_ref<|anI @RS.QS<|anI @RS.Qw<|anI @RS.RX<|anI @RS.TZ<|anI @RS.Oa<|anI @Kq<|anI @Kv<|anI @CK<|anI @GL<|anI @FW<|anI @KN<|anI @GA<|anI @OW<|anI @Lf<|anI @gN0<|anI @gN1<|anI @gN2<|anI @gN3<|anI @gN4<|anI @gN5<|anI @gN6<|anI @gN7<|anI @gN8<|anI @OF<|anI @Pu<|anI @P1<|anI @SS<|anI @Sb<|anI @LG<|anI @JM<|anI @Gb<|anI @RS.QT<|anI @RS.RH<|anI @RS.PF<|anI @Ox<|anI @PN<|anI @QO<|anI @Xl<|anI @W0<|anI @WU<|anI @W9<|anI @Xm<|anI @Od<|anI @Q_<|anI @Q5<|anI @OI<|anI @Pz<|anI @Ob<|anI @Js<|anI @JZ<|anI @Kx<|anI @JL<|anI @Dh<|anI @W4<|anI @WL<|anI @Xj<|anI @O6<|anI @Q0<|anI @K_<|anI @Ma<|anI @Ks<|anI @GB<|anI @E5<|anI @PM<|anI @RU<|anI @WC<|anI @BP<|anI @Of<|anI @Ku<|anI @ku<|anI @Oe<|anI @Sy<|anI @FU<|anI @XJ<|anI @Xh<|anI @Xd<|anI @WX<|anI @LV<|anI @Kf<|anI @JO<|anI @Gq<|anI @GW<|anI @FJ<|anI @Lq<|anI @WW<|anI @TH<|anI @OT<|anI @RZ<|anI @SX<|anI @T8<|anI @OP<|anI @TF<|anI @NY<|anI @Qf<|anI @Pj<|anI @RE<|anI @Q3<|anI @QD<|anI @OG<|anI @O8<|anI @JA<|anI @WS<|anI @Xf<|anI @abP<|anI @sets<|anI @rep0<|anI @reps<|anI @aa3<|anI @ace<|anI @xP<|anI @JD<|anI @NZ<|anI @Ru<|anI @WK<|anI @Xp<|anI @TV<|anI @Qa<|anI @Dg<|anI @Fl<|anI @QV<|anI @Km<|anI @Q2<|anI @JI<|anI @Rb<|anI @XF<|anI @Xn<|anI @KI<|anI @Lv<|anI @QW<|anI @GI<|anI @Ln<|anI @Tu<|anI @OX<|anI @Rm<|anI @OB<|@Sq):=anI @R.nk<|anI @R.LQ<|anI @R.mK<|anI @RS.of_ok<|anI @RS.Xs<|anI @kL<|anI @LP<|anI @eV0<|anI @eV1<|anI @eV2<|anI @eV3<|anI @eV4<|anI @eV5<|anI @eV6<|anI @eV7<|anI @eV8<|anI @S8<|anI @ON<|anI @SN<|anI @WT<|anI @Se<|anI @T9<|anI @Tc<|anI @SG<|anI @Tn<|anI @Jq<|anI @LL<|anI @Ji<|anI @Qs<|anI @Ly<|anI @JB<|anI @LK<|anI @J0<|anI @Jp<|anI @Xx<|anI @Li<|anI @Qy<|anI @KQ<|anI @W5<|anI @RN<|anI @Lh<|anI @JJ<|anI @P0<|anI @J7<|anI @JC<|anI @Ke<|anI @OU<|anI @QF<|anI @J6<|anI @Sa<|anI @Fv<|anI @KA<|anI @Q4<|anI @J5<|anI @FP<|anI @LR<|anI @JK<|anI @GP<|anI @NV<|anI @SE<|anI @Xo<|anI @XG<|anI @OZ<|anI @FA<|anI @K5<|anI @Gx<|anI @Oz<|anI @LC<|anI @lst?_ref<|anI @RS.QS<|anI @RS.Qw<|anI @RS.RX<|anI @RS.TZ<|anI @RS.Oa<|anI @Kq<|anI @Kv<|anI @CK<|anI @GL<|anI @FW<|anI @KN<|anI @GA<|anI @OW<|anI @Lf<|anI @gN0<|anI @gN1<|anI @gN2<|anI @gN3<|anI @gN4<|anI @gN5<|anI @gN6<|anI @gN7<|anI @gN8<|anI @OF<|anI @Pu<|anI @P1<|anI @SS<|anI @Sb<|anI @LG<|anI @JM<|anI @Gb<|anI @RS.QT<|anI @RS.RH<|anI @RS.PF<|anI @Ox<|anI @PN<|anI @QO<|anI @Xl<|anI @W0<|anI @WU<|anI @W9<|anI @Xm<|anI @Od<|anI @Q_<|anI @Q5<|anI @OI<|anI @Pz<|anI @Ob<|anI @Js<|anI @JZ<|anI @Kx<|anI @JL<|anI @Dh<|anI @W4<|anI @WL<|anI @Xj<|anI @O6<|anI @Q0<|anI @K_<|anI @Ma<|anI @Ks<|anI @GB<|anI @E5<|anI @PM<|anI @RU<|anI @WC<|anI @BP<|anI @Of<|anI @Ku<|anI @ku<|anI @Oe<|anI @Sy<|anI @FU<|anI @XJ<|anI @Xh<|anI @Xd<|anI @WX<|anI @LV<|anI @Kf<|anI @JO<|anI @Gq<|anI @GW<|anI @FJ<|anI @Lq<|anI @WW<|anI @TH<|anI @OT<|anI @RZ<|anI @SX<|anI @T8<|anI @OP<|anI @TF<|anI @NY<|anI @Qf<|anI @Pj<|anI @RE<|anI @Q3<|anI @QD<|anI @OG<|anI @O8<|anI @JA<|anI @WS<|anI @Xf<|anI @abP<|anI @sets<|anI @rep0<|anI @reps<|anI @aa3<|anI @ace<|anI @xP<|anI @JD<|anI @NZ<|anI @Ru<|anI @WK<|anI @Xp<|anI @TV<|anI @Qa<|anI @Dg<|anI @Fl<|anI @QV<|anI @Km<|anI @Q2<|anI @JI<|anI @Rb<|anI @XF<|anI @Xn<|anI @KI<|anI @Lv<|anI @QW<|anI @GI<|anI @Ln<|anI @Tu<|anI @OX<|anI @Rm<|anI @OB<|@Sq
def ao:(∀b:Bool,cond false b b=b)/\(∀(α:Type) (x y:α),cond false x y=y)/\(∀(α:Type) (x y:α),cond true x y=x):=⟨λ_=>rfl,λ_ _ _=>rfl,λ_ _ _=>rfl⟩
def lX:(∀(x:Str) (xs:ar),(x::xs).length=xs.length+1)/\([]:ar).length=0/\(∀(x:A) (xs:ae),(x::xs).length=xs.length+1)/\([]:ae).length=0:=⟨λ_ _=>rfl,rfl,λ_ _=>rfl,rfl⟩
section
variable {τ:ae}{S:j5}
def JY {f:ae->j5->R A}{d:rT}:qp f d τ S=(d τ S).bind f:=rfl
abbrev kRz (c:Str):Unit->j5->RS:=λ_ S1=>.ex c S1
def Td {c:Str}{u:Unit}:kRz c u S=.ex c S:=rfl
def CT {c:Str}{ps:List<|Str ⊕ Ex}:vF c ps τ S=RS.of (Qm ps τ S) (kRz c):=rfl
def Mf:Qm [] τ S=.ok Unit.unit S:=rfl
def Jg {x:Str}{ps:List<|Str ⊕ Ex}:Qm (.inl x::ps) τ S=Qm ps τ S:=rfl
abbrev kFs (ps:List<|Str ⊕ Ex)(τ:ae):A->j5->R Unit:=λv S1=>match v with
 | .int i=>gd (i.natAbs.log2<64) (Qm ps τ S1)
 | _=>.no
def JG {e:Ex}{ps:List<|Str ⊕ Ex}:Qm (.inr e::ps) τ S=(e τ S).bind (kFs ps τ):=rfl
def WD{n:Nat}(h:n<18446744073709551616):kFs ps τ (.int (n:Int)) S=Qm ps τ S:=by
 skip
 refine aaX ?_;rw[Int.natAbs_natCast];by_cases z:n=0
 ·subst z;decide
 ·exact(Nat.log2_lt z).mpr h
abbrev RS.try (i n:Nat)(cs:ar)(d:Sm):RS->RS
 | .ex x S1=>if x∈cs then Uh i (d ((List.replicate n .unb).set i<|.exn x) S1)else .no
 | r=>r
def L8 {i n:Nat}{cs:ar}{c d:Sm}:ER i n cs c d τ S=RS.try i n cs d (c τ S):=by
 unfold ER RS.try;cases c τ S<;>rfl
def Tz {i n:Nat}{cs:ar}{d:Sm}:RS.try i n cs d (.nx τ S)=.nx τ S:=rfl
def Ou {i n:Nat}{cs:ar}{d:Sm}{a:A}:RS.try i n cs d (.rt a S)=.rt a S:=rfl
def OA {i n:Nat}{x:Str}{cs:ar}{d:Sm}:RS.try i n (x::cs) d (.ex x S)=Uh i (d ((List.replicate n .unb).set i<|.exn x) S):=aO<|.head _
def S_ {i:Nat}{a:A}:Uh i (.rt a S)=.rt a S:=rfl
def Ql {i:Nat}:Uh i (.nx τ S)=.nx (τ.set i .unb) S:=rfl
abbrev UB (f:Str->bj):A->j5->R A:=λv S1=>match v with
 | .exn x=>opt (f x) λb=>.ok (.bl b) S1
 | _=>.no
def Lz {f:Str->bj}{c:Ex}:yU f c τ S=(c τ S).bind (UB f):=rfl
def Rh {x:Str}{b:Bool}{tb:List<|Str×Bool}:UB (I0 ((x,b)::tb)) (.exn x) S=.ok (.bl b) S:=by
 show opt (List.lookup x ((x,b)::tb)) _=_;rw[dR,b9];rfl
abbrev R.OY {α β:Type}(r:R α)(f:α->j5->R β):R β:=match r with
 | .ok a S=>f a S
 | _=>.no
def Ft {α β:Type}{a:α}{f:α->j5->R β}:R.OY (.ok a S) f=f a S:=rfl
def JX {f:ae->j5->R A}{d:rT}:abb f d τ S=R.OY (d τ S) f:=by unfold abb R.OY;cases d τ S<;>rfl
abbrev RS.ofK {α:Type}(r:R α)(f:α->j5->RS):RS:=match r with
 | .ok a S=>f a S
 | _=>.no
def N9 {α:Type}{a:α}{f:α->j5->RS}:RS.ofK (.ok a S) f=f a S:=rfl
def JT {t:Te}{c d:Sm}:abf t c d τ S=RS.ofK (t τ S) (kIf c d τ):=by
 unfold abf RS.ofK
 cases t τ S with
 | ok b S1=>cases b<;>rfl
 | ex _ _=>rfl
 | no=>rfl
abbrev RS.OD (i:Nat)(cs:ar)(d:Sm)(τ:ae):RS->RS
 | .ex x S1=>if x∈cs then Uh i (d (τ.set i<|.exn x) S1)else .no
 | r=>r
def Ff {i:Nat}{cs:ar}{c d:Sm}:WE i cs c d τ S=RS.OD i cs d τ (c τ S):=by
 unfold WE RS.OD;cases c τ S<;>rfl
def LX {i:Nat}{cs:ar}{d:Sm}{J:ae}:RS.OD i cs d τ (.nx J S)=.nx J S:=rfl
def JV {i:Nat}{cs:ar}{d:Sm}{a:A}:RS.OD i cs d τ (.rt a S)=.rt a S:=rfl
def JE {i:Nat}{x:Str}{cs:ar}{d:Sm}:RS.OD i (x::cs) d τ (.ex x S)=Uh i (d (τ.set i<|.exn x) S):=aO<|.head _
def F4:A.Ue []=some []:=rfl
def yD {b:Bool}{xs:ae}:A.Ue (.bl b::xs)=(A.Ue xs).map (b::·):=rfl
end
def mT:type_of% (anI @JY<|anI @CT<|anI @Td<|anI @Mf<|anI @Jg<|anI @JG<|anI @L8<|anI @Tz<|anI @Ou<|anI @OA<|anI @S_<|anI @Ql<|anI @Lz<|anI @Rh<|anI @F4<|anI @yD<|anI @Ft<|anI @JX<|anI @N9<|anI @JT<|anI @Ff<|anI @LX<|anI @JV<|anI @JE<|trivial):=anI @JY<|anI @CT<|anI @Td<|anI @Mf<|anI @Jg<|anI @JG<|anI @L8<|anI @Tz<|anI @Ou<|anI @OA<|anI @S_<|anI @Ql<|anI @Lz<|anI @Rh<|anI @F4<|anI @yD<|anI @Ft<|anI @JX<|anI @N9<|anI @JT<|anI @Ff<|anI @LX<|anI @JV<|anI @JE<|trivial
end Am
namespace Am
open PySem PySem.Spec PyProof.Rows L2
abbrev Df (K:au)(x:Str)(st:aF):Prop:=∃(f:ak) (fd:FuncData),PySem.W.nsIn K mainGlobals x=some (some<|.ref f)/\Fun K x x st f fd
inductive En (P:aj) (w:ah) (K:au) (mg:Str->bd) (base:aq):Prop
 | mk (h:aq) (X:K.In h) (G:h.Ns mainGlobals mg)
section
variable {P:aj}{w:ah}{K:au}{mg:Str->bd}{base:aq}{x:Str}{st:aF}{ps:ar}{k:Nat}{F:ae->j5->R A}
def En.at(E:En P w K mg base){f:ak}(h:PySem.W.nsIn K mainGlobals x=some (some<|.ref f)):mg x=some (.ref f):=by
 obtain⟨_,X,G⟩:=E;exact cC X G h
def Df.of{f:ak}{kV pm ct:af}(a:PySem.W.nsIn K mainGlobals x=some (some<|.ref f))(l:K.lookup f=some ⟨oc,od,.func<|PySem.W.fnOf x x (wz st) (oW st) (j_ st) .none kV doc pm an cdv ct,osl⟩)(c:PySem.W.codeIn K cdv x=true)(k:keepIn K (.ref f)=true):Df K x st:=⟨f,_,a,Yt l c k⟩
meta abbrev Bi (x:Str)(st:aF)(ps:ar):Prop:=∀us:ba,us.length=ps.length->∀(kV doc pm:af) (an:Option ak) (cdv ct:af),bindArgs (PySem.W.fnOf x x (wz st) (oW st) (j_ st) .none kV doc pm an cdv ct) ⟨us,[]⟩=pure (ps.zip us)
def Df.get(d:Df K x st)(E:En P w K mg base)(b:Bi x st ps):∃f fd,Fun K x x st f fd/\mg x=some (.ref f)/\keepIn K (.ref f)=true/\Binds K fd ps []:=by
 obtain⟨f,fd,a,F⟩:=d;exact⟨f,fd,F,E.at a,F.kp,F.binds λkV doc pm an cdv ct us g=>b us g kV doc pm an cdv ct⟩
def Df.kA(d:Df K x st)(E:En P w K mg base)(h:∀{f fd},Fun K x x st f fd->FnOk P w K mg base t8 k f fd ps (uN K ps.length F))(b:Bi x st ps):rV P w K mg base k x ps F:=by
 obtain⟨f,fd,a,c,e,g⟩:=d.get E b;exact⟨f,fd,h a,c,e,g⟩
def Df.kX(d:Df K x st)(E:En P w K mg base)(h:∀{f fd},Fun K x x st f fd->FnOk P w K mg base (xN P w) k f fd ps (Ck K ps.length F))(b:Bi x st ps):yp P w K mg base k x ps F:=by
 obtain⟨f,fd,a,c,e,g⟩:=d.get E b;exact⟨f,fd,h a,c,e,g⟩
def Df.rX(d:Df K x st)(E:En P w K mg base)(h:∀{f fd},Fun K x x st f fd->mg x=some (.ref f)->keepIn K (.ref f)=true->Binds K fd ps []->FnOk P w K mg base (xN P w) k f fd ps (Ck K ps.length F))(b:Bi x st ps):yp P w K mg base k x ps F:=by
 obtain⟨f,fd,a,c,e,g⟩:=d.get E b;exact⟨f,fd,h a c e g,c,e,g⟩
def Df.kH(d:Df K x st)(E:En P w K mg base)(h:∀{f fd},Fun K x x st f fd->FnOkH P w K mg base k f fd ps (uN K ps.length F))(b:Bi x st ps):Ut P w K mg base k x ps F:=by
 obtain⟨f,fd,a,c,e,g⟩:=d.get E b;exact⟨f,fd,h a,c,e,g⟩
end
section
variable {X:Cx}{pos p:Pos}{e1 e2 e3:aE}{x p1 p2 p3:Str}{k K0:Nat}{F:ae->j5->R A}{c1 c2 c3:Ex}
def Bb(G:rV X.prog X.w X.K X.mg X.base k x [p1] F)(Z:Room K0 X.A)(h1:AE X e1 c1)(hk:k<=K0<|>δ)(hg:Gl X x<|>ε)(J:(x == ("__debug__" : Str))=false<|>δ)(U:starEach [e1] X.env=(false,eval e1 X.env)::starEach [] X.env<|>ε)(hp:((backTo pos<|starEach [] X.env).any (·.1)=false)<|>ε):AE X (.Call (.Name x p) [e1] [] pos) (eFn F<|jY c1 ki):=zm G (Z.mono hk) (j3 h1 kc U) (kB l5) hg J U hp
def Ub(G:rV X.prog X.w X.K X.mg X.base k x [p1,p2] F)(Z:Room K0 X.A)(h1:AE X e1 c1)(h2:AE X e2 c2)(hk:k<=K0<|>δ)(hg:Gl X x<|>ε)(J:(x == ("__debug__" : Str))=false<|>δ)(U:starEach [e1,e2] X.env=(false,eval e1 X.env)::starEach [e2] X.env<|>ε)(s2:starEach [e2] X.env=(false,eval e2 X.env)::starEach [] X.env<|>ε)(hp:((backTo pos<|starEach [e2] X.env).any (·.1)=false)<|>ε):AE X (.Call (.Name x p) [e1,e2] [] pos) (eFn F<|jY c1<|jY c2 ki):=zm G (Z.mono hk) (j3 h1 (j3 h2 kc s2) U) (kB<|kB l5) hg J U hp
def fn3(G:rV X.prog X.w X.K X.mg X.base k x [p1,p2,p3] F)(Z:Room K0 X.A)(h1:AE X e1 c1)(h2:AE X e2 c2)(h3:AE X e3 c3)(hk:k<=K0<|>δ)(hg:Gl X x<|>ε)(J:(x == ("__debug__" : Str))=false<|>δ)(U:starEach [e1,e2,e3] X.env=(false,eval e1 X.env)::starEach [e2,e3] X.env<|>ε)(s2:starEach [e2,e3] X.env=(false,eval e2 X.env)::starEach [e3] X.env<|>ε)(s3:starEach [e3] X.env=(false,eval e3 X.env)::starEach [] X.env<|>ε)(hp:((backTo pos<|starEach [e2,e3] X.env).any (·.1)=false)<|>ε):AE X (.Call (.Name x p) [e1,e2,e3] [] pos) (eFn F<|jY c1<|jY c2<|jY c3 ki):=zm G (Z.mono hk) (j3 h1 (j3 h2 (j3 h3 kc s3) s2) U) (kB<|kB<|kB l5) hg J U hp
def fx1(G:yp X.prog X.w X.K X.mg X.base k x [p1] F)(Z:Room K0 X.A)(h1:AE X e1 c1)(hk:k<=K0<|>δ)(hg:Gl X x<|>ε)(J:(x == ("__debug__" : Str))=false<|>δ)(U:starEach [e1] X.env=(false,eval e1 X.env)::starEach [] X.env<|>ε)(hp:((backTo pos<|starEach [] X.env).any (·.1)=false)<|>ε):AE X (.Call (.Name x p) [e1] [] pos) (qp F<|jY c1 ki):=sI G (Z.mono hk) (j3 h1 kc U) (kB l5) hg J U hp
def Ug(G:yp X.prog X.w X.K X.mg X.base k x [p1,p2] F)(Z:Room K0 X.A)(h1:AE X e1 c1)(h2:AE X e2 c2)(hk:k<=K0<|>δ)(hg:Gl X x<|>ε)(J:(x == ("__debug__" : Str))=false<|>δ)(U:starEach [e1,e2] X.env=(false,eval e1 X.env)::starEach [e2] X.env<|>ε)(s2:starEach [e2] X.env=(false,eval e2 X.env)::starEach [] X.env<|>ε)(hp:((backTo pos<|starEach [e2] X.env).any (·.1)=false)<|>ε):AE X (.Call (.Name x p) [e1,e2] [] pos) (qp F<|jY c1<|jY c2 ki):=sI G (Z.mono hk) (j3 h1 (j3 h2 kc s2) U) (kB<|kB l5) hg J U hp
def sS{N P:ar}{J:Scope}(a:J.kind=.function)(b:J.isCoroutine=false)(c:J.isGenerator=false)(h:N.Nodup/\N.take P.length=P/\(∀x∈P,J.names.lookup x=some .local\/J.names.lookup x=some .cell)/\∀y∈J.names,y.2≠.free):FnScope N P J:=⟨a,b,c,h.1,h.2.1,h.2.2.1,h.2.2.2⟩
end
abbrev mW (S:j5)(n:Nat):Option (List<|Int×A):=match S[n]? with
 | some (.rC xs)=>some xs
 | _=>none
def qV{n:Nat}(h:mW S n=some xs):S[n]?=some (.rC xs):=by
 unfold mW at h;split at h
 ·rename_i e;cases h;exact e
 ·cases h
def EB{S:j5}{n:Nat}(h:S[n]?=some (.rC xs)):mW S n=some xs:=by
 unfold mW;rw[h]
abbrev oJ (kvs:List<|Int×A)(k:Int):Option A:=(kvs.find? λkv=>decide<|kv.1=k).map (·.2)
abbrev yG (kvs:List<|Int×A)(k:Int)(v:A):List (Int×A):=
 if (oJ kvs k).isSome=true then kvs.map (λkv=>if kv.1=k then(kv.1,v)else kv)else kvs++[(k,v)]
section
variable {K:au}{ρ:bb}{H:Hp}
def Nj{p:Int×A}{r:List<|Int×A}{k:Int}(e:p.1=k):oJ (p::r) k=some p.2:=by simp[oJ,cO,e]
def Mt{p:Int×A}{r:List<|Int×A}{k:Int}(e:¬p.1=k):oJ (p::r) k=oJ r k:=by simp[oJ,cO,e]
def aa5{a b:Int}(e:(Sum.inl a:Key)=Sum.inl b):a=b:=by injection e
theorem DI.look:∀{kvs:List<|Int×A}{ks:List<|Key×V}(k:Int),DI K ρ H kvs ks->(oJ kvs k).isSome=(rq ks (Sum.inl k:Key)).isSome/\∀x,oJ kvs k=some x->∃v,rq ks (Sum.inl k:Key)=some v/\AV K ρ H x v
 | [],[],k,_=>⟨rfl,λx h=>nomatch h⟩
 | p::r,q::r',k,⟨⟨e,a⟩,t⟩=>by
  by_cases c:p.1=k
  ·have d:q.1=(Sum.inl k:Key):=by rw[e,c]
   rw[Nj c,vI d];exact⟨rfl,λx h=>by cases h;exact⟨_,rfl,a⟩⟩
  ·have d:¬q.1=(Sum.inl k:Key):=λz=>c<|aa5<|e.symm.trans z;rw[Mt c,u9 d];exact DI.look k t
theorem DI.repl{x:A}{v:V}(h:AV K ρ H x v)(k:Int):∀{kvs:List<|Int×A}{ks:List<|Key×V},DI K ρ H kvs ks->DI K ρ H (kvs.map λkv=>if kv.1=k then(kv.1,x)else kv) (ks.map λkv=>if kv.1=(Sum.inl k:Key)then(kv.1,v)else kv)
 | [],[],_=>trivial
 | p::r,q::r',⟨⟨e,a⟩,t⟩=>by
  refine⟨?_,DI.repl h k t⟩;dsimp only;by_cases c:p.1=k
  ·rw[aO c,aO<|by rw[e,c]];exact⟨e,h⟩
  ·rw[aM c,aM λz=>c<|aa5<|e.symm.trans z];exact⟨e,a⟩
theorem DI.snoc{x:A}{v:V}(h:AV K ρ H x v)(k:Int):∀{kvs:List<|Int×A}{ks:List<|Key×V},DI K ρ H kvs ks->DI K ρ H (kvs++[(k,x)]) (ks++[(Sum.inl k,v)])
 | [],[],_=>⟨⟨rfl,h⟩,trivial⟩
 | p::r,q::r',⟨a,t⟩=>⟨a,DI.snoc h k t⟩
def DI.put{x:A}{v:V}(h:AV K ρ H x v)(k:Int)(d:DI K ρ H kvs ks):DI K ρ H (yG kvs k x) (putK ks (Sum.inl k:Key) v):=by
 unfold yG putK;rw[yh,<- (d.look k).1];by_cases c:(oJ kvs k).isSome=true
 ·rw[aO c,aO c];exact DI.repl h k d
 ·rw[aM c,aM c];exact DI.snoc h k d
def DI.length:∀{kvs:List<|Int×A}{ks:List<|Key×V},DI K ρ H kvs ks->kvs.length=ks.length
 | [],[],_=>rfl
 | _::_,_::_,⟨_,t⟩=>dG (·+1) t.length
theorem DI.keys:∀{kvs:List<|Int×A}{ks:List<|Key×V},DI K ρ H kvs ks->ks.map (·.1)=kvs.map λkv=>(Sum.inl kv.1:Key)
 | [],[],_=>rfl
 | _::_,_::_,⟨⟨e,_⟩,t⟩=>by rw[bL,bL,e,DI.keys t]
def Rel.rC{n:Nat}{a:ak}(R:Rel K ρ H S)(ha:ρ[n]?=some a)(hS:S[n]?=some (.rC xs)):∃vs,H a=some (.dK vs)/\DI K ρ H xs vs:=R.at n a _ ha hS
def Rel.aaU{S:j5}{p:ak}(R:Rel K ρ H S)(hp:H p=none)(r:DI K ρ H xs vs):Ext ρ (ρ++[p]) H (upd H p<|.dK vs)/\Rel K (ρ++[p]) (upd H p<|.dK vs) (S++[.rC xs])/\(ρ++[p])[S.length]?=some p:=by
 have ex:Ext ρ (ρ++[p]) H (upd H p<|.dK vs):=⟨⟨eS _ _,λa u _ h=>by rw[j8<|kF h hp];exact h⟩,λa u h _=>by rw[j8<|kF h hp];exact h,λa h=>by
  rcases bq.mp h with z|z
  ·exact .inl z
  ·have e:a=p:=by simpa using z
   rw[e];exact .inr hp⟩
 have np:p∉ρ:=R.FN hp;have d:(ρ++[p])[S.length]?=some p:=by rw[<- R.len];simp
 refine⟨ex,⟨by simp[R.len],?_,?_⟩,d⟩
 ·rw[b8];o_rec;have:b=p:=by simpa using hb
  exact np<|by rw[<- this,<- e];exact ha
 ·intro n a o h1 h2;by_cases hn:n<S.length
  ·rw[bE<|by rw[R.len];exact hn]at h1;rw[bE hn]at h2;have na:a≠p:=λz=>np (by rw[<- z];exact aW h1);have:=R.at n a o h1 h2
   cases o with
   | lst ys=>obtain⟨f,e,q⟩:=this;exact⟨f,by rw[j8 na];exact e,q.ext ex⟩
   | dct _|rC _|dks _|dcp _=>obtain⟨f,e,q⟩:=this;exact⟨f,by rw[j8 na];exact e,q.ext ex⟩
   | dcf _|dkf _=>obtain⟨g,f,e,q⟩:=this;exact⟨g,f,by rw[j8 na];exact e,q.ext ex⟩
   | ins _ _=>obtain⟨g,j,e⟩:=this;exact⟨g,j,by rw[j8 na];exact e⟩
  ·have e:n=S.length:=by
    have:=(aJ.mp h2).1;simp at this
    lia
   subst e;rw[d]at h1
   cases h1
   simp at h2;subst h2;exact⟨vs,kP,r.ext ex⟩
def Rel.yG{S:j5}{n:Nat}{a:ak}(R:Rel K ρ H S)(ha:ρ[n]?=some a)(hS:S[n]?=some (.rC xs))(r:DI K ρ H ys ws):Ext ρ ρ H (upd H a<|.dK ws)/\Rel K ρ (upd H a<|.dK ws) (S.set n<|.rC ys):=by
 obtain⟨vs,e,_⟩:=R.at n a _ ha hS;have ex:Ext ρ ρ H (upd H a<|.dK ws):=⟨⟨dU _,λb u i h=>by
  have:b≠a:=by
   intro z;subst z;rw[e]at h;cases h;exact i
  rw[j8 this];exact h⟩,λb u h n=>by
  rw[j8 λz=>n<|by rw[z];exact aW ha];exact h,λ_ h=>.inl h⟩
 refine⟨ex,by rw[bW];exact R.len,R.nd,λm b o h1 h2=>?_⟩;by_cases j:m=n
 ·subst j;rw[ha]at h1;cases h1;rw[bP (aJ.mp hS).1]at h2
  cases h2
  exact⟨ws,kP,r.ext ex⟩
 ·rw[bV<|Ne.symm j]at h2;have nb:b≠a:=λz=>by
   subst z;obtain⟨B,e1⟩:=aJ.mp ha;obtain⟨p,e2⟩:=aJ.mp h1;exact j<|(dF R.nd).mp<|e2.trans e1.symm
  have:=R.at m b o h1 h2
  cases o with
  | lst ys=>obtain⟨d,f,q⟩:=this;exact⟨d,by rw[j8 nb];exact f,q.ext ex⟩
  | dct _|rC _|dks _|dcp _=>obtain⟨d,f,q⟩:=this;exact⟨d,by rw[j8 nb];exact f,q.ext ex⟩
  | dcf _|dkf _=>obtain⟨g,d,f,q⟩:=this;exact⟨g,d,by rw[j8 nb];exact f,q.ext ex⟩
  | ins _ _=>obtain⟨g,k,f⟩:=this;exact⟨g,k,by rw[j8 nb];exact f⟩
end
section
variable {X:Cx}{pos:Pos}{a b:aE}
abbrev Au (x y:A)(S:j5):R A:=match x,y with
 | .ref n,.int k=>opt (mW S n) λd=>opt (oJ d k) λv=>.ok v S
 | _,_=>.no
def Nr{x:A}{P:A->j5->Prop}{E:Str->j5->Prop}(h:(Au x y S).post P E):∃n k kvs v,x=.ref n/\y=.int k/\mW S n=some kvs/\oJ kvs k=some v/\P v S:=by
 unfold Au at h;split at h
 ·obtain⟨kvs,h1,h⟩:=kj h;obtain⟨v,h2,h⟩:=kj h;exact⟨_,_,kvs,v,rfl,rfl,h1,h2,h⟩
 ·exact h.elim
def aaY(J:X.A.units+64<cLine):Xi X (r2 X Au):=λj f ai s σ H x y v u Q I rx ry ⟨ρ,S,a,b,R,va,vb,h⟩ hs=>by
 obtain⟨n,k,q,z,ha,hb,hn,m,hP⟩:=Nr h;subst ha hb
 cases vb
 cases va with
 | @ref p _ hp=>
  obtain⟨ks,e,d⟩:=R.rC hp<|qV hn;obtain⟨w,hw,B⟩:=(d.look k).2 z m;have g:w4 H p (kV<|Sum.inl k) (rq ks<|Sum.inl k):=w4.k e;rw[hw]at g;exact KO () j f ai s σ H _ _ v u Q I rx ry ⟨p,w,rfl,g,hP _ _ _ .refl R B⟩ hs
def Ph(J:X.A.units+64<cLine){ca cb:Ex}(ha:AE X a ca)(hb:AE X b cb)(hs:Aj b<|>ι):AE X (.Subscript a b pos) (ko Au ca cb):=PE.imp (Qq (aaY J) ha hb hs) λσ H Q h=>wB h
abbrev CJ (o i v:A)(S:j5):R Unit:=match o,i with
 | .ref n,.int k=>opt (mW S n) λd=>gd (d.length<sizeLine) (.ok Unit.unit<|S.set n<|.rC<|yG d k v)
 | _,_=>.no
def HW{x v:A}{S:j5}{P:Unit->j5->Prop}{E:Str->j5->Prop}(h:(CJ x y v S).post P E):∃n k kvs,x=.ref n/\y=.int k/\mW S n=some kvs/\kvs.length<sizeLine/\P Unit.unit (S.set n<|.rC<|yG kvs k v):=by
 unfold CJ at h;split at h
 ·obtain⟨kvs,h1,h⟩:=kj h;obtain⟨h2,h⟩:=kO h;exact⟨_,_,kvs,rfl,rfl,h1,h2,h⟩
 ·exact h.elim
abbrev adJ (X:Cx):Fg:=λo i v H Q=>∃ρ S d f g,Rel X.K ρ H S/\AV X.K ρ H d o/\AV X.K ρ H f i/\AV X.K ρ H g v/\(CJ d f g S).post (λ_ j=>∀ρ' H',Ext ρ ρ' H H'->Rel X.K ρ' H' j->Q H') (XE X ρ H)
def Wm(U:X.A.units+64<cLine):HJ X (adJ X):=λai s σ H o i v C iv u Q I f j g h9=>by
 obtain⟨ρ,S,J,K,G,R,h1,h2,h3,h⟩:=h9;obtain⟨n,k,B,ha,hb,hn,m,hP⟩:=HW h;subst ha hb
 cases h2
 cases h1 with
 | @ref p _ hp=>
  obtain⟨ks,e,d⟩:=R.rC hp<|qV hn;obtain⟨ex,q⟩:=R.yG hp (qV hn)<|d.put h3 k;exact set_dict (by omega) ai s σ H _ _ v C iv u Q I f j g ⟨p,_,rfl,FO.k (k:=Sum.inl k) e<|by rw[<- d.length];exact m,hP _ _ ex q⟩
abbrev M1 (co J:Ex):Tg:=λa τ S=>(co τ S).bind λo S1=>(J τ S1).bind λi S2=>(CJ o i a S2).bind λ_ S3=>.ok τ S3
def LD(U:X.A.units+64<cLine){co J:Ex}(Z:AE X o co)(hi:AE X i J)
  (ha:(∀v,assign (.Subscript o i pos) X.env v=(do
   let ov <- holding [v] (eval o X.env)
   let iv <- holding [v,ov] (eval i X.env)
   standAt pos
   holding [v,ov,iv] (setItem ov iv v)
   release [v,ov,iv] []))<|>η):AG X (.Subscript o i pos) (M1 co J):=PG.imp (Ih Z hi (Wm U) ha) λv σ H Q h9=>by
 obtain⟨ρ,S,τ,a,R,r,va,h⟩:=h9;gp_on;kcj_m;f_are
abbrev Iz:Ex:=λ_ S=>.ok (.ref S.length)<|S++[.rC []]
def Rx:AE X (.Dict [] [] pos) Iz:=PE.imp R_ λσ H Q ⟨ρ,S,τ,R,r,h⟩ p hp=>by
 obtain⟨ex,f,d⟩:=R.aaU (xs:=[]) (vs:=[]) hp trivial;exact h _ _ _ ex f<|.ref d
abbrev dk? (a:A)(S:j5):Option Unit:=match a with
 | .ref n=>(mW S n).map λ_=>Unit.unit
 | _=>none
abbrev IE (f:A->ae->j5->R A)(co:Ex)(d:rT):Ex:=λτ S=>(co τ S).bind λx S1=>opt (dk? x S1) λ_=>(d τ S1).bind λas S2=>f x as S2
def dk?_ty{K:au}{H:Hp}{x:A}{v:V}(R:Rel K ρ H S)(a:AV K ρ H x v)(e:dk? x S=some u):tyV K "dict" v H:=by
 cases a with
 | @ref p n h=>
  obtain⟨xs,d,_⟩:=bh.mp e;obtain⟨vs,h1,_⟩:=R.rC h<|qV d;exact .inr<|.inr<|.inl ⟨rfl,.inl ⟨vs,h1⟩⟩
 | _=>cases e
def Ho{e:aE}{id:String}{apos cpos:Pos}{f:A->ae->j5->R A}{co:Ex}{d:rT}(slot:Slot "dict" name id)(hty:typeOf (.builtin id)=pure (.type "method_descriptor"))(hm:Ot X id<|rM X f)(ho:AE X o co)(ha:AL X (e::es) d)
  (U:attributeBase o name X.env (eval o X.env)=eval o X.env<|>ε)
  (hfew:(((backTo cpos<|starEach (e::es) X.env).all (λx=>!x.1) && (backToKw cpos<|keywordEach [] X.env).all (λx=>x.1.isSome)
   && decide ((e::es).length+([]:List Keyword).length+(if ([]:List Keyword).isEmpty then 0 else 1)<30))=true)<|>ε)
  (Z:(apos.endLine == cpos.line)=true<|>ε) (hs:starEach (e::es) X.env=(false,eval e X.env)::starEach es X.env<|>ε) (J:((backTo cpos<|starEach es X.env).any (·.1)=false)<|>ε) :
  AE X (.Call (.Attribute o name apos) (e::es) [] cpos) (IE f co d):=PE.imp (Pc iu slot hty hm ho ha U hfew Z hs J) λσ H Q h9=>by
 room;kpf_c;obtain⟨xs,g,h1⟩:=kj h1;refine⟨dk?_ty R1 v1 g,ρ1,S1,τ,R1,r.ext e1,j6 (kh h1) e1 λas S2 h2 ρ2 H2 vs e2 R2 v2=>?_⟩;mg_lt
abbrev xS (o:A)(as:ae)(S:j5):R A:=match o,as with
 | .ref n,[.int k,y]=>opt (mW S n) λd=>.ok ((oJ d k).getD y) S
 | _,_=>.no
def Iq{x:A}{P:A->j5->Prop}{E:Str->j5->Prop}(h:(xS x as S).post P E):∃n k y kvs,x=.ref n/\as=[.int k,y]/\mW S n=some kvs/\P ((oJ kvs k).getD y) S:=by
 unfold xS at h;split at h
 ·obtain⟨kvs,h1,h⟩:=kj h;exact⟨_,_,_,kvs,rfl,rfl,h1,h⟩
 ·exact h.elim
def Hz(U:X.A.units+64<cLine):Ot X "dict.get" (rM X xS):=λai s σ H x vs v us Q I rx G h9=>by
 obtain⟨ρ,S,o,as,R,m,va,h⟩:=h9;obtain⟨n,k,y,d,L,has,hn,hP⟩:=Iq h;subst L has;obtain⟨P,N,rfl,q,hy⟩:=Zu va
 cases q
 cases m with
 | @ref p _ hp=>
  obtain⟨ks,h1,K⟩:=R.rC hp (qV hn)
  cases rx
  obtain⟨O,M,rfl,r1,r2⟩:=vals2 G;refine YB (by omega) I (w4.k (k:=Sum.inl k) h1) r1 r2 λT s' j g=>⟨_,H,j,g,hP _ _ _ .refl R ?_⟩;obtain⟨f,J⟩:=K.look k
  cases e1:oJ d k with
  | none=>
   rw[e1]at f
   cases e2:rq ks (Sum.inl k:Key)with
   | none=>exact hy
   | some _=>rw[e2]at f;cases f
  | some C=>
   obtain⟨v1,e2,B⟩:=J C e1;rw[e2];exact B
end
end Am
namespace L2
open PySem PySem.Spec PyProof.Rows
section
variable {P:aj}{w:ah}{A:aA}{E:af->aC->Prop}{s:aC}{it d:ak}{i ep:Nat}{es:Array DictEntry}{o:Obj}
def Zd{Q:bd->aC->Prop}(hi:s.heap.IsKeyIter it d i es.size ep)(J:s.heap.get? d=some o)(U:o.data=.dict es ep)(lt:i<es.size)
  (q:∀h',h'.IsKeyIter it d (i+1) es.size ep->Heap.SameBut it s.heap h'->Q (some es[i].key) { s with heap:=h' }):wpAny (model P w) A (pyNext<|.ref it) Q E s:=by
 have ty:=hi.typeIs;obtain⟨C,g,m,f⟩:=id hi;have own:Builtin.Dict_items.ownsTuple "dict_keyiterator" = false:=by decide
 have p:¬((Value.ref d == Value.none)=true):=br;have B:¬((i:Int)<0):=by omega
 unfold pyNext;refine aG<|fJ<|dH (name:=Str.ofString "__next__") ty cW<|cD cW ty gQ ?_<|gK _;refine aG (aL<|aG<|aG ?_)
 first
  | refine aG (dY ty<|aL<|aG<|eN g f ?_)
  | refine aG<|fK ty<|aL<|aG<|eN g f ?_
 dsimp[own,cQ,bK];show wpAny (model P w) _ (if (Value.ref d == Value.none)=true then _ else _) _ _ s;rw[aM p];refine aG<|aL<|aG<|fm J U ?_;rw[aM<|show ¬_ by simp];refine aG<|aL<|aG<|gp J U ?_;rw[aM<|show ¬_ by simp];refine aL ?_;dsimp[B,cQ,di,eX lt];refine aG ?_
 first
  | refine aG (dY ty<|aL<|aG<|iT ty ?_)
  | refine aG<|fK ty<|aL<|aG<|iT ty ?_
 show wpAny (model P w) _ (setField (.ref it) 1 (rawInt<|(i:Int)+1) >>= _) _ _ s;refine aG (jn g f (show _ by simp) ?_);have j:(s.heap.update it<|Obj.mapFields λfs=>fs.setIfInBounds 1<|rawInt<|(i:Int)+1).IsKeyIter it d (i+1) es.size ep:=
  ⟨_,gq _ g<|iS<|g_ f _,(Obj.cls_mapFields ..).trans m,by
   rw[g_ f];simp[rawInt]⟩
 have k:Shared.TypeIs { s with heap:=s.heap.update it<|Obj.mapFields λfs=>fs.setIfInBounds 1<|rawInt<|(i:Int)+1} (.ref it) "dict_keyiterator" := Heap.IsKeyIter.typeIs (s:={ s with heap:=_ }) j;refine aG (cH<|aG<|iT k ?_)
 skip
 exact aL<|aL ⟨_,rfl,aL<|q _ j<|jh ..⟩
def Vo{Q:bd->aC->Prop}(hh:A.handled=none)(hi:s.heap.IsKeyIter it d i es.size ep)(J:s.heap.get? d=some o)(U:o.data=.dict es ep)(ge:es.size<=i)
  (q:∀h',Heap.ExtBut it s.heap h'->Q none { s with heap:=h' }):wpAny (model P w) A (pyNext<|.ref it) Q E s:=by
 have ty:=hi.typeIs;obtain⟨B,g,p,f⟩:=id hi;have own:Builtin.Dict_items.ownsTuple "dict_keyiterator" = false:=by decide
 have j:¬((Value.ref d == Value.none)=true):=br;have k:¬((i:Int)<0):=by omega
 unfold pyNext;refine aG<|fJ<|dH (name:=Str.ofString "__next__") ty cW<|cD cW ty gQ ?_<|gK _;refine aG (aL<|aG<|aG ?_)
 first
  | refine aG (dY ty<|aL<|aG<|eN g f ?_)
  | refine aG<|fK ty<|aL<|aG<|eN g f ?_
 dsimp[own,cQ,bK];show wpAny (model P w) _ (if (Value.ref d == Value.none)=true then _ else _) _ _ s;rw[aM j];refine aG<|aL<|aG<|fm J U ?_;rw[aM<|show ¬_ by simp];refine aG<|aL<|aG<|gp J U ?_;rw[aM<|show ¬_ by simp];refine aL ?_;dsimp[k,cQ,di,gb ge];refine aG ?_
 first
  | refine aG (dY ty<|aL ?_)
  | refine aG<|fK ty<|aL ?_
 show wpAny (model P w) _ (setField (.ref it) 0 .none >>= _) _ _ s;refine aG (jn g f (show _ by simp) ?_)
 skip
 refine aG ?_;dsimp[newExc,newTuple];refine aG (bY (aG (m:=firstArgMember _ _)<|wpAny_of_eq (a:=Value.none) (by first|rfl|(dsimp[firstArgMember];rfl))<|bY ?_<|by size_fits)<|by size_fits);dsimp[raiseNew];have hn:A.in1.handled=none:=hh;refine aG<|wpAny_handled<|?_;rw[hn];refine aG<|aL<|wpAny_throw<|?_;refine aG<|wpAny_isInstance (b:=true) (T := "StopIteration") ⟨_,bu _ rfl,rfl⟩ isSubtype_stop<|aL<|q _<|((jh ..).extBut.push _).push _
def IW{Q:af->aC->Prop}(ty:s.TypeIs (.ref d) "dict")(hs:(d == sysModules)=false)(J:s.heap.get? d=some o)(U:o.data=.dict es ep)
  (q:Q (.ref s.heap.objs.size) { s with heap:=s.heap.push { cls:=.type "dict_keyiterator",data:=.fields #[.ref d,.int 0 0,.int es.size 0,.int ep 0]}}):wpAny (model P w) A (pyIter<|.ref d) Q E s:=by
 refine jx ty PySem.F.slot_dict_iter<|cD PySem.F.slot_dict_iter ty PySem.F.entry_dict_iter ?_<|PySem.F.args_dict_iter_1 _;delta Builtin.«dict.__iter__»;refine aG ?_;delta Builtin.Dict.dictSlotNone;refine aG (iR ty ?_)
 skip
 refine aL ?_;show wpAny (model P w) _ (Builtin.Dict.showsAll d >>= _) _ _ s;delta Builtin.Dict.showsAll;have nd:¬((d == sysModules)=true):=by rw[hs];exact br
 rw[aM nd];refine aG<|aL<|aG<|fm J U<|aG<|gp J U ?_;refine aG<|bY<|aL ⟨_,rfl, "dict_keyiterator",_,⟨_,bu _ rfl,rfl⟩,cW.lookup,?_⟩;simpa[rawInt]using q
end
section
variable {P:aj}{w:ah}
def MR{A:aA}(hh:A.handled=none)(it d:ak)(ne:d≠it){es:Array DictEntry}{o:Obj}(J:o.data=.dict es ep) :
  Walks P w A it [it,d] [it] es.size (λi v=>(es[i]?).map (λe=>e.key)=some v) (λi h=>h.IsKeyIter it d i es.size ep/\h.get? d=some o) where
 sub:=λb hb=>by
  rw[bg.mp hb];exact aR ..
 frame:=λ_ _ _ st f=>⟨st.1.at λx e=>f it (aR ..) x e,f d (aS _<|aR ..) o st.2⟩
 item:=λi s Q E lt st q=>Zd st.1 st.2 J lt λh' k1 k2=>q _ h' s.toks (by rw[eX lt];rfl) ⟨k1,k2.extBut d o ne st.2⟩ λb x nb e=>k2.extBut b x (λz=>nb<|bg.mpr z) e
 done:=λs Q E st q=>Vo hh st.1 st.2 J (aP _) λh' k=>q h' s.toks λb x nb e=>k b x (λz=>nb<|bg.mpr z) e
 self:=λ_ _ _ _ st q=>wpAny_pyIter_keyiter st.1 q
def Ve{es:Array DictEntry}{o:Obj}(hs:(d == sysModules)=false)(hc:o.cls=.type "dict")(J:o.data=.dict es ep) :
  PySem.W.KdlSrc P w "dict" d d es.size (λi v=>(es[i]?).map (λe=>e.key)=some v) (λh=>h.get? d=some o) where
 type:=λ_ f=>⟨o,f,hc⟩
 there:=λ_ f=>⟨a_ f,a_ f⟩
 keep:=λ_ _ f j=>j d (.inl rfl) o f
 notList:=by decide
 notTuple:=by decide
 hint:=λ_ _ _ _ f g=>PySem.W.kdl_hint_dict ⟨o,f,hc⟩ g
 iter:=λ_ s k f=>⟨_,_,(λ_ _ g=>IW ⟨o,f,hc⟩ hs f J g),MR k _ d (bD<|a_ f) J,⟨⟨_,bu _ rfl,rfl,rfl⟩,aN _ f⟩⟩
end
section
variable {X:Cx}
def aav{H:Hp}{s:aC}{kvs:List<|List Key×V}(I:Inv X ai σ H s)(U:H d=some (.dT kvs)) :
  ∃(ob:Obj) (es:Array DictEntry) (ep:Nat) (rs:bb),s.heap.get? d=some ob/\ob.cls=.type "dict" /\ ob.data=.dict es ep/\(d == sysModules)=false/\kvs.length<=sizeLine/\rs.length=kvs.length/\es.size=kvs.length /\
   (∀i:Nat,(es[i]?).map (λe:DictEntry=>e.key)=(rs[i]?).map Value.ref)/\∀(i:Nat) r p,rs[i]?=some r->kvs[i]?=some p->H r=some (.tup<|p.1.map kV):=by
 obtain⟨z,q,xs,g,dd⟩:=Gk I.hok U;obtain⟨ob,es,ep,m,g2,B,k,G,K⟩:=id dd;obtain⟨j,C⟩:=kt_at g;have f:es.size=xs.length:=by have:=dG List.length k;simpa using this
 refine⟨ob,es,ep,xs.map λy=>y.2.1,m,g2.1,B,q,z,by rw[aK,j],by rw[f,j],λi=>?_,λi r p e1 e2=>?_⟩
 ·rw[<- dm,k,aQ,aQ,gB,gB]
  cases xs[i]?<;>rfl
 ·obtain⟨y,h1,h2,h3,J⟩:=C i p e2;rw[aQ,h1]at e1
  cases e1
  exact h3
def EG(hc:X.calm=true):kR X (.builtin "sorted") (λxs H Q=>∃(d:ak) (kvs:List<|List Key×V) (b4:List<|ag),xs=[.ref d]/\H d=some (.dT kvs)/\kvs.map (λp=>p.1)=b4.map (λks=>ks.map Sum.inl)/\(∀ks∈b4,ks≠[])/\Sx.RO b4.length /\
  ∀(rs:bb) l g,rs.length=b4.length->(∀(i:Nat) (r:ak) (ks:ag),rs[i]?=some r->b4[i]?=some ks->H r=some (.tup<|ks.map V.int))->H l=none->Sx.Cl g 0 b4.length->Sx.So (Sx.MU b4) g 0 b4.length ->
   Q (.ref l) (upd H l<|.lst<|((List.range b4.length).map λi=>rs.getD (g i) 0).map V.ref)):=by
 w_up;obtain⟨d,kvs,b4,rfl,Y,J,B,L,q⟩:=h;kj_on
 cases rx
 obtain⟨ob,es,ep,rs,P,g2,g3,g4,G,C,M,Z,T⟩:=aav I Y;have k:kvs.length=b4.length:=by have:=dG List.length J;simpa using this
 have K:∀(i:Nat) (r:ak) (ks:ag),rs[i]?=some r->b4[i]?=some ks->H r=some (.tup<|ks.map V.int):=λi r ks e1 e2=>by
  have lt:i<kvs.length:=by rw[k];exact(aJ.mp e2).1
  have h1:=T i r kvs[i] e1 (aH lt);have h2:(kvs.map λp=>p.1)[i]?=(b4.map λks=>ks.map Sum.inl)[i]?:=by rw[J]
  rw[aQ,aQ,e2,aH lt]at h2;have h3:kvs[i].1=ks.map Sum.inl:=bB h2;rw[h3,bF]at h1;exact h1
 kst_p;unfold Builtin.«sorted»;refine aG (m:=checkCount "sorted" 1 1 _)<|aL ?_;refine aG (PySem.W.kdu_collect (Ve g4 g2 g3) (show X.A.in1.handled=none from I.ok.hd hc) P (by rw[M];exact G) λh' N acc O f=>?_);have U:acc.toList=rs.map Value.ref:=by
  refine dj λj=>?_;rw[dm,aQ,<- Z j]
  cases e:acc[j]? with
  | some v=>exact(f.2 j v e).symm
  | none=>
   have:acc.size<=j:=Array.getElem?_eq_none_iff.mp e;rw[gb<|by rw[<- f.1];exact this];rfl
 rw[U];exact C5 (s:=s) (I.kept (t':=N) O) L (by rw[C,k]) (by rw[C];exact G) (λi r ks e1 e2=>⟨qu.of<|K i r ks e1 e2,B ks<|aW e2⟩) λl g h1 h2 h3=>q rs l g (by rw[C,k]) K h1 h2 h3
end
section
variable {P:aj}{w:ah}{A:aA}{E:af->aC->Prop}{s:aC}
def ND:typeLookup (.type "list") "keys" = pure none:=am_miss_of_fast<|by kernel_rfl
def Nl{a:ak}{o:Obj}{k:Nat}{Q:bd->aC->Prop}(U:s.heap.get? a=some o)(hc:o.cls=.type "list")(J:o.data=.seq xs k)(Z:o.dict=none)(hA:A.handled=none)
  (h:∀h' tk,(∀b ob,s.heap.get? b=some ob->h'.get? b=some ob)->Q none { s with heap:=h',toks:=tk }):wpAny (model P w) A (getAttr? (.ref a) "keys") Q E s:=by
 obtain⟨c,dct,p,q⟩:=o;simp only at hc J Z;subst hc J Z;obtain⟨hp,g,d,tk,os⟩:=s;have m:∀j,(⟨hp,g,d,j,os⟩:aC).TypeIs (.ref a) "list" := λ_=>⟨_,U,rfl⟩;have f1:=sub_AttributeError;have f3:=gR.lookup;have f4:=gR.bind<|.ref a;have f5:=am_list_getattr_none;unfold getAttr? getAttrBy? getAttrBy
 repeat (any_goals (first|assumption|exact m _|((with_reducible show wpAny _ _ (call (Value.builtin "list.__getattribute__") _ _) _ _ _);refine jm gR (m _) am_entry_list_getattribute (F.args_list_getattribute_2 _ _) (meets_getattribute_miss_list a xs k q "keys" _ ND ⋯ (by size_fits)) ⟨U,hA,λh' j e f=>?_⟩)|wp_step))
 obtain⟨C,B,G⟩:=f.there
 skip
 unfold getattributeRaised
 repeat (any_goals (first|assumption|wp_step))
 exact h _ _ f.keeps
def CO:entryFor table "dict.update.loop" = some Builtin.«dict.update.loop»:=entryFor_of_tree<|by kernel_rfl
def vR:plainId "dict.update.loop" = true:=by decide +kernel
abbrev Qu (h:aq)(d I:ak)(its:ba)(ps:List<|Int×af):Prop:=∀(i:Nat) (v:af),its[i]?=some v->∃(b:ak) (p:Int×af) (t:Tok),v=.ref b/\b≠d/\b≠I/\ps[i]?=some p/\IsTup h b #[.int p.1 t,p.2]
def Qu.mono{h h':aq}(x:Qu h d I its ps)(k:∀b o,b≠d->b≠I->h.get? b=some o->h'.get? b=some o):Qu h' d I its ps:=λi v hv=>by
 obtain⟨b,p,t,h1,h2,h3,f,o,g,h6⟩:=x i v hv;exact⟨b,p,t,h1,h2,h3,f,o,k b o h2 h3 g,h6⟩
abbrev YU (ps:List<|Int×af):List (Key×af):=ps.foldl (λacc p=>stored acc (Sum.inl p.1) p.2) []
def TL(ps:List<|Int×af)(i:Nat)(p:Int×af)(h:ps[i]?=some p):YU (ps.take<|i+1)=stored (YU<|ps.take i) (Sum.inl p.1) p.2:=by
 unfold YU;rw[d8,h,d9];rfl
theorem JU:∀(ps:List<|Int×af) (acc:List<|Key×af),(ps.foldl (λacc p=>stored acc (Sum.inl p.1) p.2) acc).length<=acc.length+ps.length
 | [],acc=>aP _
 | p::ps,acc=>by
  have:=JU ps<|stored acc (Sum.inl p.1) p.2;have h:(stored acc (Sum.inl p.1) p.2).length<=acc.length+1:=by
   unfold stored;split
   ·rw[aK];lia
   ·rw[aV];exact aP _
  rw[e_,bH]
  lia
def OQ{R:Result->aC->Prop}{I l:ak}{St:Nat->aq->Prop}{its:ba}{ps:List<|Int×af}(W:Walks P w A.in1 I [I,l] [I] its.length (λi v=>its[i]?=some v) St)(hdI:d≠I)(hdl:d≠l)(hl:ps.length=its.length)(hz:ps.length<=sizeLine) :
  ∀(k i:Nat) (s:aC),its.length-i=k->i<=its.length->St i s.heap->s.heap.DictOf (lB P w) d (YU<|ps.take i)->Qu s.heap d I its ps ->
   (∀h' tk,h'.DictOf (lB P w) d (YU ps)->(∀b o,b≠d->b≠I->s.heap.get? b=some o->h'.get? b=some o)->R (.ok<|.ret .none) { s with heap:=h',toks:=tk }) ->
   codeAny (model P w) A (.builtin "dict.update.loop" ⟨[.ref d,.ref I,rawInt i,.none],[]⟩) R s:=by
 intro k
 induction k with
 | zero=>
  intro i s hk hi j K hP hR;have T:i=its.length:=()
  subst T;refine gV CO ?_;rw[gv vR _]
  skip
  refine aG (W.done s _ _ j λh' tk m=>?_)
  skip
  refine aG (aL<|aL<|hR h' tk ?_ λb o _ h2 e=>m b o (by simpa using h2) e);rw[<- hl,dM]at K;obtain⟨o,es,ep,B,rest⟩:=K;exact⟨o,es,ep,m d o (by simpa using hdI) B,rest⟩
 | succ k ih=>
  intro i s hk hi j K hP hR;have C:i<its.length:=()
  refine gV CO ?_;rw[gv vR _]
  skip
  refine aG<|W.item i s _ _ C j λv h' tk hv J m=>?_;have U:Qu h' d I its ps:=hP.mono λb o h1 h2 e=>m b o (by simpa using h2) e;obtain⟨b,p,t,rfl,hbd,hbI,hp,o,B,hc,n,hd⟩:=U i v hv;have Y:h'.DictOf (lB P w) d (YU<|ps.take i):=by
   obtain⟨o,es,ep,B,rest⟩:=K;exact⟨o,es,ep,m d o (by simpa using hdI) B,rest⟩
  have hT:Shared.TypeIs { s with heap:=h',toks:=tk } (.ref b) "tuple" := ⟨o,B,hc⟩;have g:∀(A:aA) (E:af->aC->Prop) (Q:ba->aC->Prop),Q [.int p.1 t,p.2] { s with heap:=h',toks:=tk }->wpAny (model P w) A (Builtin.Dict.pairItems<|.ref b) Q E { s with heap:=h',toks:=tk }:=λA E Q q=>by
   unfold Builtin.Dict.pairItems;refine aG<|jl hT ?_;rw[aO ⋯];refine aG<|wpAny_seqItems B hd<|aL q
  have G:(YU<|ps.take i).length<=sizeLine:=by
   refine bI (JU (ps.take i) []) ?_;rw[bN,cP]
   lia
  refine aG (cH<|aG<|wpAny_tryCatch<|g _ _ _ ?_)
  skip
  refine cH (wpAny_dictSet_pairs (hsz:=G) (knd:=lB P w) (k:=Sum.inl p.1) (s:={ s with heap:=h',toks:=tk }) (show Value.isInt p.1 (.int p.1 t)=true by simp[Value.isInt]) Y λh2 M hs=>?_);refine aL ⟨plainId_quiet vR _,?_⟩;have f:∀b o,b≠d->b≠I->s.heap.get? b=some o->h2.get? b=some o:=λb o h3 L e=>by rw[hs.2 b h3];exact m b o (by simpa using L) e
  refine ih (i+1) _ () C (W.frame _ _ _ J λb hb o e=>?_) (by rw[TL ps i p hp];exact M) (hP.mono f) λh3 N Z O=>hR h3 N Z λb o L h5 e=>O b o L h5<|f b o L h5 e;have V:b≠d:=by
   intro z;subst z
   rcases bG.mp hb with z|z
   ·exact hdI z
   ·exact hdl<|by simpa using z
  skip
  rw[hs.2 b V];exact e
theorem CF{H:Hp}{X:Cx}(I:Inv X ai σ H s):∀(rs:bb) (ps:List<|Int×V),rs.length=ps.length->(∀(i:Nat) (r:ak) (q:Int×V),rs[i]?=some r->ps[i]?=some q->qu X.K H r [.int q.1,q.2]) ->
  ∃qs:List<|Int×af,KV ps qs/\∀(i:Nat) (r:ak),rs[i]?=some r->∃q t,qs[i]?=some q/\IsTup s.heap r #[.int q.1 t,q.2]
 | [],[],_,_=>⟨[],.nil,λi r h=>by simp at h⟩
 | [],_::_,h,_=>nomatch h
 | _::_,[],h,_=>nomatch h
 | r::rs,p::ps,hl,hh=>by
  obtain⟨qs,h1,h2⟩:=CF I rs ps (by simpa using hl) λi r q e1 e2=>hh (i+1) r q (by simpa using e1) (by simpa using e2);obtain⟨f,g,m,_⟩:=I.tuple<|hh 0 r p rfl rfl;obtain⟨j,d,rfl,r1,r2⟩:=vals2 g;obtain⟨t,rfl⟩:∃t,j=Value.int p.1 t:=r1;refine⟨(p.1,d)::qs,.cons ⟨rfl,r2⟩ h1,λi k e=>?_⟩
  cases i with
  | zero=>cases e;exact⟨(p.1,d),t,rfl,m⟩
  | succ i=>exact h2 i k<|by simpa using e
abbrev ptP (ps:List<|Int×V):List (Key×V):=ps.foldl (λacc p=>putK acc (Sum.inl p.1) p.2) []
def abl:∀{ps:List<|Int×V}{qs:List<|Int×af},KV ps qs->∀{as:List<|Key×V}{bs:List<|Key×af},KV as bs->KV (ps.foldl (λacc p=>putK acc (Sum.inl p.1) p.2) as) (qs.foldl (λacc p=>stored acc (Sum.inl p.1) p.2) bs):=by
 intro ps qs h;unfold KV at h
 induction h with
 | nil=>exact λh=>h
 | @cons p q ps qs h t d=>
  intro as bs h2;rw[e_,e_];obtain⟨e,r⟩:=h;rw[e];exact d<|h2.put _ r
theorem Kr:∀(ps:List<|Int×V) (acc:List<|Key×V),(ps.foldl (λacc p=>putK acc (Sum.inl p.1) p.2) acc).length<=acc.length+ps.length
 | [],acc=>aP _
 | p::ps,acc=>by
  have:=Kr ps<|putK acc (Sum.inl p.1) p.2;have:=vN acc (Sum.inl p.1) p.2;rw[e_,bH]
  lia
end
section
variable {X:Cx}
def HV(hc:X.calm=true):kR X (.type "dict") (λxs H Q=>∃(p:ak) (rs:bb) (ps:List<|Int×V),xs=[.ref p]/\qX X.K H p (rs.map V.ref)/\rs.length=ps.length /\
  (∀(i:Nat) (r:ak) (q:Int×V),rs[i]?=some r->ps[i]?=some q->qu X.K H r [.int q.1,q.2])/\∀l,H l=none->Q (.ref l) (upd H l<|.dK<|ptP ps)):=by
 w_up;obtain⟨p,rs,ps,rfl,Y,G,hT,q⟩:=h;kj_on
 cases rx
 obtain⟨its,rv,pl,hz⟩:=I.list Y;have ei:=yw rv;subst ei;rw[aK]at hz;obtain⟨T,kv,tp⟩:=CF I rs ps G hT;have ql:ps.length=T.length:=kv.length;obtain⟨o,n,U,k,L,hd⟩:=pl;have lp:p<s.heap.objs.size:=a_ U;refine callType_codes (Q₁:=λC j=>C=.ref s.heap.objs.size/\j={ s with heap:=s.heap.push { cls:=.type "dict",data:=.dict #[]}}) F.kt_called_dict (F.kt_typeCall_dict_1 _) F.entry_dict_init (kt_code_dict_new _ ⟨rfl,rfl⟩) ?_;rintro C j ⟨rfl,rfl⟩;have f:(s.heap.push { cls:=.type "dict",data:=.dict #[]}).DictOf (lB X.prog X.w) s.heap.objs.size []:=Heap.DictOf.new s.heap;have g:(s.heap.push { cls:=.type "dict",data:=.dict #[]}).get? p=some o:=aN _ U;have M:Shared.TypeIs { s with heap:=s.heap.push { cls:=.type "dict",data:=.dict #[]}} (.ref p) "list" := ⟨o,g,k⟩;refine⟨f.typeIs,F.args_dict_init_2 _ _,?_⟩;unfold Builtin.«dict.__init__»;refine aG ?_;unfold Builtin.Dict.selfAndRest;refine aG (iR f.typeIs ?_)
 skip
 refine aL ?_;show wpAny _ _ (Builtin.Dict.updateFrom "dict.__init__" s.heap.objs.size (.ref p) [] .none) _ _ _;unfold Builtin.Dict.updateFrom;refine aG<|jl M ?_;rw[aO ⋯];refine aG<|Nl g k hd L (show X.A.in1.in1.handled=none from I.ok.hd hc) λh' tk m=>?_;rw[aO<|by rfl];refine aG<|fH ?_;have B:h'.IsList p (rs.map Value.ref).toArray:=⟨o,m p o g,k,n,hd⟩;refine aG<|jw (s:={ s with heap:=h',toks:=tk }) B ?_;refine aL ⟨plainId_quiet vR _,?_⟩;have sz:s.heap.objs.size<h'.objs.size:=a_<|m _ _<|bu _ rfl;have W:Walks X.prog X.w X.A.in1.in1 h'.objs.size [h'.objs.size,p] [h'.objs.size] (rs.map Value.ref).length (λi v=>(rs.map Value.ref)[i]?=some v) (λi h=>h.IsListIter h'.objs.size p i/\h.IsList p (rs.map Value.ref).toArray):=by
  have W:=Walks.list (prog:=X.prog) (w:=X.w) (A:=X.A.in1.in1) (I.ok.hd hc) h'.objs.size p (bD<|a_<|m p o g) (rs.map Value.ref).toArray;rw[bf]at W;dsimp[eU]at W;exact W
 refine OQ (d:=s.heap.objs.size) (its:=rs.map Value.ref) (ps:=T) W (bD sz) (Ne.symm<|bD lp) (by rw[aK];lia) () (rs.map Value.ref).length 0 _ () (b7 _)
  ⟨⟨_,bu _ rfl,rfl,rfl⟩,B.push _⟩ ?_ (λi v hv=>?_) λh2 J Z hs=>⟨rfl,.ref s.heap.objs.size,_,I.laid (t':=J) (o:=.dK<|ptP ps) (λb ob O=>?_) (aP _) ?_,rfl,q _<|I.hok.fresh<|aP _⟩
 ·obtain⟨o,es,ep,e,rest⟩:=f;exact⟨o,es,ep,aN _<|m _ _ e,rest⟩
 ·rw[aQ]at hv;obtain⟨r,hr,rfl⟩:=bh.mp hv;obtain⟨q,t,h1,o2,h2,h3⟩:=tp i r hr;have P:=a_ h2;exact⟨r,q,t,rfl,bD P,bD<|lt_trans P sz,h1,o2,aN _<|m _ _<|aN _ h2,h3⟩
 ·have N:=a_ O;exact hs b ob (bD N) (bD<|lt_trans N sz) (aN _<|m _ _<|aN _ O)
 ·refine N1 (bI (Kr ps [])<|by rw[cP];lia) ?_ (abl kv .nil) Z;exact eg.mpr<|Ne.symm<|bD I.big
abbrev Up (ns:ag):Sx.Ord where
 lt i j:=decide (ns.getD i 0<ns.getD j 0)
 RB i:=bw (by omega)
 tr i j k h1 h2:=aX (by have:=bJ h1;have:=bJ h2;omega)
 neg i j k h:=by
  have:=bJ h;by_cases c:ns.getD i 0<ns.getD j 0
  ·exact .inl (aX c)
  ·exact .inr<|aX<|by omega
theorem LO:∀{vs:ba}{ns:ag},IntsAre vs ns->vs.length=ns.length/\∀i,i<vs.length->∃t,vs.getD i .none=.int (ns.getD i 0) t
 | _,_,.nil=>⟨rfl,λi h=>absurd h<|fh _⟩
 | _,_,.cons n t h=>by
  obtain⟨h1,h2⟩:=LO h;refine⟨dG (·+1) h1,λi hi=>?_⟩
  cases i with
  | zero=>exact⟨t,rfl⟩
  | succ i=>exact h2 i<|by simpa using hi
theorem Ao{f:Nat->Int}{h:Nat->af}:∀(l:am),(∀i∈l,∃t,h i=.int (f i) t)->Vals (l.map λi=>V.int<|f i) (l.map h)
 | [],_=>.nil
 | i::l,e=>.cons (e i<|aR ..)<|Ao l λj d=>e j<|aS _ d
def HA{s:aC}{H:Hp}{Q:VK}{h':aq}{tk:Nat}{vs:ba}{ns:ag}(U:Inv X ai σ H { s with heap:=h',toks:=tk })(Z:Sx.RO ns.length)(hi:IntsAre vs ns)(hz:vs.length<=sizeLine)
  (q:∀l g,H l=none->Sx.Cl g 0 ns.length->Sx.So (Up ns) g 0 ns.length->Q (.ref l) (upd H l<|.lst<|(List.range ns.length).map λi=>V.int<|ns.getD (g i) 0)) :
  wpAny (model X.prog X.w) X.A.in1 (do
   let l <- newList vs
   let _ <- holding [l] (call (Value.builtin "list.sort") [l] [])
   ret l) (λfin s'=>∃v,fin=Fin.done (Flow.ret v)/\EP X ai σ Q v s') X.xe { s with heap:=h',toks:=tk }:=by
 obtain⟨B,d⟩:=LO hi;refine aG<|jD ?_;have f:(h'.push<|seqObj "list" vs.toArray 0).get? h'.objs.size=some (seqObj "list" vs.toArray 0):=bu _ rfl
 skip
 refine aG (cH<|cD slot_list_sort ⟨_,f,rfl⟩ entry_list_sort (Sx.CQ (o:=Up ns) (kd:=oneType') f hz (by rw[B];exact Z) (λh2 C q'=>?_) (λh2 i j m K G C q'=>?_) λg hc hs=>⟨_,rfl,?_⟩)<|args_list_sort _)
 ·obtain⟨a,b,r,rfl⟩:∃a b r,vs=a::b::r:=by
   cases vs with
   | nil=>simp at h2
   | cons a vs=>cases vs with
    | nil=>simp at h2
    | cons b r=>exact⟨a,b,r,rfl⟩
  exact wpAny_of_eq (keyKind_ints hi) q'
 ·obtain⟨t,e1⟩:=d i m;obtain⟨u,e2⟩:=d j K;show wpAny _ _ (keyLt' oneType' (vs.getD i .none)<|vs.getD j .none) C G _;rw[e1,e2,keyLt'_oneType];exact Sx.K9 true q'
 ·rw[B]at hc hs ⊢;obtain⟨e,J⟩:=sortedHeap_at (out:=((List.range ns.length).map λi=>vs.getD (g i) .none).toArray) f;have old:∀b p,h'.get? b=some p->(sortedHeap (h'.push<|seqObj "list" vs.toArray 0) h'.objs.size vs ((List.range ns.length).map λi=>vs.getD (g i) .none).toArray).get? b=some p:=λb p k=>by
   rw[sortedHeap_old (bD<|a_ k)<|by rw[dN];exact fj<|a_ k];exact aN _ k
  refine aL ⟨_,rfl,.ref h'.objs.size,_,U.laid (t':=tk) (o:=.lst<|(List.range ns.length).map λi=>V.int<|ns.getD (g i) 0) old (aP _) ?_,rfl,q _ g (U.hok.fresh<|aP _) hc hs⟩;refine⟨by rw[aK,cF];omega,(List.range ns.length).map λi=>vs.getD (g i) .none,e,Ao _ λi hi=>d _ (by have:=(hc i (b7 _)<|cE.mp hi).2;omega),J⟩
def MY{P:aj}{w:ah}{vs:List<|Key×af}:∀{acc:ba}{ns:ag},vs.map (·.1)=ns.map Sum.inl->acc.length=vs.length->(∀(j:Nat) v,acc[j]?=some v->∃k x,vs[j]?=some (k,x)/\(lB P w).is k v=true)->IntsAre acc ns:=by
 intro acc ns d f h
 induction acc generalizing vs ns with
 | nil=>cases vs with
  | nil=>cases ns with
   | nil=>exact .nil
   | cons=>cases d
  | cons=>cases f
 | cons a acc m=>cases vs with
  | nil=>cases f
  | cons v vs=>cases ns with
   | nil=>cases d
   | cons n ns=>
    rw[bL,bL,List.cons.injEq]at d;obtain⟨k,x,e1,e2⟩:=h 0 a rfl
    cases e1
    obtain⟨e3,g⟩:=d;have e3:k=Sum.inl n:=e3;subst e3;obtain⟨t,rfl⟩:=Value.isInt_shape (k:=n) (v:=a) e2;exact .cons n t<|m g (by simpa using f) λj v e=>h (j+1) v<|by simpa using e
def D6(hc:X.calm=true):kR X (.builtin "sorted") (λxs H Q=>∃(d:ak) (kvs:List<|Key×V) (ns:ag),xs=[.ref d]/\H d=some (.dK kvs)/\kvs.map (λp=>p.1)=ns.map Sum.inl/\Sx.RO ns.length /\
  ∀l g,H l=none->Sx.Cl g 0 ns.length->Sx.So (Up ns) g 0 ns.length->Q (.ref l) (upd H l<|.lst<|(List.range ns.length).map λi=>V.int<|ns.getD (g i) 0)):=by
 w_up;obtain⟨d,kvs,ns,rfl,C,G,J,q⟩:=h;kj_on
 cases rx
 obtain⟨z,hd,vs,k,dd⟩:=WJ I.hok C;obtain⟨ep,B⟩:=dd.dictAt;have N:kvs.length=vs.length:=k.length;have L:vs.map (·.1)=kvs.map (·.1):=by
  clear G z dd B N C;unfold KV at k
  induction k with
  | nil=>rfl
  | cons h _ O=>rw[bL,bL,O,h.1]
 kst_p;unfold Builtin.«sorted»;refine aG (m:=checkCount "sorted" 1 1 _)<|aL ?_;refine aG<|PySem.W.kdu_collect (PySem.W.kdl_dict hd) (show X.A.in1.handled=none from I.ok.hd hc) B () λh' M acc K f=>?_;have al:acc.toList.length=vs.length:=by rw[cJ];exact f.1
 exact HA (s:=s) (I.kept (t':=M) K) J (MY (P:=X.prog) (w:=X.w) (L.trans G) al λj v e=>f.2 j v<|by rw[dm]at e;exact e) () q
end
end L2
namespace Am
open PySem PySem.Spec PyProof.Rows L2
abbrev V3:ae->Option (List<|Int×A)
 | []=>some []
 | .tup [.int k,x]::r=>(V3 r).map λps=>(k,x)::ps
 | _=>none
abbrev V2 (ps:List<|Int×A):List (Int×A):=ps.foldl (λacc p=>yG acc p.1 p.2) []
section
variable {K:au}{ρ:bb}{H:Hp}
def Ui{x:A}(r:AVs K ρ H [x,y] vs):∃v w,vs=[v,w]/\AV K ρ H x v/\AV K ρ H y w:=by
 cases r with
 | cons h t=>cases t with
  | cons h' d=>cases d;exact⟨_,_,rfl,h,h'⟩
def SO{x:A}(e:V3 (x::xs)=some ps):∃k y ps',x=.tup [.int k,y]/\V3 xs=some ps'/\ps=(k,y)::ps':=by
 unfold V3 at e;split at e
 ·rename_i e2;cases e2
 ·rename_i k y r e2
  cases e2
  obtain⟨ps',h1,h2⟩:=bh.mp e;exact⟨_,_,_,rfl,h1,h2.symm⟩
 ·cases e
def abg:∀{xs:ae}{vs:List V}{ps:List<|Int×A},AVs K ρ H xs vs->V3 xs=some ps ->
  ∃(rs:bb) (qs:List<|Int×V),vs=rs.map V.ref/\rs.length=qs.length/\(∀(i:Nat) (r:ak) (q:Int×V),rs[i]?=some r->qs[i]?=some q->qu K H r [.int q.1,q.2]) /\
   ∀as bs,DI K ρ H as bs->DI K ρ H (ps.foldl (λacc p=>yG acc p.1 p.2) as) (qs.foldl (λacc p=>putK acc (Sum.inl p.1) p.2) bs):=by
 intro xs
 induction xs with
 | nil=>intro vs ps r e;cases r;cases e;exact⟨[],[],rfl,rfl,λi r q h=>by simp at h,λas bs h=>h⟩
 | cons x xs B=>
  intro vs ps r e;obtain⟨k,y,m,rfl,e1,rfl⟩:=SO e
  cases r with
  | cons h t=>
   obtain⟨rs,qs,rfl,g,f,j⟩:=B t e1
   cases h with
   | @tup a _ us h r=>
    obtain⟨v,w,rfl,h1,h2⟩:=Ui r
    cases h1
    refine⟨a::rs,(k,w)::qs,rfl,by rw[bH,bH,g],λi r q e1 e2=>?_,λas bs d=>j _ _<|d.put h2 k⟩
    cases i with
    | zero=>cases e1;cases e2;exact qu.of h
    | succ i=>exact f i r q (by simpa using e1)<|by simpa using e2
end
section
variable {X:Cx}
abbrev Eh (x:A)(S:j5):R A:=match x with
 | .ref n=>opt (j4 S n) λxs=>opt (V3 xs) λps=>.ok (.ref S.length) (S++[.rC<|V2 ps])
 | _=>.no
def Lj(hc:X.calm=true):kR X (.type "dict") (rN X<|f1 Eh):=kR.imp (HV hc) λvs H Q h0=>by
 k_ne;clear h0
 cases hv with
 | ref hp=>
  rename_i p n;kd_p;obtain⟨ps,hb,h⟩:=kj h;obtain⟨us,h1,r⟩:=R.lst hp<|kI hn;obtain⟨rs,g,rfl,d,k,m⟩:=abg r hb;refine⟨p,rs,g,rfl,qX.of h1,d,k,λl f=>?_⟩;obtain⟨ex,j,d⟩:=R.aaU (xs:=V2 ps) (vs:=ptP g) f<|m [] [] trivial;exact h _ _ _ ex j<|.ref d
 | _=>exact h.elim
abbrev BY (x:A)(S:j5):R A:=match x with
 | .ref n=>opt (mW S n) λd=>.ok (.ref S.length) (S++[.lst<|(sortI<|d.map Prod.fst).map .int])
 | _=>.no
def VS{ns:ag}{g:Nat->Nat}(c:Sx.Cl g 0 ns.length)(J:Sx.So (Up ns) g 0 ns.length):(List.range ns.length).map (λi=>ns.getD (g i) 0)=sortI ns:=by
 refine Mc ?_ ?_ (xK ns)
 ·refine List.Perm.trans ?_ (sortI_perm ns).symm;have p:=AD (N:=ns.length) (g:=g) (λi hi=>(c i (b7 _) hi).2) λi j d f z=>by
   have:=J i j (b7 _) d f;rw[z]at this;exact this.RB
  have:=p.map λi=>ns.getD i 0;rw[bF,range_getD]at this;exact this
 ·rw[dc];intro i j hi f d;rw[aK,cF]at hi f;rw[eK,eK,eT,eT];have:=eO (J i j (b7 _) d f).ge
  lia
def Vy(hc:X.calm=true):kR X (.builtin "sorted") (rN X<|f1 BY):=kR.imp (D6 hc) λvs H Q h0=>by
 k_ne;clear h0
 cases hv with
 | ref hp=>
  rename_i p n;obtain⟨d,hn,h⟩:=kj h;obtain⟨ks,j,k⟩:=R.rC hp<|qV hn;refine⟨p,ks,d.map Prod.fst,rfl,j,by rw[k.keys,bF];rfl,Sx.Hq _,λl g f hc hs=>?_⟩;have m:AVs X.K ρ H ((sortI<|d.map Prod.fst).map .int) ((List.range (d.map Prod.fst).length).map λi=>V.int<|(d.map Prod.fst).getD (g i) 0):=by
   rw[<- VS hc hs,bF];exact EW λi _=>.int _
  exact n_ R m .refl h l f
 | _=>exact h.elim
@[irreducible] noncomputable def big:Nat:=2 ^ 4096
theorem Ai:big=2 ^ 4096:=by unfold big;rfl
def GH{i:Int}(h:i.natAbs<big):Builtin.Int.intBits i<=2 ^ 20:=by
 rw[Ai]at h;exact bI (intBits_le h) ⋯
abbrev Jm (a b:A)(S:j5):R A:=match a,b with
 | .int i,.int j=>gd (i.natAbs<big/\j.natAbs<big) (.ok (.int<|i * j) S)
 | _,_=>.no
def X6:qx X (binaryOp .Mult) (r2 X Jm):=λai s σ H x y v u Q I rx ry h9=>by
 z_go
 cases va with
 | int i=>cases vb with
  | int j=>
   obtain⟨⟨h1,h2⟩,h⟩:=kO h;obtain⟨t,rfl⟩:∃t,v=Value.int i t:=rx;obtain⟨d,rfl⟩:∃t,u=Value.int j t:=ry;exact mul_int ⟨.int _,H,I.tok _,⟨_,rfl⟩,h _ _ _ .refl R<|.int _⟩<|IntMulOk.of_bits (GH h1)<|GH h2
  | _=>exact h.elim
 | _=>exact h.elim
end
def Jz:bootBuiltins "dict" = some (.type "dict"):=by decide +kernel
abbrev kA (p:Int×Int):A:=.ktu [.int p.1,.int p.2]
abbrev T7 (K:au):af->Option (Int×Int)
 | .ref b=>match K.lookup b with
  | some ⟨.type "tuple",none,.seq its _,_⟩=>match its.toList with
   | [.int i _,.int j _]=>some (i,j)
   | _=>none
  | _=>none
 | _=>none
abbrev IX (K:au):ba->Option (List<|Int×Int)
 | []=>some []
 | v::vs=>(T7 K v).bind λp=>(IX K vs).map λps=>p::ps
abbrev klP (K:au)(a:ak):Option (List<|Int×Int):=match K.lookup a with
 | some ⟨.type "list",none,.seq its _,_⟩=>if its.size<=sizeLine then IX K its.toList else none
 | _=>none
def Sk{K:au}{v:af}{p:Int×Int}(h:T7 K v=some p):∃b,v=.ref b/\KTp K b [.int p.1,.int p.2]:=by
 unfold T7 at h;split at h
 ·rename_i b;refine⟨b,rfl,?_⟩;split at h
  ·rename_i d n f e;split at h
   ·rename_i i t j u e2
    cases h
    refine⟨_,d,n,e,rfl,rfl,rfl,?_,?_⟩
    ·rw[<- cJ,e2];show 2<=sizeLine;decide
    ·rw[e2];exact .cons ⟨t,rfl⟩<|.cons ⟨u,rfl⟩ .nil
   ·cases h
  ·cases h
 ·cases h
def NF{K:au}{H:Hp}:∀{vs:ba}{ps:List<|Int×Int},IX K vs=some ps->∃us:List V,Vals us vs/\AVs K ρ H (ps.map kA) us:=by
 intro vs
 induction vs with
 | nil=>intro ps h;cases h;exact⟨[],.nil,.nil⟩
 | cons v vs g=>
  intro ps h;obtain⟨p,h1,h⟩:=cZ.mp h;obtain⟨j,h2,rfl⟩:=bh.mp h;obtain⟨us,h3,d⟩:=g h2;obtain⟨b,rfl,f⟩:=Sk h1;exact⟨.ref b::us,.cons rfl h3,.cons (.ktu f<|.cons (.int _)<|.cons (.int _) .nil) d⟩
def Yy{K:au}{H:Hp}{a:ak}{ps:List<|Int×Int}(h:klP K a=some ps):AV K ρ H (.frz<|ps.map kA) (.ref a):=by
 unfold klP at h;split at h
 ·rename_i d n g e;split at h
  ·rename_i f;obtain⟨us,h1,h2⟩:=NF (ρ:=ρ) (H:=H) h;exact .frz (.inr ⟨_,d,n,e,rfl,rfl,rfl,f,h1⟩) h2
  ·cases h
 ·cases h
def Om{X:Cx}{x:Str}{a:ak}{ps:List<|Int×Int}(J:X.mg x=some (.ref a))(U:klP X.K a=some ps)(hg:Gl X x<|>ε)(Z:(x == ("__debug__" : Str))=false<|>δ):AE X (.Name x pos) (eC<|.frz<|ps.map kA):=
 PE.imp (DN (v:=.ref a) hg J rfl Z) λσ H Q h9=>by
  room;exact h ρ H _ .refl R<|Yy U
section
variable {X:Cx}
abbrev Z5 (n:Nat)(S:j5):R A:=opt (kG S n) λd=>match (d.map Prod.fst).all (λks=>!ks.isEmpty)with
 | true=>.ok (.ref S.length) (S++[.lst<|(mw<|d.map Prod.fst).map λks=>.tup<|ks.map .int])
 | false=>.no
abbrev Ez (x:A)(S:j5):R A:=match x with
 | .ref n=>Z5 n S
 | _=>.no
theorem LW{K:au}{H:Hp}:∀{kvs:List<|ag×A}{ks:List<|List Key×V},DV K ρ H kvs ks->ks.map (λp=>p.1)=(kvs.map Prod.fst).map (λks=>ks.map Sum.inl)
 | [],[],_=>rfl
 | a::kvs,b::ks,⟨z,t⟩=>by
  have:=LW t;show b.1::ks.map _=a.1.map Sum.inl::_;rw[this,z.1]
def Vp(hc:X.calm=true):kR X (.builtin "sorted") (rN X<|f1 Ez):=kR.imp (EG hc) λvs H Q h0=>by
 k_ne;clear h0
 cases hv with
 | ref hp=>
  rename_i p n;obtain⟨d,hn,h⟩:=kj h;obtain⟨ks,q,B⟩:=R.dct hp (m9 hn)
  cases hb:(d.map Prod.fst).all (λks=>!ks.isEmpty)with
  | false=>rw[hb]at h;exact h.elim
  | true=>
   rw[hb]at h;refine⟨p,ks,d.map Prod.fst,rfl,q,LW B,λk m z=>?_,Sx.Hq _,λrs l g j C f hc hs=>?_⟩
   ·have:=iW.mp hb k m;rw[z]at this
    cases this
   have G:AVs X.K ρ H ((mw<|d.map Prod.fst).map λks=>.tup<|ks.map .int) (((List.range (d.map Prod.fst).length).map λi=>rs.getD (g i) 0).map V.ref):=by
    rw[<- N_ hc hs,bF,bF];refine EW λi hi=>?_;have lt:=(hc i (b7 _)<|cE.mp hi).2;have e1:rs[g i]?=some (rs.getD (g i) 0):=by rw[aI,aH<|by rw[j];exact lt];rfl
    have e2:(d.map Prod.fst)[g i]?=some ((d.map Prod.fst).getD (g i) []):=by rw[aI,aH lt];rfl
    exact .tup (C _ _ _ e1 e2)<|qi _
   exact n_ R G .refl h l f
 | _=>exact h.elim
end
end Am
namespace L2
open PySem PySem.Spec PyProof.Rows
section
variable {prog:aj}{w:ah}{A:aA}{E:af->aC->Prop}{s:aC}{e:ak}{oe:Obj}{vs:Array af}
def FZ{x left step:Int}{Q:bd->aC->Prop}(hh:A.handled=some (.ref e))(Z:s.heap.get? e=some oe)(hd:oe.data=.fields vs)(h2:vs[2]?=some .none)(J:IsRangeIter s.heap it x left step)(U:left<=0)
  (hQ:∀h',Heap.ExtBut it s.heap h'->Q none { s with heap:=h' }):wpAny (model prog w) A (pyNext<|.ref it) Q E s:=by
 have f:s.TypeIs (.ref it) "range_iterator" := ⟨_,J,rfl⟩;unfold pyNext;refine aG<|fJ<|dH (name:=Str.ofString "__next__") f iK<|cD iK f PySem.F.entry_range_iterator_next ?_<|PySem.F.args_range_iterator_next_1 _;show wpAny _ _ (field (.ref it) 0 >>= _) _ _ s;refine aG<|dX J rfl (x:=rawInt x) rfl ?_;show wpAny _ _ (field (.ref it) 1 >>= _) _ _ s;refine aG<|dX J rfl (x:=rawInt left) rfl ?_;show wpAny _ _ (field (.ref it) 2 >>= _) _ _ s;refine aG<|dX J rfl (x:=rawInt step) rfl ?_;show wpAny _ _ (if left<=0 then _ else _) _ _ s;rw[aO U];refine aG<|fH ?_;refine aG ?_;show wpAny _ _ (newExc (.type "StopIteration") [] >>= _) _ _ _;refine aG ?_;dsimp[newExc,newTuple];refine aG (bY ?_<|by size_fits);refine aG (m:=firstArgMember _ _) (wpAny_of_eq (a:=Value.none) (by first|rfl|(dsimp[firstArgMember];rfl)) ?_);refine bY ?_ (by size_fits);have d:∀(j:Obj),e≠(s.heap.push j).objs.size:=λj=>bD<|a_<|aN _ Z;refine Ig (A:=A.in1) hh (aN _<|aN _ Z) hd h2 (bu _ rfl) rfl (by simp[ownMembersOf]) (d _) ?_;refine aG<|wpAny_isInstance (T := "StopIteration") (b:=true) ⟨_,gq _ (bu _ rfl)<|iS<|g_ rfl _,Obj.cls_mapFields ..⟩ isSubtype_stop ?_;refine aL<|hQ _ λb o' hb q=>?_;have g:=aN { cls:=Value.type "tuple",data:=Data.seq #[]} q;rw[fZ _ _<|Ne.symm<|bD<|a_ g];exact aN _ g
end
def G5{P:aj}{w:ah}{K:au}{e:ak}(J:XO C oe)(it:ak)(lo:Int)(n:Nat):TurnG (HX e oe) P w K tg (Itr lo n) [it] it (λi h=>IsRangeIter h it (lo+(i:Nat) * 1) ((n:Int)-(i:Nat)) 1) where
 obj:=(xr (P:=P) (w:=w) (K:=K) (tg:=tg) it lo n).obj
 keep:=(xr (P:=P) (w:=w) (K:=K) (tg:=tg) it lo n).keep
 item:=by
  x_go;subst hP hw hK;have hg:i<n:=hg;fin2;refine wpAny_pyNext_range_item st () λh' f k=>?_;have e1:lo+((i+1:Nat):Int) * 1=lo+(i:Int) * 1+1:=()
  have e2:(n:Int)-((i+1:Nat):Int)=(n:Int)-(i:Int)-1:=()
  have d:IsRangeIter h' it (lo+((i+1:Nat):Int) * 1) ((n:Int)-((i+1:Nat):Int)) 1:=by rw[e1,e2];exact f
  have q:Inv X ai σ H { s with heap:=h',toks:=s.toks+1 }:=I.turned (λb o hb e=>k.extBut b o (by simpa using hb) e) f0 f1 f3 f4 f5;refine⟨_,rfl,Fi (s:={ s with heap:=h',toks:=s.toks+1 }) (n := "range_iterator") d rfl rfl ⋯ ⟨.int<|lo+i,H,q,⟨s.toks,?_⟩,⟨rfl,rfl⟩,d,λb hb=>(hf b hb).1⟩⟩;rw[mul_one]
 done:=by
  x_go;subst hP hw hK;fin2;obtain⟨vs,g,p⟩:=J.ctx;have j:=I.base.frzs e oe xu hc.2;obtain⟨ge,_⟩:=I.hok e _ j;exact FZ hc.1 ge g p st (by have:n<=i:=hg;lia) λh' m=>⟨rfl,I.turned (t':=s.toks) (λb o hb e=>m b o hb e) f0 f1 f3 f4 f5⟩
 self:=λ_ _ _ _ _ st h=>wpAny_pyIter_rangeiter st h
def Nv{X:Cx}{e:ak}(J:XO C oe){a:aE}{ta:TA}{p:Pos}(hg:Gl X "range")(U:X.mg "range" = none)(ha:PA X [a] ta)(hs:starEach [a] X.env=[(false,eval a X.env)]<|>ε):ZN (HX e oe) X tg (.Call (.Name "range" p) [a] [] pos) (rH ta):=by
 intro ai s σ H R I h;refine Call_<|yv I hg U boot_range<|eF (mR (ha pos ai s σ H _ I h) λus k h9=>?_) hs rfl;obtain⟨vs,H1,I1,r1,d⟩:=h9;obtain⟨j,e,d,f,q⟩:=d;subst e
 cases r1 with
 | cons r g=>
  cases g
  obtain⟨t,rfl⟩:=r;refine call_range_1<|wpAny_pyIter_range (IsRange.new ..) (small_one () () d f) ?_;refine⟨_,[_],_,_,H1,rfl,(I1.kept (t':=_) λb o e=>aN _<|aN _ e),G5 J _ 0 j.toNat,?_,λb hb=>?_,q⟩
  ·have e1:(0:Int)+((0:Nat):Int) * 1=0:=by simp
   have e2:((j.toNat:Nat):Int)-((0:Nat):Int)=Builtin.Range.rangeSize 0 j 1:=by rw[rangeSize_one];split<;>lia
   show IsRangeIter _ _ ((0:Int)+((0:Nat):Int) * 1) (((j.toNat:Nat):Int)-((0:Nat):Int)) 1;rw[e1,e2];exact bu _ rfl
  ·have e:=bg.mp hb;subst e;exact I1.Il (by rw[dN];lia)<|I1.hok.fresh<|by rw[dN];lia
def MT{ok:Cx->Prop}{X:Cx}{i:Nat}{Z:Pos}{iter:aE}{N:ar}{wi:TI}{g:TG}{tc:TT}{te:TE}
  (hN:X.N.Nodup) (hi':X.N[i]?=some y) (hx:Loc X.env.scope y) (S:CpScope X scope N cap) (hok:∀C s₀ H₀ ex,(∀a o u,X.H₀ a=some (.frz o u)->H₀ a=some (.frz o u))->ok (mG X scope N C s₀ H₀ ex)) (hi:ZN ok X tg iter wi)
  (hg:∀C s₀ H₀ ex,PG (mG X scope N C s₀ H₀ ex) tg g) (ht:∀C s₀ H₀ ex,T_ (mG X scope N C s₀ H₀ ex) ifs tc) (he:∀C s₀ H₀ ex,PE (mG X scope N C s₀ H₀ ex) elt te)
  (hsw:swapsWith (.ListComp elt [⟨tg,iter,ifs,0⟩] scope pos) (some<|.Name y py) Z.line X.env=pure true)
  (hf:X.fn y=true\/X.env.scope.names.lookup y=some .local) (hs:(∀x,foldedSetIterable iter X.env x=pure x)<|>η) :
  PS X (.Assign [.Name y py] (.ListComp elt [⟨tg,iter,ifs,0⟩] scope pos) Z) (UU (tLC cap wi g tc te)<|RK i):=by
 kcf_m;rw[exec_Assign_Name_used _ _ _ _ hsw];refine aG<|fC<|aG ?_;show wpAny _ X.A (do let _ <- comprehension (.ListComp elt [⟨tg,iter,ifs,0⟩] scope pos) scope X.env (firstIterPos [⟨tg,iter,ifs,0⟩] pos) (newList []) (firstAsync [⟨tg,iter,ifs,0⟩]) (firstIter [⟨tg,iter,ifs,0⟩] X.env) (some<|assign (.Name y py) X.env)) _ _ s;refine aG<|c5 (JP (ok:=ok) (Q':=λ_ s'=>SP X ai D .next s') S hok hi hg ht he hs ai s σ H _ I h ?_) (λ_ s' O=>aL<|aL O) λ_ _ e=>e;intro B C J P m hn j inv q v;have T:=inv B.heap<|Heap.SameBut.refl _ _;obtain⟨M,f⟩:∃o,B.heap.get? C=some o/\∀v,o.data≠.cell v:=by
  obtain⟨o,es,ep,e,d,_⟩:=hn;exact⟨o,e,λv z=>by rw[d]at z;cases z⟩
 have U:=T.pinned (fp:=[C]) (λb hb=>by rw[bg]at hb;rw[hb];exact j) (λb hb=>by rw[bg]at hb;rw[hb];exact⟨M,f⟩);show wpAny _ X.A (assign (.Name y py) X.env<|.ref J) _ _ B;refine mR (Ls hN hi' hx hf _ B σ P (.ref J) (.ref J) _ U rfl q) λ_ W h9=>?_;obtain⟨G,L,k,V⟩:=h9;have hp:=k.pin (C,M)<|bA _<|bA _<|nu (bg.mpr rfl) f.1;refine⟨m,hn.at' λo e=>by rw[f.1]at e;cases e;exact hp.1,λh' p=>?_⟩;have K:∀c v,L c=some v->c≠C:=λc v e z=>by rw[z,hp.2.1]at e;cases e
 refine⟨G,L,?_,V⟩;refine k.rG.Qo (ch:=[C]) rfl ⟨λb o e n hb hx=>?_,λb o e n hb hx=>?_,λb o e n hx=>n,λb o e hx=>?_,λ_ _ e=>e,λ_ _ _ e=>e,λ_ _ e=>⟨#[],by rw[Array.append_empty];exact e⟩⟩ ?_ k.bare ?_
 ·exact p.extBut b o (by simpa using hx) e
 ·exact⟨o.slots,p.extBut b o (by simpa using hx) e⟩
 ·exact⟨o,p.extBut b o (by simpa using hx) e⟩
 ·intro b o e;refine(k.hok b o e).stay (λc v hc q=>p.extBut c v ?_ q) (λ_ q=>q) λ_ _ q=>q
  rcases hc with z|z
  ·rw[z];exact K b o e
  ·exact K c _ z
 ·intro b hb;rw[bg]at hb;rw[hb];exact⟨j.2.2.2.1,j.2.1,j.2.2.2.2.1,j.2.2.2.2.2⟩
end L2
namespace Am
open PySem PySem.Spec PyProof.Rows L2
section
variable {X:Cx}{tg iter elt a:aE}{ifs:List aE}{scope:Scope}{pos:Pos}{N:ar}{cap:List (bo)}{g:Tg}{t:Te}{c:Ex}{e C:ak}{oe:Obj}{src:Ic}
def MG(J:XO C oe){p:Pos}{c:Ex}(U:X.mg "range" = none)(ha:AE X a c)(hg:Gl X "range"<|>ε)(hs:starEach [a] X.env=[(false,eval a X.env)]<|>ε):ZN (HX e oe) X tg (.Call (.Name "range" p) [a] [] pos) (tI X<|rH c):=λai s σ H Q I h9=>by
 room;refine Nv J hg U (qP ha xg hs) hs ai s σ H Q I ⟨ρ,S,τ,R,r,j6 (kh h) .refl λx S1 h1 ρ1 H1 v e1 R1 v1=>?_⟩
 cases v1 with
 | int j=>
  obtain⟨hb,h1⟩:=kO h1;exact⟨_,rfl,hb.1,hb.2,by have:=h1 ρ1 H1 _ e1 R1 IV;rwa [Int.sub_zero]at this⟩
 | _=>exact h1.elim
def Qp{i:Nat}{x:Str}{J:Pos}(hN:X.N.Nodup)(hh:X.A.handled=some (.ref e))(h0:X.H₀ e=some (.frz oe xu))(Sc:CpScope X scope N cap)(hi:ZN (HX e oe) X tg iter<|tI X src)(hg:∀C s₀ H₀ ex,AG (mG X scope N C s₀ H₀ ex) tg g)(ht:∀C s₀ H₀ ex,ATs (mG X scope N C s₀ H₀ ex) ifs t)(he:∀C s₀ H₀ ex,AE (mG X scope N C s₀ H₀ ex) elt c)
  (U:X.N[i]?=some x<|>ε) (hx:Loc X.env.scope x:=by first|exact Or.inl rfl|exact Or.inr rfl)
  (Z:(swapsWith (.ListComp elt [⟨tg,iter,ifs,0⟩] scope pos) (some<|.Name x pos') J.line X.env=pure true)<|>ε) (hf:X.fn x=true\/X.env.scope.names.lookup x=some .local<|>γ)
  (hs:(∀x,foldedSetIterable iter X.env x=pure x)<|>η):AS X (.Assign [.Name x pos'] (.ListComp elt [⟨tg,iter,ifs,0⟩] scope pos) J) (lN (lJ cap src g t c)<|k_ i):=
 PS.imp (MT (ok:=HX e oe) hN U hx Sc (λ_ _ _ _ d=>⟨hh,d e oe xu h0⟩) hi (g:=tG0 X.K g) (tc:=XQ X.K t) (te:=tE0 X.K c) (λC s₀ H₀ ex=>(hg C s₀ H₀ ex).g0 rfl) (λC s₀ H₀ ex=>ht C s₀ H₀ ex) (λC s₀ H₀ ex=>(he C s₀ H₀ ex).e0 rfl) Z hf hs) λD σ H h9=>by
  room;exact GS σ H _ ⟨ρ,S,τ,R,r,j6 (of_post h) .refl λa S1 h1 ρ1 H1 x e1 R1 v1=>h1 ρ1 H1 _ e1 R1<|(r.ext e1).set v1⟩
end
end Am
namespace K54
open PySem L2 Am
abbrev top (i:Nat):aF:=PySem.Challenge.pw_undercells_k54_counts_refused.main.body.getD i<|.Pass ⟨0,0,0,0⟩
meta abbrev xx:aF:=top 11
meta abbrev wU:ar:=["thing"]
meta abbrev xj:ar:=["thing"]
abbrev xF:Sm:=
 lY (RQ (kK (f2 UW)<|jY (jZ 0)<|jY (eC<|.ty "int") ki)<|UH<|kK (f2 UW)<|jY (jZ 0)<|jY (eC<|.ty "bool") ki)
abbrev rQ:ae->j5->R A:=lI wU xF
meta abbrev sL:aF:=top 12
meta abbrev sJ:ar:=["n"]
meta abbrev tU:ar:=["n"]
abbrev tQ:Sm:=
 lY (kK (f1 ve)<|jY (kK (f2 zS)<|jY (eC<|.int 1)<|jY (ko oH (jZ 0)<|eC<|.int 1) ki) ki)
abbrev oK:ae->j5->R A:=lI sJ tQ
meta abbrev vf:aF:=top 13
meta abbrev vJ:ar:=["one", "other"]
meta abbrev qm:ar:=["one", "other"]
abbrev vL:Sm:=
 zR (wK<|ko (Hh true) (kK (f1 nM)<|jY (jZ 0) ki)<|kK (f1 nM)<|jY (jZ 1) ki)
 (vF "NoPair" [.inl "orders of ",.inr<|kK (f1 nM)<|jY (jZ 0) ki,.inl " and of ",.inr<|kK (f1 nM)<|jY (jZ 1) ki,.inl " things"])
 qZ
abbrev mL:ae->j5->R A:=lI vJ vL
meta abbrev sQ:aF:=top 14
meta abbrev tP:ar:=["n", "thing"]
meta abbrev tD:ar:=["n", "thing"]
abbrev tN:Sm:=
 lY (RQ (eFn rQ<|jY (jZ 1) ki)<|Sj aLe Hu (eC<|.int 1) (jZ 1)<|jZ 0)
abbrev oE:ae->j5->R A:=lI tP tN
meta abbrev o4:aF:=top 15
meta abbrev nq:ar:=["order", "i", "j", "things"]
meta abbrev nt:ar:=["order", "i", "j"]
abbrev ni:Sm:=
 kZ (lN (kK (f1 zh)<|jY (jZ 0) ki)<|k_ 3)
 (kZ (lN (rW<|jY (ko qk (jZ 3)<|ko aSub (jZ 2)<|eC<|.int 1)<|jY (ko qk (jZ 3)<|ko aSub (jZ 1)<|eC<|.int 1) ki)<|wH 2<|oR (gSb (jZ 3)<|ko aSub (jZ 1)<|eC<|.int 1)<|oR (gSb (jZ 3)<|ko aSub (jZ 2)<|eC<|.int 1) wJ)
 (lY<|kK (f1 ve)<|jY (jZ 3) ki))
abbrev kM:ae->j5->R A:=lI nq ni
meta abbrev vg:aF:=top 16
meta abbrev vp:ar:=["order", "k"]
meta abbrev sj:ar:=["order", "k"]
abbrev uU:Sm:=
 kZ (zR (Tt<|rL<|eFn oE<|jY (kK (f1 nM)<|jY (jZ 0) ki)<|jY (jZ 1) ki)
 (vF "NoWord" [.inl "no exchange of ",.inr<|kK (f1 nM)<|jY (jZ 0) ki,.inl " things"])
 qZ)
 (lY<|eFn kM<|jY (jZ 0)<|jY (jZ 1)<|jY (ko oH (jZ 1)<|eC<|.int 1) ki)
abbrev nQ:ae->j5->R A:=lI vp uU
meta abbrev sV:aF:=top 17
meta abbrev sZ:ar:=["n"]
meta abbrev qg:ar:=["n"]
abbrev tF:Sm:=
 lY (HG [none,none,some 0] (uM (eC<|.int 1)<|jZ 0) (k_ 0) DY (uM (ko oH (jZ 0)<|eC<|.int 1)<|ko oH (jZ 2)<|eC<|.int 1) (k_ 1) DY<|rW<|jY (jZ 0)<|jY (jZ 1) ki)
abbrev lO:ae->j5->R A:=lI sZ tF
meta abbrev sH:aF:=top 18
meta abbrev sA:ar:=["order"]
meta abbrev sD:ar:=["order"]
abbrev sE:Sm:=
 lY (lJ [none,none,some 0] (oM<|eFn lO<|jY (kK (f1 nM)<|jY (jZ 0) ki) ki) (wH 2<|oR (k_ 0)<|oR (k_ 1) wJ) (wK<|ko Hi (ko qk (jZ 2)<|ko aSub (jZ 0)<|eC<|.int 1)<|ko qk (jZ 2)<|ko aSub (jZ 1)<|eC<|.int 1)<|rW<|jY (jZ 0)<|jY (jZ 1) ki)
abbrev oO:ae->j5->R A:=lI sA sE
meta abbrev A2:aF:=top 19
meta abbrev AR:ar:=["order"]
meta abbrev uY:ar:=["order"]
abbrev Aw:Sm:=
 lY (kK (f1 nM)<|jY (eFn oO<|jY (jZ 0) ki) ki)
abbrev nH:ae->j5->R A:=lI AR Aw
meta abbrev Dw:aF:=top 20
meta abbrev DR:ar:=["order"]
meta abbrev wA:ar:=["order"]
abbrev D3:Sm:=
 lY (lJ [none,some 0] (uM (eC<|.int 1)<|kK (f1 nM)<|jY (jZ 0) ki) (k_ 0) (wK<|ko Hi (ko qk (jZ 1)<|ko aSub (jZ 0)<|eC<|.int 1)<|ko qk (jZ 1)<|jZ 0)<|jZ 0)
abbrev qa:ae->j5->R A:=lI DR D3
meta abbrev nU:aF:=top 23
meta abbrev n9:ar:=["numbers", "place"]
meta abbrev nV:ar:=["numbers"]
abbrev pK:Te:=
 wK (ko aLe (ko qk (jZ 0)<|ko aSub (jZ 1)<|eC<|.int 1)<|eC<|.int 0)
abbrev pR:Sm:=
 Qx 1 FY (eC<|.int 1)
abbrev nW:Sm:=
 kZ (lN (eC<|.int 1)<|k_ 1)
 (kZ (pD pK
 pR 1000000)
 (lY<|jZ 1))
abbrev lU:ae->j5->R A:=lI n9 nW
meta abbrev NO:aF:=top 22
meta abbrev Q7:ar:=["one", "other", "more", "at", "j"]
meta abbrev O4:ar:=["one", "other"]
abbrev Mb:Ic:=
 rH (ko qk (jZ 0)<|jZ 3)
abbrev LU:Sm:=
 yl (jZ 2) (jZ 4) (eC<|.int 1) FY
abbrev JQ:Ic:=
 rH (ko qk (jZ 1)<|jZ 3)
abbrev La:Sm:=
 yl (jZ 2) (jZ 4) (eC<|.int 1) aSub
abbrev VN:Ic:=
 rH (kK (f1 nM)<|jY (jZ 0) ki)
abbrev Jh:Sm:=
 kZ (nF Mb (k_ 4)
 LU)
 (kZ (nF JQ (k_ 4)
 La)
 (zR (wK<|ko Hi (kK (f1 N2)<|jY (jZ 2) ki)<|eC<|.int 0)
 (lY<|rW<|jY (ko oH (jZ 3)<|eC<|.int 1)<|jY (eFn lU<|jY (jZ 2) ki) ki)
 qZ))
abbrev Tv:Sm:=
 kZ (qL<|qp mL<|jY (jZ 0)<|jY (jZ 1) ki)
 (kZ (lN (ko wG (t9<|jY (eC<|.int 0) ki)<|kK (f1 nM)<|jY (jZ 0) ki)<|k_ 2)
 (kZ (nF VN (k_ 3)
 Jh)
 (lY<|eC .non)))
abbrev CC:ae->j5->R A:=lI Q7 Tv
meta abbrev wV:aF:=top 24
meta abbrev uB:ar:=["one", "other"]
meta abbrev xG:ar:=["one", "other"]
abbrev uc:Sm:=
 lY (ko (M_ false) (qp CC<|jY (jZ 0)<|jY (jZ 1) ki)<|eC .non)
abbrev n8:ae->j5->R A:=lI uB uc
meta abbrev tB:aF:=top 26
meta abbrev sR:ar:=["one", "other", "free_things", "most_things", "most_pairs"]
meta abbrev sW:ar:=["one", "other", "free_things", "most_things", "most_pairs"]
abbrev sC:Sm:=
 kZ (zR (wK<|ko aLe (kK (f1 nM)<|jY (jZ 0) ki)<|jZ 2)
 (Pn)
 qZ)
 (zR (bOr (wK<|ko Hi (kK (f1 nM)<|jY (jZ 0) ki)<|jZ 3)<|wK<|ko Hi (ko aSub (eFn nH<|jY (jZ 1) ki)<|eFn nH<|jY (jZ 0) ki)<|jZ 4)
 (vF "TooMany" [])
 qZ)
abbrev oG:ae->j5->R A:=lI sR sC
meta abbrev yJ:aF:=top 31
meta abbrev yr:ar:=["order", "i", "j", "low", "high"]
meta abbrev za:ar:=["order", "i", "j"]
abbrev yz:Sm:=
 kZ (lN (kK (f2 K6)<|jY (ko qk (jZ 0)<|ko aSub (jZ 1)<|eC<|.int 1)<|jY (ko qk (jZ 0)<|ko aSub (jZ 2)<|eC<|.int 1) ki)<|k_ 3)
 (kZ (lN (kK (f2 Lb)<|jY (ko qk (jZ 0)<|ko aSub (jZ 1)<|eC<|.int 1)<|jY (ko qk (jZ 0)<|ko aSub (jZ 2)<|eC<|.int 1) ki)<|k_ 4)
 (lY<|UH<|kK (f1 Y5)<|jY (lJ [none,some 3,some 4] (oM<|eSl (jZ 0) (CV<|jZ 1)<|CV<|ko aSub (jZ 2)<|eC<|.int 1) (k_ 0) DY<|Sj Hu Hu (jZ 1) (jZ 0)<|jZ 2) ki))
abbrev pV:ae->j5->R A:=lI yr yz
meta abbrev EN:aF:=top 32
meta abbrev EO:ar:=["order", "pairs"]
meta abbrev DU:ar:=["order", "pairs"]
abbrev EE:Sm:=
 lY (kK (f1 yo)<|jY (lJ [none,none,some 0] (oM<|jZ 1) (wH 2<|oR (k_ 0)<|oR (k_ 1) wJ) (rL<|eFn pV<|jY (jZ 2)<|jY (jZ 0)<|jY (jZ 1) ki)<|eFn kM<|jY (jZ 2)<|jY (jZ 0)<|jY (jZ 1) ki) ki)
abbrev xH:ae->j5->R A:=lI EO EE
meta abbrev sX:aF:=top 33
meta abbrev sN:ar:=["order"]
meta abbrev tK:ar:=["order"]
abbrev sF:Sm:=
 lY (eFn xH<|jY (jZ 0)<|jY (lJ [none,none,some 0] (oM<|eFn lO<|jY (kK (f1 nM)<|jY (jZ 0) ki) ki) (wH 2<|oR (k_ 0)<|oR (k_ 1) wJ) (wK<|ko Hu (ko qk (jZ 2)<|ko aSub (jZ 0)<|eC<|.int 1)<|ko qk (jZ 2)<|ko aSub (jZ 1)<|eC<|.int 1)<|rW<|jY (jZ 0)<|jY (jZ 1) ki) ki)
abbrev oF:ae->j5->R A:=lI sN sF
meta abbrev yN:aF:=top 34
meta abbrev v8:ar:=["one", "other", "looked_at", "waiting", "here", "step"]
meta abbrev yu:ar:=["one", "other"]
abbrev r6:Ic:=
 oM (eFn oF<|jY (jZ 4) ki)
abbrev vP:Sm:=
 zR (wK<|ko (M6 true) (jZ 5)<|jZ 2)
 (kZ (lN (qp n8<|jY (jZ 5)<|jY (jZ 1) ki)<|HF (jZ 2)<|jZ 5)
 (zR (rL<|ko zC (jZ 2)<|jZ 5)
 (qL<|eMe Aa (jZ 3)<|jY (jZ 5) ki)
 qZ))
 qZ
abbrev vn:Te:=
 rL (jZ 3)
abbrev u5:Sm:=
 kZ (lN (Ze ZT<|jZ 3)<|k_ 4)
 (nF r6 (k_ 5)
 vP)
abbrev v9:Sm:=
 kZ (qL<|qp mL<|jY (jZ 0)<|jY (jZ 1) ki)
 (kZ (qL<|qp oG<|jY (jZ 0)<|jY (jZ 1)<|jY (eC<|.int 6)<|jY (eC<|.int 9)<|jY (eC<|.int 4) ki)
 (kZ (zR (Tt<|rL<|qp n8<|jY (jZ 0)<|jY (jZ 1) ki)
 (lY<|t9 ki)
 qZ)
 (kZ (lN (QX (jZ 0)<|eC<|.bl true)<|k_ 2)
 (kZ (lN (t9<|jY (jZ 0) ki)<|k_ 3)
 (kZ (pD vn
 u5 1000000)
 (lY<|kK (f1 yo)<|jY (lJ [none,none] (MK<|jZ 2) (wH 2<|oR (k_ 0)<|oR (k_ 1) wJ) (rL<|jZ 1)<|jZ 0) ki))))))
abbrev qY:ae->j5->R A:=lI v8 v9
meta abbrev qI:aF:=top 36
meta abbrev qB:ar:=["numbers"]
meta abbrev oU:ar:=["numbers"]
abbrev qE:Sm:=
 lY (lJ [none,some 0] (oM<|kK (f1 BY)<|jY (jZ 0) ki) (k_ 0) (wK<|ko (Hh true) (ko Au (jZ 1)<|jZ 0)<|eC<|.int 0)<|rW<|jY (jZ 0)<|jY (ko Au (jZ 1)<|jZ 0) ki)
abbrev l9:ae->j5->R A:=lI qB qE
meta abbrev Ij:aF:=top 37
meta abbrev IJ:ar:=["one", "other", "numbers", "power", "number"]
meta abbrev II:ar:=["one", "other"]
abbrev xQ:Ic:=
 oM (jZ 1)
abbrev GC:Sm:=
 lN (ko oH (IE xS (jZ 2)<|jY (jZ 3)<|jY (eC<|.int 0) ki)<|jZ 4) (M1 (jZ 2)<|jZ 3)
abbrev Ie:Sm:=
 kZ (lN (kK (f1 Eh)<|jY (jZ 0) ki)<|k_ 2)
 (kZ (nF xQ (wH 2<|oR (k_ 3)<|oR (k_ 4) wJ)
 GC)
 (lY<|eFn l9<|jY (jZ 2) ki))
abbrev BN:ae->j5->R A:=lI IJ Ie
meta abbrev Dl:aF:=top 38
meta abbrev EA:ar:=["one", "other", "numbers", "power", "number", "high", "many"]
meta abbrev zX:ar:=["one", "other"]
abbrev Mx:Ic:=
 oM (jZ 1)
abbrev Mr:Sm:=
 lN (ko oH (IE xS (jZ 2)<|jY (ko oH (jZ 3)<|jZ 5)<|jY (eC<|.int 0) ki)<|ko Jm (jZ 4)<|jZ 6) (M1 (jZ 2)<|ko oH (jZ 3)<|jZ 5)
abbrev Cs:Ic:=
 oM (jZ 0)
abbrev C2:Sm:=
 nF Mx (wH 2<|oR (k_ 5)<|oR (k_ 6) wJ)
 Mr
abbrev D7:Sm:=
 kZ (lN Iz<|k_ 2)
 (kZ (nF Cs (wH 2<|oR (k_ 3)<|oR (k_ 4) wJ)
 C2)
 (lY<|eFn l9<|jY (jZ 2) ki))
abbrev uq:ae->j5->R A:=lI EA D7
meta abbrev uy:aF:=top 41
meta abbrev uA:ar:=["found", "order", "poly"]
meta abbrev pT:ar:=["found", "order", "poly"]
abbrev uE:Sm:=
 lN (eFn BN<|jY (aad Yp (jZ 0)<|jY (jZ 1)<|jY (t9 ki) ki)<|jY (jZ 2) ki) (HF (jZ 0)<|jZ 1)
abbrev lH:ae->j5->R A:=lI uA uE
meta abbrev Be:aF:=top 42
meta abbrev AJ:ar:=["found"]
meta abbrev vH:ar:=["found"]
abbrev Ba:Sm:=
 lY (lJ [none,some 0] (oM<|kK (f1 Ez)<|jY (jZ 0) ki) (k_ 0) (rL<|ko zC (jZ 1)<|jZ 0)<|rW<|jY (jZ 0)<|jY (ko zC (jZ 1)<|jZ 0) ki)
abbrev pN:ae->j5->R A:=lI AJ Ba
meta abbrev vh:aF:=top 43
meta abbrev uX:ar:=["one", "other"]
meta abbrev u_:ar:=["one", "other"]
abbrev vE:Sm:=
 zR (RP (rL<|jZ 0)<|rL<|jZ 1)
 (qL<|qp mL<|jY (ko qk (ko qk (jZ 0)<|eC<|.int 0)<|eC<|.int 0)<|jY (ko qk (ko qk (jZ 1)<|eC<|.int 0)<|eC<|.int 0) ki)
 qZ
abbrev qy:ae->j5->R A:=lI uX vE
meta abbrev EC:aF:=top 44
meta abbrev ED:ar:=["one", "other", "found", "order", "poly"]
meta abbrev Dk:ar:=["one", "other"]
abbrev vY:Ic:=
 oM (ko oH (jZ 0)<|jZ 1)
abbrev CL:Sm:=
 qL (eFn lH<|jY (jZ 2)<|jY (jZ 3)<|jY (jZ 4) ki)
abbrev Dy:Sm:=
 kZ (qL<|qp qy<|jY (jZ 0)<|jY (jZ 1) ki)
 (kZ (lN Cv<|k_ 2)
 (kZ (nF vY (wH 2<|oR (k_ 3)<|oR (k_ 4) wJ)
 CL)
 (lY<|eFn pN<|jY (jZ 2) ki)))
abbrev uh:ae->j5->R A:=lI ED Dy
meta abbrev AB:aF:=top 45
meta abbrev BZ:ar:=["poly", "one", "found", "order", "many"]
meta abbrev Aq:ar:=["poly", "one"]
abbrev uG:Ic:=
 oM (jZ 1)
abbrev ue:Sm:=
 qL (eFn lH<|jY (jZ 2)<|jY (jZ 3)<|jY (eFn uq<|jY (jZ 0)<|jY (jZ 4) ki) ki)
abbrev BO:Sm:=
 kZ (lN Cv<|k_ 2)
 (kZ (nF uG (wH 2<|oR (k_ 3)<|oR (k_ 4) wJ)
 ue)
 (lY<|eFn pN<|jY (jZ 2) ki))
abbrev rA:ae->j5->R A:=lI BZ BO
meta abbrev tR:aF:=top 46
meta abbrev sU:ar:=["one", "k", "found", "order", "poly"]
meta abbrev s_:ar:=["one", "k"]
abbrev oV:Ic:=
 oM (jZ 0)
abbrev nA:Sm:=
 kZ (qL<|eFn lH<|jY (jZ 2)<|jY (qp nQ<|jY (jZ 3)<|jY (jZ 1) ki)<|jY (jZ 4) ki)
 (zR (wK<|ko (ZP false) (jZ 1)<|eFn qa<|jY (jZ 3) ki)
 (qL<|eFn lH<|jY (jZ 2)<|jY (jZ 3)<|jY (eFn uq<|jY (kK (f1 zh)<|jY (eC<|.frz<|[((-1:Int),(1:Int)),((1:Int),(-1:Int))].map kA) ki)<|jY (jZ 4) ki) ki)
 qZ)
abbrev sP:Sm:=
 kZ (lN Cv<|k_ 2)
 (kZ (nF oV (wH 2<|oR (k_ 3)<|oR (k_ 4) wJ)
 nA)
 (lY<|eFn pN<|jY (jZ 2) ki))
abbrev nI:ae->j5->R A:=lI sU sP
meta abbrev xq:aF:=top 49
meta abbrev uf:ar:=["order"]
meta abbrev w9:ar:=["order"]
abbrev uD:Sm:=
 zR (wK<|ko Hi (kK (f1 nM)<|jY (jZ 0) ki)<|eC<|.int 5)
 (vF "TooMany" [.inl "no kept sums of ",.inr<|kK (f1 nM)<|jY (jZ 0) ki,.inl " things"])
 qZ
abbrev o8:ae->j5->R A:=lI uf uD
meta abbrev qH:aF:=top 50
meta abbrev qF:ar:=["poly"]
meta abbrev qD:ar:=["poly"]
abbrev qC:Sm:=
 lY (IE xS (kK (f1 Eh)<|jY (jZ 0) ki)<|jY (eC<|.int 1)<|jY (eC<|.int 0) ki)
abbrev nG:ae->j5->R A:=lI qF qC
meta abbrev rz:aF:=top 52
meta abbrev lQ:ar:=["order", "k", "known", "less", "told", "lower", "poly", "number"]
meta abbrev nZ:ar:=["order", "k", "known"]
abbrev pY (Fs:ae->j5->R A):Ic:=
 oM (jZ 3)
abbrev oh (Fs:ae->j5->R A):Sm:=
 kZ (lN (eFn nG<|jY (jZ 6) ki)<|k_ 7)
 (zR (RP (wK<|ko (Hh true) (jZ 7)<|eC<|.int 0)<|wK<|ko (ZP false) (jZ 1)<|eFn qa<|jY (jZ 5) ki)
 (lN (qp uh<|jY (jZ 4)<|jY (eFn rA<|jY (t9<|jY (rW<|jY (eC<|.int 0)<|jY (eUn OL<|jZ 7) ki) ki)<|jY (qp Fs<|jY (jZ 5)<|jY (jZ 2) ki) ki) ki)<|k_ 4)
 qZ)
abbrev lR (Fs:ae->j5->R A):Sm:=
 kZ (lN (qp Fs<|jY (qp nQ<|jY (jZ 0)<|jY (jZ 1) ki)<|jY (jZ 2) ki)<|k_ 3)
 (kZ (lN (qp uh<|jY (qp nI<|jY (jZ 3)<|jY (jZ 1) ki)<|jY (eFn rA<|jY (t9<|jY (rW<|jY (eC<|.int 1)<|jY (eC<|.int 1) ki) ki)<|jY (jZ 3) ki) ki)<|k_ 4)
 (kZ (nF (pY Fs) (wH 2<|oR (k_ 5)<|oR (k_ 6) wJ)
 (oh Fs))
 (lY<|jZ 4)))
meta abbrev qS:aF:=top 51
meta abbrev pS:ar:=["order", "known", "ends"]
meta abbrev mP:ar:=["order", "known"]
abbrev pM (Fs:ae->j5->R A):Sm:=
 kZ (zR (wK<|ko (M6 true) (jZ 0)<|jZ 1)
 (kZ (lN (eFn qa<|jY (jZ 0) ki)<|k_ 2)
 (zR (rL<|jZ 2)
 (lN (qp (lI lQ<|lR Fs)<|jY (jZ 0)<|jY (ko qk (jZ 2)<|eC<|.int 0)<|jY (jZ 1) ki)<|HF (jZ 1)<|jZ 0)
 (lN (t9<|jY (rW<|jY (jZ 0)<|jY (t9<|jY (rW<|jY (eC<|.int 0)<|jY (eC<|.int 1) ki) ki) ki) ki)<|HF (jZ 1)<|jZ 0)))
 qZ)
 (lY<|ko zC (jZ 1)<|jZ 0)
abbrev nJ:Nat->ae->j5->R A
 | 0=>λ_ _=>.no
 | k+1=>lI pS<|pM<|nJ k
abbrev uL:ae->j5->R A:=nJ 8
meta abbrev xh:aF:=top 53
meta abbrev uw:ar:=["order"]
meta abbrev wX:ar:=["order"]
abbrev uI:Sm:=
 kZ (qL<|qp o8<|jY (jZ 0) ki)
 (lY<|qp uL<|jY (jZ 0)<|jY Cv ki)
abbrev pC:ae->j5->R A:=lI uw uI
meta abbrev D5:aF:=top 56
meta abbrev zL:ar:=["order", "told", "lower"]
meta abbrev DC:ar:=["order"]
abbrev CM:Ic:=
 oM (qp qY<|jY (eFn oK<|jY (kK (f1 nM)<|jY (jZ 0) ki) ki)<|jY (jZ 0) ki)
abbrev Cz:Sm:=
 yl (jZ 1) (eFn nH<|jY (jZ 2) ki) (eC<|.int 1) FY
abbrev Ad:Sm:=
 kZ (zR (wK<|ko Hi (kK (f1 nM)<|jY (jZ 0) ki)<|eC<|.int 6)
 (vF "TooMany" [.inl "orders below are not counted for ",.inr<|kK (f1 nM)<|jY (jZ 0) ki,.inl " things"])
 qZ)
 (kZ (lN (ko wG (t9<|jY (eC<|.int 0) ki)<|ko oH (eFn nH<|jY (jZ 0) ki)<|eC<|.int 1)<|k_ 1)
 (kZ (nF CM (k_ 2)
 Cz)
 (lY<|jZ 1)))
abbrev uC:ae->j5->R A:=lI zL Ad
meta abbrev yH:aF:=top 57
meta abbrev vW:ar:=["order", "terms", "most", "told", "lower", "poly", "both", "power", "number"]
meta abbrev yM:ar:=["order"]
abbrev vd:Ic:=
 oM (jZ 5)
abbrev vO:Sm:=
 yl (jZ 3) (ko FQ (ko aSub (jZ 6)<|jZ 7)<|eC<|.int 2) (jZ 8) FY
abbrev zj:Ic:=
 oM (jZ 1)
abbrev zl:Sm:=
 kZ (lN (ko oH (eFn nH<|jY (jZ 4) ki)<|jZ 2)<|k_ 6)
 (nF vd (wH 2<|oR (k_ 7)<|oR (k_ 8) wJ)
 vO)
abbrev wm:Sm:=
 kZ (lN (qp pC<|jY (jZ 0) ki)<|k_ 1)
 (kZ (lN (eFn nH<|jY (jZ 0) ki)<|k_ 2)
 (kZ (lN (ko wG (t9<|jY (eC<|.int 0) ki)<|ko oH (jZ 2)<|eC<|.int 1)<|k_ 3)
 (kZ (nF zj (wH 2<|oR (k_ 4)<|oR (k_ 5) wJ)
 zl)
 (lY<|jZ 3))))
abbrev p7:ae->j5->R A:=lI vW wm
meta abbrev xE:aF:=top 59
meta abbrev wW:ar:=["_law_script", "_law_k"]
meta abbrev wY:ar:=["_law_script", "_law_k"]
abbrev wZ:Sm:=
 kZ (zR (wK<|ko Hu (jZ 1)<|kK (f1 nM)<|jY (jZ 0) ki)
 (lY<|ko qk (jZ 0)<|jZ 1)
 qZ)
 (lY<|eC<|.int 0)
abbrev rm:ae->j5->R A:=lI wW wZ
meta abbrev yY:aF:=top 60
meta abbrev yI:ar:=["_law_cell_here", "_law_place", "_law_far"]
meta abbrev yV:ar:=["_law_cell_here", "_law_place"]
abbrev yt:Sm:=
 kZ (lN (kK (f1 Yu)<|jY (jZ 0) ki)<|k_ 2)
 (kZ (zR (wK<|ko Hu (jZ 2)<|ko Z1 (eC<|.int 10)<|eC<|.int 18)
 (lN (eC<|.int 0)<|k_ 2)
 qZ)
 (lY<|t9<|jY (jZ 2)<|jY (ko Dr (ko oH (ko oH (ko wG (ko Dr (jZ 0)<|eC<|.int 2147483647)<|eC<|.int 69621)<|ko wG (eC<|.int 7919)<|jZ 1)<|eC<|.int 13)<|eC<|.int 2147483647) ki))
abbrev tZ:ae->j5->R A:=lI yI yt
meta abbrev vA:aF:=top 61
meta abbrev uT:ar:=["_law_bag_here"]
meta abbrev vB:ar:=["_law_bag_here"]
abbrev uQ:Sm:=
 kZ (lN (ko Dr (ko oH (ko wG (ko qk (jZ 0)<|eC<|.int 1)<|eC<|.int 48271)<|eC<|.int 11)<|eC<|.int 2147483647)<|gSb (jZ 0)<|eC<|.int 1)
 (lY<|ko FQ (ko Dr (ko wG (ko qk (jZ 0)<|eC<|.int 1)<|eC<|.int 16807)<|eC<|.int 2147483629)<|eC<|.int 8)
abbrev pH:ae->j5->R A:=lI uT uQ
meta abbrev vK:aF:=top 62
meta abbrev se:ar:=["_law_bag_here", "_law_many", "_law_found", "_law_k"]
meta abbrev sq:ar:=["_law_bag_here", "_law_many"]
abbrev Cm:Ic:=
 rH (eC<|.int 7)
abbrev B_:Sm:=
 lN (ko oH (ko wG (jZ 2)<|eC<|.int 268435399)<|eFn pH<|jY (jZ 0) ki) (k_ 2)
abbrev r_:Sm:=
 kZ (zR (wK<|ko Hi (ko qk (jZ 0)<|eC<|.int 0)<|eC<|.int 0)
 (kZ (lN (ko Dr (ko qk (jZ 0)<|eC<|.int 0)<|jZ 1)<|k_ 2)
 (kZ (lN (ko FQ (ko qk (jZ 0)<|eC<|.int 0)<|jZ 1)<|gSb (jZ 0)<|eC<|.int 0)
 (lY<|jZ 2)))
 qZ)
 (kZ (lN (eFn pH<|jY (jZ 0) ki)<|k_ 2)
 (kZ (zR (wK<|ko Hi (jZ 1)<|eC<|.int 1000)
 (nF Cm (k_ 3)
 B_)
 qZ)
 (lY<|ko Dr (jZ 2)<|jZ 1)))
abbrev mE:ae->j5->R A:=lI se r_
meta abbrev uZ:aF:=top 63
meta abbrev vq:ar:=["_law_bag_here", "_law_n", "_law_left", "_law_found", "_law_k"]
meta abbrev vC:ar:=["_law_bag_here", "_law_n"]
abbrev B3:Ic:=
 rH (jZ 1)
abbrev wM:Sm:=
 qL (eMe Aa (jZ 3)<|jY (eMe HC (jZ 2)<|jY (eFn mE<|jY (jZ 0)<|jY (kK (f1 nM)<|jY (jZ 2) ki) ki) ki) ki)
abbrev vG:Sm:=
 kZ (lN (kK (f1 zh)<|jY (kK (f2 zS)<|jY (eC<|.int 1)<|jY (ko oH (jZ 1)<|eC<|.int 1) ki) ki)<|k_ 2)
 (kZ (lN (t9 ki)<|k_ 3)
 (kZ (nF B3 (k_ 4)
 wM)
 (lY<|kK (f1 ve)<|jY (jZ 3) ki)))
abbrev qv:ae->j5->R A:=lI vq vG
meta abbrev tM:aF:=top 64
meta abbrev sG:ar:=["_law_e", "_law_named", "_law_words", "_law_some"]
meta abbrev qh:ar:=["_law_e"]
abbrev sO:Sm:=
 kZ (lN (t9<|jY (yU (I0 [("NoPair",false),("NoWord",true),("TooMany",false)])<|jZ 0)<|jY (yU (I0 [("NoPair",false),("NoWord",false),("TooMany",false)])<|jZ 0)<|jY (yU (I0 [("NoPair",true),("NoWord",false),("TooMany",false)])<|jZ 0)<|jY (yU (I0 [("NoPair",false),("NoWord",false),("TooMany",true)])<|jZ 0) ki)<|k_ 1)
 (kZ (lN (ko oH (jZ 1)<|t9<|jY (yU (I0 [("NoPair",false),("NoWord",false),("TooMany",false)])<|jZ 0)<|jY (yU (I0 [("NoPair",false),("NoWord",false),("TooMany",false)])<|jZ 0)<|jY (yU (I0 [("NoPair",false),("NoWord",false),("TooMany",false)])<|jZ 0)<|jY (yU (I0 [("NoPair",false),("NoWord",false),("TooMany",false)])<|jZ 0) ki)<|k_ 1)
 (kZ (lN (t9<|jY (eC<|.str<|PySem.Str.ofString "NoWord")<|jY (eC<|.str<|PySem.Str.ofString "NoNumber")<|jY (eC<|.str<|PySem.Str.ofString "NoPair")<|jY (eC<|.str<|PySem.Str.ofString "TooMany")<|jY (eC<|.str<|PySem.Str.ofString "NoTables")<|jY (eC<|.str<|PySem.Str.ofString "NoText")<|jY (eC<|.str<|PySem.Str.ofString "NoRow")<|jY (eC<|.str<|PySem.Str.ofString "NoName") ki)<|k_ 2)
 (kZ (lN (lJ [none,some 2,some 1] (rH<|eC<|.int 8) (k_ 0) (rL<|ko qk (jZ 2)<|jZ 0)<|ko qk (jZ 1)<|jZ 0)<|k_ 3)
 (kZ (zR (bOr (wK<|ko (Hh true) (kK (f1 nM)<|jY (jZ 3) ki)<|eC<|.int 1)<|Tt<|rL<|yU (I0 [("NoPair",true),("NoWord",true),("TooMany",true)])<|jZ 0)
 (lY<|eC<|.str<|PySem.Str.ofString "else")
 qZ)
 (lY<|ko qk (jZ 3)<|eC<|.int 0)))))
abbrev mS:ae->j5->R A:=lI sG sO
meta abbrev pZ:aF:=top 65
meta abbrev p_:ar:=["_law_order_here", "_law_found", "_law_e"]
meta abbrev p9:ar:=["_law_order_here"]
abbrev p6:Sm:=
 kZ (ER 2 3 ["NoPair", "NoWord", "TooMany"] (lN (qp uC<|jY (jZ 0) ki)<|k_ 1)
 (lY<|eFn mS<|jY (jZ 2) ki))
 (lY<|ko qk (jZ 1)<|eC<|.int 0)
abbrev m5:ae->j5->R A:=lI p_ p6
meta abbrev oX:aF:=top 66
meta abbrev o_:ar:=["_law_order_here", "_law_found", "_law_e"]
meta abbrev oY:ar:=["_law_order_here"]
abbrev pB:Sm:=
 kZ (ER 2 3 ["NoPair", "NoWord", "TooMany"] (lN (qp p7<|jY (jZ 0) ki)<|k_ 1)
 (lY<|eFn mS<|jY (jZ 2) ki))
 (lY<|ko qk (jZ 1)<|eC<|.int 0)
abbrev mH:ae->j5->R A:=lI o_ pB
meta abbrev Oi:aF:=top 67
meta abbrev Qg:ar:=["_law_script", "_law_k", "_law_bag_here", "_law_order_here"]
meta abbrev WO:ar:=["_law_script"]
abbrev Lw:Ic:=
 rH (kK (f2 Lb)<|jY (eC<|.int 2)<|jY (kK (f2 K6)<|jY (kK (f1 nM)<|jY (jZ 0) ki)<|jY (eC<|.int 5) ki) ki)
abbrev LS:Sm:=
 kZ (lN (eFn tZ<|jY (eFn rm<|jY (jZ 0)<|jY (jZ 1) ki)<|jY (ko oH (eC<|.int 1)<|jZ 1) ki)<|k_ 2)
 (kZ (lN (eFn qv<|jY (jZ 2)<|jY (ko qk (t9<|jY (eC<|.int 6)<|jY (eC<|.int 7)<|jY (eC<|.int 8)<|jY (eC<|.int 6)<|jY (eC<|.int 20)<|jY (eC<|.int 7)<|jY (eC<|.int 12)<|jY (eC<|.int 4) ki)<|eFn mE<|jY (jZ 2)<|jY (eC<|.int 8) ki) ki)<|k_ 3)
 (kZ (zR (wK<|ko (Hh true) (eFn m5<|jY (jZ 3) ki)<|ko qk (t9<|jY (eC<|.int 1)<|jY (eC<|.str<|PySem.Str.ofString "TooMany") ki)<|kK (f1 Fx)<|jY (ko Hi (kK (f1 nM)<|jY (jZ 3) ki)<|eC<|.int 6) ki)
 (lY<|eC<|.bl false)
 qZ)
 (zR (wK<|ko (Hh true) (eFn mH<|jY (jZ 3) ki)<|ko qk (t9<|jY (eC<|.int 1)<|jY (eC<|.str<|PySem.Str.ofString "TooMany") ki)<|kK (f1 Fx)<|jY (ko Hi (kK (f1 nM)<|jY (jZ 3) ki)<|eC<|.int 5) ki)
 (lY<|eC<|.bl false)
 qZ)))
abbrev Ri:Sm:=
 kZ (nF Lw (k_ 1)
 LS)
 (lY<|eC<|.bl true)
abbrev CD:ae->j5->R A:=lI Qg Ri
section
variable {P:aj}{w:ah}{K:au}{mg:Str->bd}{base:aq}{f:ak}{fd:FuncData}
def FT:FnScope wU xj (j_ xx):=sS rfl rfl rfl ∅
def Gg(F:Fun K "is_whole" "is_whole" xx f fd)(J:mg "isinstance" = none)(U:mg "bool" = none)(Z:mg "int" = none):FnOk P w K mg base t8 1 f fd xj (uN K 1 rQ):=yZ (m:=xF) F FT λcdv B outer s H E d=>
 j7 (kN<|TY (kC WM J tu<|j3 (jX 0)<|j3 (WY Z Iw) kc)<|RC<|Pg<|kC WM J tu<|j3 (jX 0)<|j3 (WY U VL) kc)
def A5:FnScope sJ tU (j_ sL):=sS rfl rfl rfl ∅
def BE(F:Fun K "plain_order" "plain_order" sL f fd)(J:mg "tuple" = none)(U:mg "range" = none):FnOk P w K mg base t8 1 f fd tU (uN K 1 oK):=yZ (m:=tQ) F A5 λcdv B outer s H E d=>
 j7 (kN<|nB (DO rfl) J Av<|j3 (nB Gu U F7<|j3 kg<|j3 (kD pG (jX 0) kg) kc) kc)
def Em:FnScope vJ qm (j_ vf):=sS rfl rfl rfl ∅
def DM(F:Fun K "need_pair" "need_pair" vf f fd)(Z:ExcK K U "NoPair" az)(J:mg "len" = none):FnOk P w K mg base (xN P w) 1 f fd qm (Ck K 2 mL):=fnX (m:=vL) F Em λcdv B outer s H E d=>
 j7 (ow (mh (MW d.units) (kC nE J l7<|j3 (jX 0) kc)<|kC nE J l7<|j3 (jX 1) kc)
 (j7<|wc (ps:=[.inl "orders of ",.inr<|kK (f1 nM)<|jY (jZ 0) ki,.inl " and of ",.inr<|kK (f1 nM)<|jY (jZ 1) ki,.inl " things"]) Z.n Z.q d.hd<|.txt<|.val (kC nE J l7<|j3 (jX 0) kc)<|.txt<|.val (kC nE J l7<|j3 (jX 1) kc)<|.txt .nil)
 lK)
def BA:FnScope tP tD (j_ sQ):=sS rfl rfl rfl ∅
def Bv(F:Fun K "is_exchange" "is_exchange" sQ f fd)(J:rV P w K mg base 1 "is_whole" xj rQ):FnOk P w K mg base t8 2 f fd tD (uN K 2 oE):=yZ (m:=tN) F BA λcdv B outer s H E d=>
 j7 (kN<|TY (Bb J d<|jX 1)<|RC<|Xe Z8 (Nc d.units) kg (jX 1)<|jX 0)
def qM:FnScope nq nt (j_ o4):=sS rfl rfl rfl ∅
def wF(F:Fun K "exchanged_places" "exchanged_places" o4 f fd)(J:mg "list" = none)(U:mg "tuple" = none):FnOk P w K mg base t8 1 f fd nt (uN K 3 kM):=yZ (m:=ni) F qM λcdv B outer s H E d=>
 j9 (k8 (i:=3) qM.nd<|nB (HD rfl) J DQ<|j3 (jX 0) kc)
 (j9 (uH (rP<|j3 (lZ (jX 3)<|kD qj (jX 2) kg)<|j3 (lZ (jX 3)<|kD qj (jX 1) kg) kc)<|pO rfl<|kQ (D9 (jX 3)<|kD qj (jX 1) kg)<|kQ (D9 (jX 3)<|kD qj (jX 2) kg) nO)
 (j7<|kN<|nB (DO rfl) U Av<|j3 (jX 3) kc))
def Dv:FnScope vp sj (j_ vg):=sS rfl rfl rfl ∅
def DG(F:Fun K "exchanged" "exchanged" vg f fd)(J:ExcK K U "NoWord" aD)(Z:mg "len" = none)(acI:rV P w K mg base 2 "is_exchange" tD oE)(aa_:rV P w K mg base 1 "exchanged_places" nt kM):FnOk P w K mg base (xN P w) 3 f fd sj (Ck K 2 nQ):=fnX (m:=uU) F Dv λcdv B outer s H E d=>
 j9 (ow (IA<|qA<|Ub acI d (kC nE Z l7<|j3 (jX 0) kc)<|jX 1)
 (j7<|wc (ps:=[.inl "no exchange of ",.inr<|kK (f1 nM)<|jY (jZ 0) ki,.inl " things"]) J.n J.q d.hd<|.txt<|.val (kC nE Z l7<|j3 (jX 0) kc)<|.txt .nil)
 lK)
 (j7<|kN<|fn3 aa_ d (jX 0) (jX 1)<|kD pG (jX 1) kg)
def BJ:FnScope sZ qg (j_ sV):=sS rfl rfl rfl ∅
def Bp(F:Fun K "place_pairs" "place_pairs" sV f fd)(J:mg "range" = none):FnOk P w K mg base t8 1 f fd qg (uN K 1 lO):=yZ (m:=tF) F BJ λcdv B outer s H E d=>
 j7 (kN<|QG (N:=["i", "j", "n"]) (cap:=[none,none,some 0]) rfl (wL ["n"]) (yq J kg<|jX 0) (λ_ _ _ _=>kJ (i:=0) (show(["i", "j", "n"]:ar).Nodup by decide +kernel)) (λ_ _ _ _=>DB) (λ_ _ _ _=>yq J (kD pG (jX 0) kg)<|kD pG (jX 2) kg) (λ_ _ _ _=>kJ (i:=1) (show(["i", "j", "n"]:ar).Nodup by decide +kernel)) (λ_ _ _ _=>DB) λ_ _ _ _=>rP<|j3 (jX 0)<|j3 (jX 1) kc)
def A8:FnScope sA sD (j_ sH):=sS rfl rfl rfl ∅
def Bw(F:Fun K "wrong_pairs" "wrong_pairs" sH f fd)(J:mg "len" = none)(U:rV P w K mg base 1 "place_pairs" qg lO):FnOk P w K mg base t8 2 f fd sD (uN K 1 oO):=yZ (m:=sE) F A8 λcdv B outer s H E d=>
 j7 (kN<|rZ (N:=["i", "j", "order"]) (cap:=[none,none,some 0]) rfl (wL ["order"]) (nS<|Bb U d<|kC nE J l7<|j3 (jX 0) kc) (λ_ _ _ _=>pO rfl<|kQ (kJ (i:=0) (show(["i", "j", "order"]:ar).Nodup by decide +kernel))<|kQ (kJ (i:=1) (show(["i", "j", "order"]:ar).Nodup by decide +kernel)) nO) (λ_ _ _ _=>sf<|mh (BW d.units) (lZ (jX 2)<|kD qj (jX 0) kg)<|lZ (jX 2)<|kD qj (jX 1) kg) λ_ _ _ _=>rP<|j3 (jX 0)<|j3 (jX 1) kc)
def NH:FnScope AR uY (j_ A2):=sS rfl rfl rfl ∅
def MH(F:Fun K "length" "length" A2 f fd)(J:mg "len" = none)(U:rV P w K mg base 2 "wrong_pairs" sD oO):FnOk P w K mg base t8 3 f fd uY (uN K 1 nH):=yZ (m:=Aw) F NH λcdv B outer s H E d=>
 j7 (kN<|kC nE J l7<|j3 (Bb U d<|jX 0) kc)
def Pq:FnScope DR wA (j_ Dw):=sS rfl rfl rfl ∅
def SQ(F:Fun K "falls" "falls" Dw f fd)(J:mg "range" = none)(U:mg "len" = none):FnOk P w K mg base t8 1 f fd wA (uN K 1 qa):=yZ (m:=D3) F Pq λcdv B outer s H E d=>
 j7 (kN<|rZ (N:=["k", "order"]) (cap:=[none,some 0]) rfl (wL ["order"]) (yq J kg<|kC nE U l7<|j3 (jX 0) kc) (λ_ _ _ _=>kJ (i:=0) (show(["k", "order"]:ar).Nodup by decide +kernel)) (λ_ _ _ _=>sf<|mh (BW d.units) (lZ (jX 1)<|kD qj (jX 0) kg)<|lZ (jX 1)<|jX 0) λ_ _ _ _=>jX 0)
def nL:FnScope n9 nV (j_ nU):=sS rfl rfl rfl ∅
def uP(F:Fun K "first_above_nought" "first_above_nought" nU f fd):FnOk P w K mg base t8 1 f fd nV (uN K 1 lU):=yZ (m:=nW) F nL λcdv B outer s H E d=>
 j9 (k8 (i:=1) nL.nd kg)
 (j9 (F3 1000000 d_ (mh Z8 (lZ (jX 0)<|kD qj (jX 1) kg) kg)
 (j7<|ZO (i:=1) nL.nd kg zY))
 (j7<|kN<|jX 1))
def BB:FnScope Q7 O4 (j_ NO):=sS rfl rfl rfl ∅
def aal(F:Fun K "bar" "bar" NO f fd)(U:mg "len" = none)(J:mg "range" = none)(Z:mg "max" = none)(aaT:yp P w K mg base 1 "need_pair" qm mL)(acK:rV P w K mg base 1 "first_above_nought" nV lU):FnOk P w K mg base (xN P w) 2 f fd O4 (Ck K 2 CC):=fnX (m:=Tv) F BB λcdv B outer s H E d=>
 j9 (oQ<|Ug aaT d (jX 0)<|jX 1)
 (j9 (k8 (i:=2) BB.nd<|kD zx (nN<|j3 kg kc)<|kC nE U l7<|j3 (jX 0) kc)
 (j9 (nP cU rfl (qW J<|kC nE U l7<|j3 (jX 0) kc) (kJ (i:=3) BB.nd)
 (j9 (nP cU rfl (qW J<|lZ (jX 0)<|jX 3) (kJ (i:=4) BB.nd)
 (j7<|Ah (jX 2) (jX 4) kg zY))
 (j9 (nP cU rfl (qW J<|lZ (jX 1)<|jX 3) (kJ (i:=4) BB.nd)
 (j7<|Ah (jX 2) (jX 4) kg Vs))
 (j7 (ow (mh (BW d.units) (kC (XM rfl) Z Jb<|j3 (jX 2) kc) kg)
 (j7<|kN<|rP<|j3 (kD pG (jX 3) kg)<|j3 (Bb acK d<|jX 2) kc)
 lK)))))
 (j7<|kN<|O2)))
def Gf:FnScope uB xG (j_ wV):=sS rfl rfl rfl ∅
def GU(F:Fun K "is_below" "is_below" wV f fd)(J:yp P w K mg base 2 "bar" O4 CC):FnOk P w K mg base (xN P w) 3 f fd xG (Ck K 2 n8):=fnX (m:=uc) F Gf λcdv B outer s H E d=>
 j7 (kN<|IF adB (Ug J d (jX 0)<|jX 1)<|O2)
def Bh:FnScope sR sW (j_ tB):=sS rfl rfl rfl ∅
def Bk(F:Fun K "need_bounds" "need_bounds" tB f fd)(J:ExcK K U "TooMany" av)(Z:mg "len" = none)(aaM:rV P w K mg base 3 "length" uY nH):FnOk P w K mg base (xN P w) 4 f fd sW (Ck K 5 oG):=fnX (m:=sC) F Bh λcdv B outer s H E d=>
 j9 (ow (mh Z8 (kC nE Z l7<|j3 (jX 0) kc)<|jX 2)
 (j7<|V1)
 lK)
 (j7 (ow (AW.at<|XD (mh (BW d.units) (kC nE Z l7<|j3 (jX 0) kc)<|jX 3)<|PV<|mh (BW d.units) (kD qj (Bb aaM d<|jX 1)<|Bb aaM d<|jX 0)<|jX 4)
 (j7<|M0 J.n J.q d.hd)
 lK))
def xw:FnScope yr za (j_ yJ):=sS rfl rfl rfl ∅
def IL(F:Fun K "is_step" "is_step" yJ f fd)(J:mg "min" = none)(U:mg "max" = none)(Z:mg "any" = none):FnOk P w K mg base t8 1 f fd za (uN K 3 pV):=yZ (m:=yz) F xw λcdv B outer s H E d=>
 j9 (k8 (i:=3) xw.nd<|kC (OJ rfl) J RV<|j3 (lZ (jX 0)<|kD qj (jX 1) kg)<|j3 (lZ (jX 0)<|kD qj (jX 2) kg) kc)
 (j9 (k8 (i:=4) xw.nd<|kC (RW rfl) U Jb<|j3 (lZ (jX 0)<|kD qj (jX 1) kg)<|j3 (lZ (jX 0)<|kD qj (jX 2) kg) kc)
 (j7<|kN<|Pg<|kC (ach rfl) Z Z9<|j3 (rZ (N:=["thing", "low", "high"]) (cap:=[none,some 3,some 4]) rfl (wL ["low", "high"]) (nS<|abJ (jX 0) (Jx<|jX 1)<|Jx<|kD qj (jX 2) kg) (λ_ _ _ _=>kJ (i:=0) (show(["thing", "low", "high"]:ar).Nodup by decide +kernel)) (λ_ _ _ _=>DB) λ_ _ _ _=>Xe (Nc d.units) (Nc d.units) (jX 1) (jX 0)<|jX 2) kc))
def P9:FnScope EO DU (j_ EN):=sS rfl rfl rfl ∅
def Rk(F:Fun K "steps" "steps" EN f fd)(J:mg "sorted" = none)(U:rV P w K mg base 1 "is_step" za pV)(Z:rV P w K mg base 1 "exchanged_places" nt kM):FnOk P w K mg base t8 2 f fd DU (uN K 2 xH):=yZ (m:=EE) F P9 λcdv B outer s H E d=>
 j7 (kN<|kC QC J v_<|j3 (rZ (N:=["i", "j", "order"]) (cap:=[none,none,some 0]) rfl (wL ["order"]) (nS<|jX 1) (λ_ _ _ _=>pO rfl<|kQ (kJ (i:=0) (show(["i", "j", "order"]:ar).Nodup by decide +kernel))<|kQ (kJ (i:=1) (show(["i", "j", "order"]:ar).Nodup by decide +kernel)) nO) (λ_ _ _ _=>sf<|qA<|fn3 U d (jX 2) (jX 0)<|jX 1) λ_ _ _ _=>fn3 Z d (jX 2) (jX 0)<|jX 1) kc)
def Br:FnScope sN tK (j_ sX):=sS rfl rfl rfl ∅
def Ax(F:Fun K "steps_above" "steps_above" sX f fd)(J:mg "len" = none)(U:rV P w K mg base 2 "steps" DU xH)(Z:rV P w K mg base 1 "place_pairs" qg lO):FnOk P w K mg base t8 3 f fd tK (uN K 1 oF):=yZ (m:=sF) F Br λcdv B outer s H E d=>
 j7 (kN<|Ub U d (jX 0)<|rZ (N:=["i", "j", "order"]) (cap:=[none,none,some 0]) rfl (wL ["order"]) (nS<|Bb Z d<|kC nE J l7<|j3 (jX 0) kc) (λ_ _ _ _=>pO rfl<|kQ (kJ (i:=0) (show(["i", "j", "order"]:ar).Nodup by decide +kernel))<|kQ (kJ (i:=1) (show(["i", "j", "order"]:ar).Nodup by decide +kernel)) nO) (λ_ _ _ _=>sf<|mh (Nc d.units) (lZ (jX 2)<|kD qj (jX 0) kg)<|lZ (jX 2)<|kD qj (jX 1) kg) λ_ _ _ _=>rP<|j3 (jX 0)<|j3 (jX 1) kc)
def rB:FnScope v8 yu (j_ yN):=sS rfl rfl rfl ∅
def HZ(F:Fun K "between" "between" yN f fd)(U:mg "sorted" = none)(Z:∃t,mg "MOST_CLIMBED_PAIRS" = some (.int 4 t))(acQ:∃t,mg "MOST_CLIMBED_THINGS" = some (.int 9 t))(acR:∃t,mg "MOST_THINGS_chains" = some (.int 6 t))(aaT:yp P w K mg base 1 "need_pair" qm mL)(acS:yp P w K mg base 4 "need_bounds" sW oG)(J:yp P w K mg base 3 "is_below" xG n8)(acT:rV P w K mg base 3 "steps_above" tK oF):FnOk P w K mg base (xN P w) 5 f fd yu (Ck K 2 qY):=fnX (m:=v9) F rB λcdv B outer s H E d=>
 j9 (oQ<|Ug aaT d (jX 0)<|jX 1)
 (j9 (oQ<|sI acS (d.mono ⋯) (j3 (jX 0)<|j3 (jX 1)<|j3 (uW acR.choose_spec)<|j3 (uW acQ.choose_spec)<|j3 (uW Z.choose_spec) kc)<|kB<|kB<|kB<|kB<|kB l5)
 (j9 (ow (IA<|qA<|Ug J d (jX 0)<|jX 1)
 (j7<|kN<|nN kc)
 lK)
 (j9 (k8 (i:=2) rB.nd<|U_ d.units (jX 0) Lu)
 (j9 (k8 (i:=3) rB.nd<|nN<|j3 (jX 0) kc)
 (j9 (F3 1000000 cU (qA<|jX 3)
 (j9 (k8 (i:=4) rB.nd<|X4 PySem.F.slot_list_pop PySem.F.type_list_pop abO<|jX 3)
 (j7 (nP cU rfl (nS<|Bb acT d<|jX 4) (kJ (i:=5) rB.nd)
 (j7 (ow (mh (Gs d.units) (jX 5)<|jX 2)
 (j9 (uH (Ug J d (jX 5)<|jX 1)<|zH d.units (jX 2)<|jX 5)
 (j7 (ow (qA<|Ec d.units (jX 2)<|jX 5)
 (j7<|oQ<|QI PySem.F.slot_list_append PySem.F.type_list_append Fj (jX 3)<|j3 (jX 5) kc)
 lK)))
 lK))))))
 (j7<|kN<|kC QC U v_<|j3 (rZ (N:=["order", "is_between"]) (cap:=[none,none]) rfl (wL []) (Qe<|jX 2) (λ_ _ _ _=>pO rfl<|kQ (kJ (i:=0) (show(["order", "is_between"]:ar).Nodup by decide +kernel))<|kQ (kJ (i:=1) (show(["order", "is_between"]:ar).Nodup by decide +kernel)) nO) (λ_ _ _ _=>sf<|qA<|jX 1) λ_ _ _ _=>jX 0) kc))))))
def yK:FnScope qB oU (j_ qI):=sS rfl rfl rfl ∅
def zb(F:Fun K "as_polynomial" "as_polynomial" qI f fd)(J:mg "sorted" = none):FnOk P w K mg base t8 1 f fd oU (uN K 1 l9):=yZ (m:=qE) F yK λcdv B outer s H E d=>
 j7 (kN<|rZ (N:=["power", "numbers"]) (cap:=[none,some 0]) rfl (wL ["numbers"]) (nS<|kC (Vy rfl) J v_<|j3 (jX 0) kc) (λ_ _ _ _=>kJ (i:=0) (show(["power", "numbers"]:ar).Nodup by decide +kernel)) (λ_ _ _ _=>sf<|mh (MW d.units) (Ph d.units (jX 1)<|jX 0) kg) λ_ _ _ _=>rP<|j3 (jX 0)<|j3 (Ph d.units (jX 1)<|jX 0) kc)
def zN:FnScope IJ II (j_ Ij):=sS rfl rfl rfl ∅
def VG(F:Fun K "plus" "plus" Ij f fd)(J:mg "dict" = none)(U:rV P w K mg base 1 "as_polynomial" oU l9):FnOk P w K mg base t8 2 f fd II (uN K 2 BN):=yZ (m:=Ie) F zN λcdv B outer s H E d=>
 j9 (k8 (i:=2) zN.nd<|nB (Lj rfl) J Jz<|j3 (jX 0) kc)
 (j9 (nP d_ rfl (nS<|jX 1) (pO rfl<|kQ (kJ (i:=3) zN.nd)<|kQ (kJ (i:=4) zN.nd) nO)
 (j7<|uH (kD pG (Ho dw gr (Hz d.units) (jX 2)<|j3 (jX 3)<|j3 kg kc)<|jX 4)<|LD d.units (jX 2)<|jX 3))
 (j7<|kN<|Bb U d<|jX 2))
def tW:FnScope EA zX (j_ Dl):=sS rfl rfl rfl ∅
def SK(F:Fun K "times" "times" Dl f fd)(J:rV P w K mg base 1 "as_polynomial" oU l9):FnOk P w K mg base t8 2 f fd zX (uN K 2 uq):=yZ (m:=D7) F tW λcdv B outer s H E d=>
 j9 (k8 (i:=2) tW.nd Rx)
 (j9 (nP d_ rfl (nS<|jX 0) (pO rfl<|kQ (kJ (i:=3) tW.nd)<|kQ (kJ (i:=4) tW.nd) nO)
 (j7 (nP d_ rfl (nS<|jX 1) (pO rfl<|kQ (kJ (i:=5) tW.nd)<|kQ (kJ (i:=6) tW.nd) nO)
 (j7<|uH (kD pG (Ho dw gr (Hz d.units) (jX 2)<|j3 (kD pG (jX 3)<|jX 5)<|j3 kg kc)<|kD X6 (jX 4)<|jX 6)<|LD d.units (jX 2)<|kD pG (jX 3)<|jX 5))))
 (j7<|kN<|Bb J d<|jX 2))
def B4:FnScope uA pT (j_ uy):=sS rfl rfl rfl ∅
def Cc(F:Fun K "put_before" "put_before" uy f fd)(J:rV P w K mg base 2 "plus" II BN):FnOk P w K mg base t8 3 f fd pT (uN K 3 lH):=yZ (m:=uE) F B4 λcdv B outer s H E d=>
 j7 (uH (Ub J d (XW dw gr (acD d.units) (jX 0)<|j3 (jX 1)<|j3 (nN kc) kc)<|jX 2)<|zH d.units (jX 0)<|jX 1)
def Mm:FnScope AJ vH (j_ Be):=sS rfl rfl rfl ∅
def MP(F:Fun K "as_sum" "as_sum" Be f fd)(J:mg "sorted" = none):FnOk P w K mg base t8 1 f fd vH (uN K 1 pN):=yZ (m:=Ba) F Mm λcdv B outer s H E d=>
 j7 (kN<|rZ (N:=["order", "found"]) (cap:=[none,some 0]) rfl (wL ["found"]) (nS<|kC (Vp rfl) J v_<|j3 (jX 0) kc) (λ_ _ _ _=>kJ (i:=0) (show(["order", "found"]:ar).Nodup by decide +kernel)) (λ_ _ _ _=>sf<|qA<|Ec d.units (jX 1)<|jX 0) λ_ _ _ _=>rP<|j3 (jX 0)<|j3 (Ec d.units (jX 1)<|jX 0) kc)
def EU:FnScope uX u_ (j_ vh):=sS rfl rfl rfl ∅
def D4(F:Fun K "need_like" "need_like" vh f fd)(J:yp P w K mg base 1 "need_pair" qm mL):FnOk P w K mg base (xN P w) 2 f fd u_ (Ck K 2 qy):=fnX (m:=vE) F EU λcdv B outer s H E d=>
 j7 (ow (AW.at<|P6 (qA<|jX 0)<|JS<|qA<|jX 1)
 (j7<|oQ<|Ug J d (lZ (lZ (jX 0) kg) kg)<|lZ (lZ (jX 1) kg) kg)
 lK)
def xU:FnScope ED Dk (j_ EC):=sS rfl rfl rfl ∅
def PJ(F:Fun K "added" "added" EC f fd)(J:yp P w K mg base 2 "need_like" u_ qy)(U:rV P w K mg base 3 "put_before" pT lH)(Z:rV P w K mg base 1 "as_sum" vH pN):FnOk P w K mg base (xN P w) 4 f fd Dk (Ck K 2 uh):=fnX (m:=Dy) F xU λcdv B outer s H E d=>
 j9 (oQ<|Ug J d (jX 0)<|jX 1)
 (j9 (k8 (i:=2) xU.nd z9)
 (j9 (nP cU rfl (nS<|kD pG (jX 0)<|jX 1) (pO rfl<|kQ (kJ (i:=3) xU.nd)<|kQ (kJ (i:=4) xU.nd) nO)
 (j7<|oQ<|fn3 U d (jX 2) (jX 3)<|jX 4))
 (j7<|kN<|Bb Z d<|jX 2)))
def vU:FnScope BZ Aq (j_ AB):=sS rfl rfl rfl ∅
def Nt(F:Fun K "scaled" "scaled" AB f fd)(J:rV P w K mg base 3 "put_before" pT lH)(U:rV P w K mg base 2 "times" zX uq)(Z:rV P w K mg base 1 "as_sum" vH pN):FnOk P w K mg base t8 4 f fd Aq (uN K 2 rA):=yZ (m:=BO) F vU λcdv B outer s H E d=>
 j9 (k8 (i:=2) vU.nd z9)
 (j9 (nP d_ rfl (nS<|jX 1) (pO rfl<|kQ (kJ (i:=3) vU.nd)<|kQ (kJ (i:=4) vU.nd) nO)
 (j7<|oQ<|fn3 J d (jX 2) (jX 3)<|Ub U d (jX 0)<|jX 4))
 (j7<|kN<|Bb Z d<|jX 2))
def pL:FnScope sU s_ (j_ tR):=sS rfl rfl rfl ∅
def A3(F:Fun K "by_exchange" "by_exchange" tR f fd)(Z:mg "list" = none)(J:∃a,mg "AT_A_FALL" = some (.ref a)/\klP K a=some [((-1:Int),(1:Int)),((1:Int),(-1:Int))])(U:rV P w K mg base 3 "put_before" pT lH)(abF:yp P w K mg base 3 "exchanged" sj nQ)(aaO:rV P w K mg base 1 "falls" wA qa)(abt:rV P w K mg base 2 "times" zX uq)(aa0:rV P w K mg base 1 "as_sum" vH pN):FnOk P w K mg base (xN P w) 4 f fd s_ (Ck K 2 nI):=fnX (m:=sP) F pL λcdv B outer s H E d=>
 j9 (k8 (i:=2) pL.nd z9)
 (j9 (nP cU rfl (nS<|jX 0) (pO rfl<|kQ (kJ (i:=3) pL.nd)<|kQ (kJ (i:=4) pL.nd) nO)
 (j9 (oQ<|fn3 U d (jX 2) (Ug abF d (jX 3)<|jX 1)<|jX 4)
 (j7 (ow (mh (acB d.units) (jX 1)<|Bb aaO d<|jX 3)
 (j7<|oQ<|fn3 U d (jX 2) (jX 3)<|Ub abt d (nB (HD rfl) Z DQ<|j3 (Om J.choose_spec.1 J.choose_spec.2) kc)<|jX 4)
 lK))))
 (j7<|kN<|Bb aa0 d<|jX 2))
def E_:FnScope uf w9 (j_ xq):=sS rfl rfl rfl ∅
def Gm(F:Fun K "need_few" "need_few" xq f fd)(J:ExcK K U "TooMany" av)(Z:mg "len" = none)(acW:∃t,mg "MOST_THINGS_kept" = some (.int 5 t)):FnOk P w K mg base (xN P w) 1 f fd w9 (Ck K 1 o8):=fnX (m:=uD) F E_ λcdv B outer s H E d=>
 j7 (ow (mh (BW d.units) (kC nE Z l7<|j3 (jX 0) kc)<|uW acW.choose_spec)
 (j7<|wc (ps:=[.inl "no kept sums of ",.inr<|kK (f1 nM)<|jY (jZ 0) ki,.inl " things"]) J.n J.q d.hd<|.txt<|.val (kC nE Z l7<|j3 (jX 0) kc)<|.txt .nil)
 lK)
def yE:FnScope qF qD (j_ qH):=sS rfl rfl rfl ∅
def yx(F:Fun K "number_at_one" "number_at_one" qH f fd)(J:mg "dict" = none):FnOk P w K mg base t8 1 f fd qD (uN K 1 nG):=yZ (m:=qC) F yE λcdv B outer s H E d=>
 j7 (kN<|Ho dw gr (Hz d.units) (nB (Lj rfl) J Jz<|j3 (jX 0) kc)<|j3 kg<|j3 kg kc)
def l8:FnScope lQ nZ (j_ rz):=sS rfl rfl rfl ∅
def zD{Fs:ae->j5->R A}(F:Fun K "kept_by_fall" "kept_by_fall" rz f fd)(abF:yp P w K mg base 3 "exchanged" sj nQ)(J:yp P w K mg base 4 "added" Dk uh)(U:rV P w K mg base 4 "scaled" Aq rA)(acX:yp P w K mg base 4 "by_exchange" s_ nI)(acY:rV P w K mg base 1 "number_at_one" qD nG)(aaO:rV P w K mg base 1 "falls" wA qa)(Z:yp P w K mg base (5+2 * kr) "found_kept" mP Fs):FnOk P w K mg base (xN P w) (5+2 * kr+1) f fd nZ (Ck K 3<|lI lQ<|lR Fs):=fnX (m:=lR Fs) F l8 λcdv B outer s H E d=>
 j9 (k8 (i:=3) l8.nd<|sI Z (d.mono ()) (j3 (sI abF (d.mono ()) (j3 (jX 0)<|j3 (jX 1) kc)<|kB<|kB l5)<|j3 (jX 2) kc)<|kB<|kB l5)
 (j9 (k8 (i:=4) l8.nd<|sI J (d.mono ()) (j3 (sI acX (d.mono ()) (j3 (jX 3)<|j3 (jX 1) kc)<|kB<|kB l5)<|j3 (zm U (d.mono ()) (j3 (nN<|j3 (rP<|j3 kg<|j3 kg kc) kc)<|j3 (jX 3) kc)<|kB<|kB l5) kc)<|kB<|kB l5)
 (j9 (nP cU rfl (nS<|jX 3) (pO rfl<|kQ (kJ (i:=5) l8.nd)<|kQ (kJ (i:=6) l8.nd) nO)
 (j9 (k8 (i:=7) l8.nd<|zm acY (d.mono ()) (j3 (jX 6) kc)<|kB l5)
 (j7 (ow (AW.at<|P6 (mh (MW d.units) (jX 7) kg)<|JS<|mh (acB d.units) (jX 1)<|zm aaO (d.mono ()) (j3 (jX 5) kc)<|kB l5)
 (j7<|k8 (i:=4) l8.nd<|sI J (d.mono ()) (j3 (jX 4)<|j3 (zm U (d.mono ()) (j3 (nN<|j3 (rP<|j3 kg<|j3 (Zx<|jX 7) kc) kc)<|j3 (sI Z (d.mono ()) (j3 (jX 5)<|j3 (jX 2) kc)<|kB<|kB l5) kc)<|kB<|kB l5) kc)<|kB<|kB l5)
 lK))))
 (j7<|kN<|jX 4)))
def wQ:FnScope pS mP (j_ qS):=sS rfl rfl rfl ∅
def B6{Fs:ae->j5->R A}(F:Fun K "found_kept" "found_kept" qS f fd)(J:rV P w K mg base 1 "falls" wA qa)(U:yp P w K mg base (5+2 * kr+1) "kept_by_fall" nZ<|lI lQ<|lR Fs):FnOk P w K mg base (xN P w) (5+2 * kr+2) f fd mP (Ck K 2<|lI pS<|pM Fs):=fnX (m:=pM Fs) F wQ λcdv B outer s H E d=>
 j9 (ow (mh (Gs d.units) (jX 0)<|jX 1)
 (j9 (k8 (i:=2) wQ.nd<|zm J (d.mono ()) (j3 (jX 0) kc)<|kB l5)
 (j7 (ow (qA<|jX 2)
 (j7<|uH (sI U (d.mono ()) (j3 (jX 0)<|j3 (lZ (jX 2) kg)<|j3 (jX 1) kc)<|kB<|kB<|kB l5)<|zH d.units (jX 1)<|jX 0)
 (j7<|uH (nN<|j3 (rP<|j3 (jX 0)<|j3 (nN<|j3 (rP<|j3 kg<|j3 kg kc) kc) kc) kc)<|zH d.units (jX 1)<|jX 0))))
 lK)
 (j7<|kN<|Ec d.units (jX 1)<|jX 0)
theorem vM(F:Fun K "found_kept" "found_kept" qS f fd)(U:rV P w K mg base 1 "falls" wA qa)(J:∀{Fs:ae->j5->R A} {kr:Nat},yp P w K mg base (5+2 * kr) "found_kept" mP Fs->yp P w K mg base (5+2 * kr+1) "kept_by_fall" nZ (lI lQ<|lR Fs))(Z:mg "found_kept" = some (.ref f))(hk:keepIn K (.ref f)=true)(hb:Binds K fd mP []):∀kr,FnOk P w K mg base (xN P w) (5+2 * kr) f fd mP (Ck K 2<|nJ kr)
 | 0=>Zv rfl
 | kr+1=>B6 F U<|J ⟨f,fd,vM F U J Z hk hb kr,Z,hk,hb⟩
def Hg:FnScope uw wX (j_ xh):=sS rfl rfl rfl ∅
def G_(F:Fun K "kept_sum" "kept_sum" xh f fd)(J:yp P w K mg base 1 "need_few" w9 o8)(U:yp P w K mg base 21 "found_kept" mP uL):FnOk P w K mg base (xN P w) 22 f fd wX (Ck K 1 pC):=fnX (m:=uI) F Hg λcdv B outer s H E d=>
 j9 (oQ<|fx1 J d<|jX 0)
 (j7<|kN<|Ug U d (jX 0) z9)
def BR:FnScope zL DC (j_ D5):=sS rfl rfl rfl ∅
def Ry(F:Fun K "count" "count" D5 f fd)(Z:ExcK K U "TooMany" av)(J:mg "len" = none)(adh:∃t,mg "MOST_THINGS_counts" = some (.int 6 t))(aaM:rV P w K mg base 3 "length" uY nH)(adi:yp P w K mg base 5 "between" yu qY)(adk:rV P w K mg base 1 "plain_order" tU oK):FnOk P w K mg base (xN P w) 6 f fd DC (Ck K 1 uC):=fnX (m:=Ad) F BR λcdv B outer s H E d=>
 j9 (ow (mh (BW d.units) (kC nE J l7<|j3 (jX 0) kc)<|uW adh.choose_spec)
 (j7<|wc (ps:=[.inl "orders below are not counted for ",.inr<|kK (f1 nM)<|jY (jZ 0) ki,.inl " things"]) Z.n Z.q d.hd<|.txt<|.val (kC nE J l7<|j3 (jX 0) kc)<|.txt .nil)
 lK)
 (j9 (k8 (i:=1) BR.nd<|kD zx (nN<|j3 kg kc)<|kD pG (Bb aaM d<|jX 0) kg)
 (j9 (nP cU rfl (nS<|Ug adi d (Bb adk d<|kC nE J l7<|j3 (jX 0) kc)<|jX 0) (kJ (i:=2) BR.nd)
 (j7<|Ah (jX 1) (Bb aaM d<|jX 2) kg zY))
 (j7<|kN<|jX 1)))
def nh:FnScope vW yM (j_ yH):=sS rfl rfl rfl ∅
def IP(F:Fun K "weighed" "weighed" yH f fd)(U:yp P w K mg base 22 "kept_sum" wX pC)(J:rV P w K mg base 3 "length" uY nH):FnOk P w K mg base (xN P w) 23 f fd yM (Ck K 1 p7):=fnX (m:=wm) F nh λcdv B outer s H E d=>
 j9 (k8 (i:=1) nh.nd<|fx1 U d<|jX 0)
 (j9 (k8 (i:=2) nh.nd<|Bb J d<|jX 0)
 (j9 (k8 (i:=3) nh.nd<|kD zx (nN<|j3 kg kc)<|kD pG (jX 2) kg)
 (j9 (nP cU rfl (nS<|jX 1) (pO rfl<|kQ (kJ (i:=4) nh.nd)<|kQ (kJ (i:=5) nh.nd) nO)
 (j9 (k8 (i:=6) nh.nd<|kD pG (Bb J d<|jX 4)<|jX 2)
 (j7 (nP cU rfl (nS<|jX 5) (pO rfl<|kQ (kJ (i:=7) nh.nd)<|kQ (kJ (i:=8) nh.nd) nO)
 (j7<|Ah (jX 3) (kD IM (kD qj (jX 6)<|jX 7) kg) (jX 8) zY)))))
 (j7<|kN<|jX 3))))
def GD:FnScope wW wY (j_ xE):=sS rfl rfl rfl ∅
def GO(F:Fun K "_law_cell" "_law_cell" xE f fd)(J:mg "len" = none):FnOk P w K mg base t8 1 f fd wY (uN K 2 rm):=yZ (m:=wZ) F GD λcdv B outer s H E d=>
 j9 (ow (mh (Nc d.units) (jX 1)<|kC nE J l7<|j3 (jX 0) kc)
 (j7<|kN<|lZ (jX 0)<|jX 1)
 lK)
 (j7<|kN kg)
def w6:FnScope yI yV (j_ yY):=sS rfl rfl rfl ∅
def Hl(F:Fun K "_law_bag" "_law_bag" yY f fd)(J:mg "abs" = none):FnOk P w K mg base t8 1 f fd yV (uN K 2 tZ):=yZ (m:=yt) F w6 λcdv B outer s H E d=>
 j9 (k8 (i:=2) w6.nd<|kC abr J ZM<|j3 (jX 0) kc)
 (j9 (ow (mh (Nc d.units) (jX 2)<|kD ab8 kg kg)
 (j7<|k8 (i:=2) w6.nd kg)
 lK)
 (j7<|kN<|nN<|j3 (jX 2)<|j3 (kD CB (kD pG (kD pG (kD zx (kD CB (jX 0) kg) kg)<|kD zx kg<|jX 1) kg) kg) kc))
def Ej:FnScope uT vB (j_ vA):=sS rfl rfl rfl ∅
def ES(F:Fun K "_law_mixed" "_law_mixed" vA f fd):FnOk P w K mg base t8 1 f fd vB (uN K 1 pH):=yZ (m:=uQ) F Ej λcdv B outer s H E d=>
 j9 (uH (kD CB (kD pG (kD zx (lZ (jX 0) kg) kg) kg) kg)<|D9 (jX 0) kg)
 (j7<|kN<|kD IM (kD CB (kD zx (lZ (jX 0) kg) kg) kg) kg)
def pQ:FnScope se sq (j_ vK):=sS rfl rfl rfl ∅
def Dz(F:Fun K "_law_digit" "_law_digit" vK f fd)(U:mg "range" = none)(J:rV P w K mg base 1 "_law_mixed" vB pH):FnOk P w K mg base t8 2 f fd sq (uN K 2 mE):=yZ (m:=r_) F pQ λcdv B outer s H E d=>
 j9 (ow (mh (BW d.units) (lZ (jX 0) kg) kg)
 (j9 (k8 (i:=2) pQ.nd<|kD CB (lZ (jX 0) kg)<|jX 1)
 (j9 (uH (kD IM (lZ (jX 0) kg)<|jX 1)<|D9 (jX 0) kg)
 (j7<|kN<|jX 2)))
 lK)
 (j9 (k8 (i:=2) pQ.nd<|Bb J d<|jX 0)
 (j9 (ow (mh (BW d.units) (jX 1) kg)
 (j7 (nP d_ rfl (qW U kg) (kJ (i:=3) pQ.nd)
 (j7<|k8 (i:=2) pQ.nd<|kD pG (kD zx (jX 2) kg)<|Bb J d<|jX 0)))
 lK)
 (j7<|kN<|kD CB (jX 2)<|jX 1)))
def qQ:FnScope vq vC (j_ uZ):=sS rfl rfl rfl ∅
def Dj(F:Fun K "_law_order" "_law_order" uZ f fd)(U:mg "list" = none)(J:mg "range" = none)(Z:mg "len" = none)(aaQ:mg "tuple" = none)(abH:rV P w K mg base 2 "_law_digit" sq mE):FnOk P w K mg base t8 3 f fd vC (uN K 2 qv):=yZ (m:=vG) F qQ λcdv B outer s H E d=>
 j9 (k8 (i:=2) qQ.nd<|nB (HD rfl) U DQ<|j3 (nB Gu J F7<|j3 kg<|j3 (kD pG (jX 1) kg) kc) kc)
 (j9 (k8 (i:=3) qQ.nd<|nN kc)
 (j9 (nP d_ rfl (qW J<|jX 1) (kJ (i:=4) qQ.nd)
 (j7<|oQ<|QI PySem.F.slot_list_append PySem.F.type_list_append Fj (jX 3)<|j3 (QI PySem.F.slot_list_pop PySem.F.type_list_pop VZ (jX 2)<|j3 (Ub abH d (jX 0)<|kC nE Z l7<|j3 (jX 2) kc) kc) kc))
 (j7<|kN<|nB (DO rfl) aaQ Av<|j3 (jX 3) kc)))
def nX:FnScope sG qh (j_ tM):=sS rfl rfl rfl ∅
def BG(F:Fun K "_law_word_of" "_law_word_of" tM f fd)(J:ExcK K U "TooMany" av)(Z:ExcK K U "NoWord" aD)(aaG:ExcK K U "NoPair" az)(adw:mg "TooMany" = some (.ref av))(adH:mg "NoPair" = some (.ref az))(adL:mg "NoNumber" = some (.ref ck))(adR:mg "NoWord" = some (.ref aD))(adU:mg "NoName" = some (.ref er))(adW:mg "NoRow" = some (.ref g7))(adY:mg "NoText" = some (.ref eu))(ad0:mg "NoTables" = some (.ref ef))(fy:kitOne K (.ref av) (.ref av)=some true)(gi:kitOne K (.ref aD) (.ref av)=some false)(gj:kitOne K (.ref az) (.ref av)=some false)(gm:kitOne K (.ref av) (.ref az)=some false)(g8:kitOne K (.ref aD) (.ref az)=some false)(g9:kitOne K (.ref az) (.ref az)=some true)(eH:kitOne K (.ref av) (.ref ck)=some false)(fD:kitOne K (.ref aD) (.ref ck)=some false)(fT:kitOne K (.ref az) (.ref ck)=some false)(gn:kitOne K (.ref av) (.ref aD)=some false)(ic:kitOne K (.ref aD) (.ref aD)=some true)(i8:kitOne K (.ref az) (.ref aD)=some false)(gx:kitOne K (.ref av) (.ref er)=some false)(j0:kitOne K (.ref aD) (.ref er)=some false)(kE:kitOne K (.ref az) (.ref er)=some false)(kT:kitOne K (.ref av) (.ref g7)=some false)(lz:kitOne K (.ref aD) (.ref g7)=some false)(lF:kitOne K (.ref az) (.ref g7)=some false)(gy:kitOne K (.ref av) (.ref eu)=some false)(k7:kitOne K (.ref aD) (.ref eu)=some false)(lu:kitOne K (.ref az) (.ref eu)=some false)(fk:kitOne K (.ref av) (.ref ef)=some false)(fU:kitOne K (.ref aD) (.ref ef)=some false)(gg:kitOne K (.ref az) (.ref ef)=some false)(aaL:mg "isinstance" = none)(aaK:mg "range" = none)(ad_:mg "ValueError" = none)(aae:mg "len" = none):FnOkH P w K mg base 1 f fd qh (uN K 1 mS):=fnH (m:=sO) F nX λcdv B outer s H e oe C g j h0 d=>
 j9 (k8 (i:=1) nX.nd<|nN<|j3 (u7 adR (tb:=[("NoPair",false),("NoWord",true),("TooMany",false)]) (aZ.mpr ⟨⟨_,aaG.n,aaG.x,aaG.cl,i8⟩,(aZ.mpr ⟨⟨_,Z.n,Z.x,Z.cl,ic⟩,(aZ.mpr ⟨⟨_,J.n,J.x,J.cl,gn⟩,(nofun)⟩)⟩)⟩) (jX 0) aaL)<|j3 (u7 adL (tb:=[("NoPair",false),("NoWord",false),("TooMany",false)]) (aZ.mpr ⟨⟨_,aaG.n,aaG.x,aaG.cl,fT⟩,(aZ.mpr ⟨⟨_,Z.n,Z.x,Z.cl,fD⟩,(aZ.mpr ⟨⟨_,J.n,J.x,J.cl,eH⟩,(nofun)⟩)⟩)⟩) (jX 0) aaL)<|j3 (u7 adH (tb:=[("NoPair",true),("NoWord",false),("TooMany",false)]) (aZ.mpr ⟨⟨_,aaG.n,aaG.x,aaG.cl,g9⟩,(aZ.mpr ⟨⟨_,Z.n,Z.x,Z.cl,g8⟩,(aZ.mpr ⟨⟨_,J.n,J.x,J.cl,gm⟩,(nofun)⟩)⟩)⟩) (jX 0) aaL)<|j3 (u7 adw (tb:=[("NoPair",false),("NoWord",false),("TooMany",true)]) (aZ.mpr ⟨⟨_,aaG.n,aaG.x,aaG.cl,gj⟩,(aZ.mpr ⟨⟨_,Z.n,Z.x,Z.cl,gi⟩,(aZ.mpr ⟨⟨_,J.n,J.x,J.cl,fy⟩,(nofun)⟩)⟩)⟩) (jX 0) aaL) kc)
 (j9 (k8 (i:=1) nX.nd<|kD pG (jX 1)<|nN<|j3 (u7 ad0 (tb:=[("NoPair",false),("NoWord",false),("TooMany",false)]) (aZ.mpr ⟨⟨_,aaG.n,aaG.x,aaG.cl,gg⟩,(aZ.mpr ⟨⟨_,Z.n,Z.x,Z.cl,fU⟩,(aZ.mpr ⟨⟨_,J.n,J.x,J.cl,fk⟩,(nofun)⟩)⟩)⟩) (jX 0) aaL)<|j3 (u7 adY (tb:=[("NoPair",false),("NoWord",false),("TooMany",false)]) (aZ.mpr ⟨⟨_,aaG.n,aaG.x,aaG.cl,lu⟩,(aZ.mpr ⟨⟨_,Z.n,Z.x,Z.cl,k7⟩,(aZ.mpr ⟨⟨_,J.n,J.x,J.cl,gy⟩,(nofun)⟩)⟩)⟩) (jX 0) aaL)<|j3 (u7 adW (tb:=[("NoPair",false),("NoWord",false),("TooMany",false)]) (aZ.mpr ⟨⟨_,aaG.n,aaG.x,aaG.cl,lF⟩,(aZ.mpr ⟨⟨_,Z.n,Z.x,Z.cl,lz⟩,(aZ.mpr ⟨⟨_,J.n,J.x,J.cl,kT⟩,(nofun)⟩)⟩)⟩) (jX 0) aaL)<|j3 (u7 adU (tb:=[("NoPair",false),("NoWord",false),("TooMany",false)]) (aZ.mpr ⟨⟨_,aaG.n,aaG.x,aaG.cl,kE⟩,(aZ.mpr ⟨⟨_,Z.n,Z.x,Z.cl,j0⟩,(aZ.mpr ⟨⟨_,J.n,J.x,J.cl,gx⟩,(nofun)⟩)⟩)⟩) (jX 0) aaL) kc)
 (j9 (k8 (i:=2) nX.nd<|nN<|j3 rO<|j3 rO<|j3 rO<|j3 rO<|j3 rO<|j3 rO<|j3 rO<|j3 rO kc)
 (j9 (Qp (i:=3) (N:=["_law_k", "_law_words", "_law_named"]) (cap:=[none,some 2,some 1]) nX.nd j h0 (wL ["_law_words", "_law_named"]) (MG d aaK kg) (λ_ _ _ _=>kJ (i:=0) (show(["_law_k", "_law_words", "_law_named"]:ar).Nodup by decide +kernel)) (λ_ _ _ _=>sf<|qA<|lZ (jX 2)<|jX 0) λ_ _ _ _=>lZ (jX 1)<|jX 0)
 (j9 (ow (AW.at<|XD (mh (MW g.units) (kC nE aae l7<|j3 (jX 3) kc) kg)<|PV<|IA<|qA<|Yd ad_ (tb:=[("NoPair",true),("NoWord",true),("TooMany",true)]) (aZ.mpr ⟨⟨_,aaG.n,aaG.x,aaG.cl,aaG.v⟩,(aZ.mpr ⟨⟨_,Z.n,Z.x,Z.cl,Z.v⟩,(aZ.mpr ⟨⟨_,J.n,J.x,J.cl,J.v⟩,(nofun)⟩)⟩)⟩) (jX 0) aaL)
 (j7<|kN rO)
 lK)
 (j7<|kN<|lZ (jX 3) kg)))))
def pP:FnScope p_ p9 (j_ pZ):=sS rfl rfl rfl ∅
def yf(F:Fun K "_law_count_said" "_law_count_said" pZ f fd)(hU:GZ K "UnderError" U)(mU:L2.mroIn K U=some VE)(J:ExcK K U "TooMany" av)(Z:ExcK K U "NoWord" aD)(aaG:ExcK K U "NoPair" az)(aea:yp P w K mg base 6 "count" DC uC)(ab5:Ut P w K mg base 1 "_law_word_of" qh mS):FnOk P w K mg base t8 7 f fd p9 (uN K 1 m5):=yZ (m:=p6) F pP λcdv B outer s H E d=>
 j9 (by(refine Rg (i:=2) (cs:=["NoPair", "NoWord", "TooMany"]) ?hb ?hh pP.nd hU mU<|aZ.mpr ⟨⟨_,aaG.n,aaG.r⟩,(aZ.mpr ⟨⟨_,Z.n,Z.r⟩,(aZ.mpr ⟨⟨_,J.n,J.r⟩,(nofun)⟩)⟩)⟩;(case hb=>exact(λ_ _=>j7<|k8 (i:=1) pP.nd<|fx1 aea d<|jX 0));(case hh=>exact(λ_ _ _ _ g=>j7<|kN<|PZ ab5 (CP d ⋯) rfl kP g (j3 (jX 2) kc)<|kB l5))))
 (j7<|kN<|lZ (jX 1) kg)
def oB:FnScope o_ oY (j_ oX):=sS rfl rfl rfl ∅
def wI(F:Fun K "_law_weighed_said" "_law_weighed_said" oX f fd)(hU:GZ K "UnderError" U)(mU:L2.mroIn K U=some VE)(J:ExcK K U "TooMany" av)(Z:ExcK K U "NoWord" aD)(aaG:ExcK K U "NoPair" az)(aeb:yp P w K mg base 23 "weighed" yM p7)(ab5:Ut P w K mg base 1 "_law_word_of" qh mS):FnOk P w K mg base t8 24 f fd oY (uN K 1 mH):=yZ (m:=pB) F oB λcdv B outer s H E d=>
 j9 (by(refine Rg (i:=2) (cs:=["NoPair", "NoWord", "TooMany"]) ?hb ?hh oB.nd hU mU<|aZ.mpr ⟨⟨_,aaG.n,aaG.r⟩,(aZ.mpr ⟨⟨_,Z.n,Z.r⟩,(aZ.mpr ⟨⟨_,J.n,J.r⟩,(nofun)⟩)⟩)⟩;(case hb=>exact(λ_ _=>j7<|k8 (i:=1) oB.nd<|fx1 aeb d<|jX 0));(case hh=>exact(λ_ _ _ _ g=>j7<|kN<|PZ ab5 (CP d ⋯) rfl kP g (j3 (jX 2) kc)<|kB l5))))
 (j7<|kN<|lZ (jX 1) kg)
def EZ:FnScope Qg WO (j_ Oi):=sS rfl rfl rfl ∅
set_option smartUnfolding false in
theorem ZU(F:Fun K "law" "law" Oi f fd)(Z:mg "range" = none)(aaS:mg "max" = none)(abm:mg "min" = none)(J:mg "len" = none)(U:mg "int" = none)(aec:rV P w K mg base 1 "_law_bag" yV tZ)(aed:rV P w K mg base 1 "_law_cell" wY rm)(aee:rV P w K mg base 3 "_law_order" vC qv)(abH:rV P w K mg base 2 "_law_digit" sq mE)(aef:rV P w K mg base 7 "_law_count_said" p9 m5)(aeg:rV P w K mg base 24 "_law_weighed_said" oY mH):FnOk P w K mg base t8 25 f fd WO (uN K 1 CD):=yZ (m:=Ri) F EZ λcdv B outer s H E d=>
 j9 (nP d_ rfl (qW Z<|kC (RW rfl) aaS Jb<|j3 kg<|j3 (kC (OJ rfl) abm RV<|j3 (kC nE J l7<|j3 (jX 0) kc)<|j3 kg kc) kc) (kJ (i:=1) EZ.nd)
 (j9 (k8 (i:=2) EZ.nd<|Ub aec d (Ub aed d (jX 0)<|jX 1)<|kD pG kg<|jX 1)
 (j9 (k8 (i:=3) EZ.nd<|Ub aee d (jX 2)<|lZ (nN<|j3 kg<|j3 kg<|j3 kg<|j3 kg<|j3 kg<|j3 kg<|j3 kg<|j3 kg kc)<|Ub abH d (jX 2) kg)
 (j9 (ow (mh (MW d.units) (Bb aef d<|jX 3)<|lZ (nN<|j3 kg<|j3 rO kc)<|nB PU U Iw<|j3 (IF (BW d.units) (kC nE J l7<|j3 (jX 3) kc) kg) kc)
 (j7<|kN Lu)
 lK)
 (j7 (ow (mh (MW d.units) (Bb aeg d<|jX 3)<|lZ (nN<|j3 kg<|j3 rO kc)<|nB PU U Iw<|j3 (IF (BW d.units) (kC nE J l7<|j3 (jX 3) kc) kg) kc)
 (j7<|kN Lu)
 lK))))))
 (j7<|kN Lu)
end
end K54
namespace Po
open Am
meta abbrev Pl:=List<|Int×Int
abbrev val (d:Pl)(k:Int):Int:=((d.find? λp=>decide<|p.1=k).map (·.2)).getD 0
abbrev has (d:Pl)(k:Int):Bool:=d.any λp=>decide<|p.1=k
abbrev put (d:Pl)(k v:Int):Pl:=if has d k=true then d.map (λp=>if p.1=k then(p.1,v)else p)else d++[(k,v)]
abbrev acc (d:Pl)(k v:Int):Pl:=put d k<|val d k+v
abbrev cf:Pl->Int->Int
 | [],_=>0
 | p::l,k=>(if p.1=k then p.2 else 0)+cf l k
def qw{p:Int×Int}{k:Int}:val (p::d) k=if p.1=k then p.2 else val d k:=by
 unfold val;rw[cO];by_cases h:p.1=k
 ·rw[aX h,aO h];rfl
 ·rw[bw h,aM h]
def A6{p:Int×Int}{k:Int}:has (p::d) k=(decide (p.1=k) || has d k):=rfl
def yk{d:Pl}{k:Int}:has d k=true ↔ k∈d.map Prod.fst:=by
 unfold has;rw[fW,bC];constructor
 ·rintro⟨p,h1,h2⟩;exact⟨p,h1,bJ h2⟩
 ·rintro⟨p,h1,h2⟩;exact⟨p,h1,aX h2⟩
def Og{k:Int}(h:has d k=false):val d k=0:=by
 induction d with
 | nil=>rfl
 | cons p d f=>
  rw[A6,ja]at h;rw[qw,aM<|eO h.1,f h.2]
def V0{k v j:Int}(h:has d k=false):val (d++[(k,v)]) j=if j=k then v else val d j:=by
 induction d with
 | nil=>
  show val [(k,v)] j=_;rw[qw];by_cases c:k=j
  ·rw[aO c,aO c.symm]
  ·rw[aM c,aM λz=>c z.symm]
 | cons p d f=>
  rw[A6,ja]at h;have:=eO h.1;rw[jI,qw,qw,f h.2];by_cases c:p.1=j
  ·rw[aO c,aO c,aM λz=>this<|c.trans z]
  ·rw[aM c,aM c]
def Vn{d:Pl}{k v j:Int}:val (d.map λp=>if p.1=k then(p.1,v)else p) j=if j=k/\has d k=true then v else val d j:=by
 induction d with
 | nil=>
  rw[aM λz=>by cases z.2];rfl
 | cons p d f=>
  rw[bL,qw,qw,f,A6];by_cases c:p.1=k
  ·rw[aO c,aX c,Bool.true_or];by_cases e:j=k
   ·rw[aO<|show p.1=j by lia,aO ⟨e,rfl⟩]
   ·rw[aM<|show ¬p.1=j by lia,aM λz=>e z.1,aM λz=>e z.1,aM<|show ¬p.1=j by lia]
  ·rw[aM c,bw c,jE];by_cases e:p.1=j
   ·rw[aO e,aO e,aM λz=>c<|e.trans z.1]
   ·rw[aM e,aM e]
def Wj{k v j:Int}:val (put d k v) j=if j=k then v else val d j:=by
 unfold put
 cases h:has d k with
 | true=>
  rw[aO rfl,Vn,h];by_cases c:j=k
  ·rw[aO ⟨c,rfl⟩,aO c]
  ·rw[aM λz=>c z.1,aM c]
 | false=>rw[aM<|by simp,V0 h]
def VF{k v j:Int}:val (acc d k v) j=val d j+if k=j then v else 0:=by
 unfold acc;rw[Wj];by_cases c:j=k
 ·subst c;rw[aO rfl,aO rfl]
 ·rw[aM c,aM λz=>c z.symm,gf]
def N5{d:Pl}{k v:Int}:(put d k v).map Prod.fst=if has d k=true then d.map Prod.fst else d.map Prod.fst++[k]:=by
 unfold put;split
 ·rw[bF];apply cM;intro p _;show(if p.1=k then(p.1,v)else p).1=p.1;split<;>rfl
 ·rw[bS];rfl
def aao{d:Pl}{k v:Int}(h:(d.map Prod.fst).Nodup):((put d k v).map Prod.fst).Nodup:=by
 rw[N5];split
 ·exact h
 ·rename_i c;rw[b8];refine⟨h,cR _ _,λa ha b hb z=>c ?_⟩;rw[bg]at hb;rw[yk,<- hb,<- z];exact ha
def UX{d:Pl}{k v:Int}:(put d k v).length<=d.length+1:=by
 unfold put;split
 ·rw[aK];lia
 ·rw[aV];exact aP _
abbrev Bd (c:Nat)(d:Pl):Prop:=∀p∈d,p.2.natAbs<=c
theorem Bd.val{c:Nat}(h:Bd c d)(k:Int):(val d k).natAbs<=c:=by
 induction d with
 | nil=>exact b7 _
 | cons p d g=>
  rw[qw];split
  ·exact h p (aR ..)
  ·exact g λq f=>h q<|aS _ f
abbrev rR (d ps:Pl):Pl:=ps.foldl (λd p=>acc d p.1 p.2) d
def Qn(d:Pl):rR d []=d:=rfl
def Bg(d ps J:Pl):rR d (ps++J)=rR (rR d ps) J:=by unfold rR;rw[d9]
def xX(ps:Pl):∀(d:Pl) (k:Int),val (rR d ps) k=val d k+cf ps k:=by
 induction ps with
 | nil=>intro d k;rw[Qn];show _=_+0;rw[gf]
 | cons p ps f=>
  intro d k;show val (rR (acc d p.1 p.2) ps) k=_;rw[f,VF];show _=_+(_+_);rw[i7]
def xO(ps:Pl):∀{d:Pl},(d.map Prod.fst).Nodup->((rR d ps).map Prod.fst).Nodup:=by
 induction ps with
 | nil=>intro d h;exact h
 | cons p ps f=>intro d h;exact f<|aao h
def rf(ps:Pl):∀(d:Pl),(rR d ps).length<=d.length+ps.length:=by
 induction ps with
 | nil=>intro d;exact aP _
 | cons p ps f=>
  intro d;have h1:=f<|acc d p.1 p.2;have h2:(acc d p.1 p.2).length<=d.length+1:=UX;show(rR (acc d p.1 p.2) ps).length<=_;rw[bH]
  lia
structure Ok (l:Pl):Prop where
 up:l.Pairwise λp q=>p.1<q.1
 nz:∀p∈l,p.2≠0
def Ok.tail{p:Int×Int}{l:Pl}(h:Ok (p::l)):Ok l:=⟨(bX.mp h.up).2,λq d=>h.nz q<|aS _ d⟩
def F2{l:Pl}{k:Int}(h:∀p∈l,k<p.1):cf l k=0:=by
 induction l with
 | nil=>rfl
 | cons p l f=>
  show(if p.1=k then p.2 else 0)+cf l k=0;have:=h p<|aR ..;rw[aM (),f λq d=>h q<|aS _ d];rfl
def Ok.head{p:Int×Int}{l:Pl}(h:Ok (p::l)):cf (p::l) p.1=p.2:=by
 show(if p.1=p.1 then p.2 else 0)+cf l p.1=p.2;rw[aO rfl,F2 (bX.mp h.up).1,gf]
def Ok.low{p:Int×Int}{l:Pl}(h:Ok (p::l)){k:Int}(J:k<p.1):cf (p::l) k=0:=F2 λq d=>by
 rcases bG.mp d with rfl|z
 ·exact J
 ·have:=(bX.mp h.up).1 q z;lia
theorem uniq:∀{l m:Pl},Ok l->Ok m->(∀k,cf l k=cf m k)->l=m
 | [],[],_,_,_=>rfl
 | [],q::m,_,h,e=>by
  have:=e q.1;rw[h.head]at this;exact absurd this.symm<|h.nz q<|aR ..
 | p::l,[],h,_,e=>by
  have:=e p.1;rw[h.head]at this;exact absurd this<|h.nz p<|aR ..
 | p::l,q::m,h,h',e=>by
  have f:=h.nz p<|aR ..;have d:=h'.nz q<|aR ..;have e1:p.1=q.1:=by
   rcases Int.lt_trichotomy p.1 q.1 with c|c|c
   ·have:=e p.1;rw[h.head,h'.low c]at this;exact absurd this f
   ·exact c
   ·have:=e q.1;rw[h'.head,h.low c]at this;exact absurd this.symm d
  have e2:p.2=q.2:=by
   have:=e p.1;rw[h.head,e1,h'.head]at this;exact this
  have e3:p=q:=Prod.ext e1 e2;subst e3;rw[uniq h.tail h'.tail λk=>by
   have:(if p.1=k then p.2 else 0)+cf l k=(if p.1=k then p.2 else 0)+cf m k:=e k
   lia]
abbrev LH (d:Pl):Pl:=((sortI<|d.map Prod.fst).filter λk=>val d k != 0).map λk=>(k,val d k)
def Uo{ks:ag}(h:ks.Nodup):(sortI ks).Pairwise (· < ·):=by
 have p:=xK ks;have n:(sortI ks).Nodup:=(sortI_perm ks).nodup_iff.mpr h;have:(sortI ks).Pairwise λa b=>a<=b/\a≠b:=p.and n;exact this.imp λ⟨a,b⟩=>()
def Ii{d:Pl}(h:(d.map Prod.fst).Nodup):Ok (LH d):=by
 refine⟨?_,λp hp=>?_⟩
 ·unfold LH;rw[cT];exact(Uo h).filter _
 ·obtain⟨k,f,rfl⟩:=bC.mp hp;have:=(bQ.mp f).2;simpa using this
theorem OE{k:Int}:∀{ks:ag},ks.Nodup->cf (ks.map λj=>(j,val d j)) k=if k∈ks then val d k else 0
 | [],_=>by rw[aM<|by simp];rfl
 | j::ks,h=>by
  obtain⟨h1,h2⟩:=dB.mp h;show(if j=k then val d j else 0)+cf (ks.map λj=>(j,val d j)) k=_;rw[OE h2];by_cases c:j=k
  ·subst c;rw[aO rfl,aM h1,aO<|aR ..,gf]
  ·rw[aM c,c_];by_cases e:k∈ks
   ·rw[aO e,aO<|aS _ e]
   ·rw[aM e,aM λz=>(bG.mp z).elim (λz=>c z.symm) e]
def DZ{d:Pl}(h:(d.map Prod.fst).Nodup)(k:Int):cf (LH d) k=val d k:=by
 unfold LH;rw[OE<|((sortI_perm _).nodup_iff.mpr h).filter _];split
 ·rfl
 ·rename_i c
  cases e:has d k with
  | false=>exact(Og e).symm
  | true=>
   by_cases z:val d k=0
   ·exact z.symm
   ·exact absurd (bQ.mpr ⟨(sortI_perm _).mem_iff.mpr<|yk.mp e,by simpa using z⟩) c
def ZS{d e:Pl}(h:(d.map Prod.fst).Nodup)(h':(e.map Prod.fst).Nodup)(hv:∀k,val d k=val e k):LH d=LH e:=
 uniq (Ii h) (Ii h') λk=>by rw[DZ h,DZ h',hv]
def Ok.nd{l:Pl}(h:Ok l):(l.map Prod.fst).Nodup:=by
 unfold List.Nodup;rw[cT];exact h.up.imp λa=>()
def Ow{l:Pl}(h:(l.map Prod.fst).Nodup)(k:Int):val l k=cf l k:=by
 induction l with
 | nil=>rfl
 | cons p l d=>
  obtain⟨h1,h2⟩:=dB.mp h;rw[qw];show _=(if p.1=k then p.2 else 0)+cf l k;rw[<- d h2];by_cases c:p.1=k
  ·have:has l k=false:=by
    cases e:has l k with
    | false=>rfl
    | true=>exact absurd (yk.mp e)<|by rw[<- c];exact h1
   rw[aO c,aO c,Og this,gf]
  ·rw[aM c,aM c,c_]
abbrev Q9 (d ps:Pl):Pl:=ps.foldl (λd p=>put d p.1 p.2) d
theorem Jv:∀(ps d:Pl),((d++ps).map Prod.fst).Nodup->Q9 d ps=d++ps
 | [],d,_=>by rw[bR];rfl
 | p::ps,d,h=>by
  have hn:has d p.1=false:=by
   cases e:has d p.1 with
   | false=>rfl
   | true=>
    rw[bS,b8]at h;exact absurd rfl<|h.2.2 _ (yk.mp e) p.1<|fP<|aR ..
  have e:put d p.1 p.2=d++[p]:=by unfold put;rw[hn];rfl
  show Q9 (put d p.1 p.2) ps=_;rw[e,Jv ps (d++[p])<|by rw[bT];exact h,bT];rfl
def Lp{l:Pl}(h:Ok l):Q9 [] l=l:=Jv l [] h.nd
abbrev plus (a b:Pl):Pl:=LH<|rR a b
abbrev qo (a b:Pl):Pl:=LH<|rR []<|a++b
def Vf{a:Pl}(h:Ok a):plus a b=qo a b:=by
 refine ZS (xO _ h.nd) (xO _ fS) λk=>?_;rw[xX,xX,Ow h.nd];have:∀(a b:Pl),cf (a++b) k=cf a k+cf b k:=λa b=>by
  induction a with
  | nil=>exact(c_ _).symm
  | cons p a d=>
   show _+cf (a++b) k=_+_+_;rw[d,i7]
 rw[this];show _=0+_;rw[c_]
def E4(a b:Pl):Ok (qo a b):=Ii<|xO _ fS
abbrev Jt (a b:Pl):Pl:=a.flatMap λp=>b.map λq=>(p.1+q.1,p.2 * q.2)
abbrev times (a b:Pl):Pl:=LH<|rR []<|Jt a b
def Q8(a:Pl)(p:Int×Int)(b:Pl):Jt (a++[p]) b=Jt a b++b.map λq=>(p.1+q.1,p.2 * q.2):=by
 unfold Jt;rw[ji,fB,jJ,bR]
def DX(a b:Pl):(Jt a b).length=a.length * b.length:=by
 induction a with
 | nil=>simp[Jt]
 | cons p a d=>
  show((b.map _)++Jt a b).length=_;rw[aV,aK,d,bH,f6]
  lia
def KD(d:Pl):(LH d).length<=d.length:=by
 unfold Po.LH;rw[aK];refine bI (cI _ _) ?_;rw[(sortI_perm _).length_eq,aK];exact aP _
abbrev turn (a:Pl):Pl:=a.reverse.map λp=>(-p.1,p.2)
abbrev iv (d:Pl):List (Int×A):=d.map λp=>(p.1,.int p.2)
abbrev pA (p:Int×Int):A:=.tup [.int p.1,.int p.2]
abbrev pl (l:Pl):ae:=l.map pA
def Dq(d:Pl)(k:Int):oJ (iv d) k=(d.find? λp=>decide<|p.1=k).map λp=>.int p.2:=by
 unfold oJ iv;rw[iL,gB];rfl
def Iu(d:Pl)(k:Int):(oJ (iv d) k).getD (.int 0)=.int (val d k):=by
 rw[Dq];unfold val
 cases d.find? λp=>decide (p.1=k)<;>rfl
def FG{d:Pl}{k:Int}(h:k∈d.map Prod.fst):oJ (iv d) k=some (.int<|val d k):=by
 have:=yk.mpr h;unfold has at this;rw[Dq];unfold val
 cases e:d.find? λp=>decide (p.1=k)with
 | some p=>rfl
 | none=>
  obtain⟨p,hp,f⟩:=fW.mp this;exact absurd f<|jt.mp e p hp
def Ir(d:Pl)(k v:Int):yG (iv d) k (.int v)=iv (put d k v):=by
 have e:(oJ (iv d) k).isSome=has d k:=by
  rw[Dq,iF];unfold has;rw[Bool.eq_iff_iff,jy,fW]
 unfold yG put;rw[e];unfold iv;split
 ·rw[bF,bF];apply cM;intro p _;show(if p.1=k then(p.1,A.int v)else(p.1,.int p.2))=_;show _=((if p.1=k then(p.1,v)else p).1,A.int (if p.1=k then(p.1,v)else p).2);split<;>rfl
 ·rw[bS];rfl
def US(d:Pl):(iv d).map Prod.fst=d.map Prod.fst:=by
 unfold iv;rw[bF];rfl
theorem Ro:∀l:Pl,V3 (pl l)=some (iv l)
 | []=>rfl
 | p::l=>by
  show(V3<|pl l).map _=_;rw[Ro l];rfl
def KW(l:Pl):V2 (iv l)=iv (Q9 [] l):=by
 have:∀(l d:Pl),(iv l).foldl (λacc p=>yG acc p.1 p.2) (iv d)=iv (Q9 d l):=by
  intro l
  induction l with
  | nil=>intro d;rfl
  | cons p l f=>
   intro d;show(iv l).foldl _ (yG (iv d) p.1<|.int p.2)=_;rw[Ir,f];rfl
 exact this l []
end Po
namespace Tb
abbrev fg (r:ag)(x:Int):Nat:=r.findIdx λy=>decide<|x<y
abbrev put:List (ag)->Int->List (ag)
 | [],x=>[[x]]
 | r::rs,x=>if fg r x=r.length then(r++[x])::rs else r.set (fg r x) x::put rs (r.getD (fg r x) 0)
abbrev row:List (ag)->Int->Nat
 | [],_=>0
 | r::rs,x=>if fg r x=r.length then 0 else row rs (r.getD (fg r x) 0)+1
abbrev add:List (ag)->Nat->Int->List (ag)
 | [],_,k=>[[k]]
 | q::qs,0,k=>(q++[k])::qs
 | q::qs,i+1,k=>q::add qs i k
abbrev gs (r:ag)(x:Int):am:=(List.range r.length).filter λk=>decide<|x<r.getD k 0
end Tb
namespace Am
open PySem L2
abbrev Rows (S:j5):am->List (ag)->Prop
 | [],[]=>True
 | r::rs,x::T=>j4 S r=some (x.map .int)/\Rows S rs T
 | _,_=>False
def eq_nil{a:Nat}{xs:ae}(h:j4 S a=some xs)(h':j4 S b=some []):W7 S 12 (.ref a) (.ref b)=some xs.isEmpty:=by
 show(j4 S a).bind (λxs=>(j4 S b).bind λys=>ab_ (W7 S 11) xs ys)=_;rw[h,eL,h',eL]
 cases xs<;>rfl
def Zc{a:A}{k:Bool}(h:W7 S 12 a b=some k):Hh true a b S=.ok (.bl<|!k) S:=by unfold Hh;rw[h];rfl
def Pp{xs:ae}{n:Nat}{src:Ic}{t:Te}{e:Ex}{S:j5}(hs:src τ S=.ok (mq n xs.length) S)(J:j4 S n=some xs)(p:A->Bool)(f:A->A)
  (U:∀x∈xs,t (x::ng cap τ) S=.ok (p x) S) (Z:∀x∈xs,p x=true->e (x::ng cap τ) S=.ok (f x) S) (hl:xs.length<=16777216) :
  lJ (none::cap) src (k_ 0) t e τ S=.ok (.ref S.length) (S++[.lst<|(xs.filter p).map f]):=by
 have d:∀i,i<xs.length->xs.getD i .unb∈xs:=λi hi=>by
  rw[aI,aH hi];exact dJ hi
 rw[zd hs (λi=>xs.getD i .unb) (λi=>p<|xs.getD i .unb) (λi=>f<|xs.getD i .unb) (λi hi=>by
  have hi:i<xs.length:=hi;show(j4 S n).bind _=_;rw[J,eL,aI,aH hi];rfl) (by
   show(match j4 S n with
    | some ys=>decide (ys.length<=xs.length)
    | none=>false)=true
   rw[J];simp) (λi hi=>U _<|d i hi) (λi hi=>Z _<|d i hi) hl]
 have:=m8 xs p f .unb;show R.ok _ (S++[O.lst<|((List.range xs.length).filter _).map _])=_;rw[this]
def getD_at{r:ag}{k:Nat}(h:k<r.length):r[k]?=some (r.getD k 0):=by rw[aI,aH h];rfl
end Am
namespace Am
open PySem L2 Po
def RL(l:Pl):(pl l).length=l.length:=aK ..
def MA{xs:ae}{n:Nat}{src:Ic}{t:Te}{e:Ex}{S1:j5}(hs:src τ S=.ok (mq n xs.length) S1)(J:j4 S1 n=some xs)(p:A->Bool)(f:A->A)
  (U:∀x∈xs,t (x::ng cap τ) S1=.ok (p x) S1) (Z:∀x∈xs,p x=true->e (x::ng cap τ) S1=.ok (f x) S1) (hl:xs.length<=16777216) :
  lJ (none::cap) src (k_ 0) t e τ S=.ok (.ref S1.length) (S1++[.lst<|(xs.filter p).map f]):=by
 have:=Pp (S:=S1) (src:=λ_ _=>.ok (mq n xs.length) S1) (τ:=τ) rfl J p f U Z hl;unfold lJ at this ⊢;rw[hs];exact this
def Hs{S:j5}:mW (S++[.rC d]) S.length=some d:=EB IZ
def aaB{o:O}{n:Nat}(h:mW S n=some d):mW (S++[o]) n=some d:=by
 have h':=qV h;exact EB<|by rw[bE (aJ.mp h').1];exact h'
def Xq{S:j5}{n:Nat}(h:mW S n=some d):n<S.length:=(aJ.mp<|qV h).1
def O9{S:j5}{n:Nat}(h:n<S.length):mW (S.set n<|.rC d) n=some d:=EB<|bP h
def Lc{n:Nat}(h:mW S n=some d)(h':j4 S m=some xs):n≠m:=λz=>by
 subst z;have e1:=qV h;rw[kI h']at e1
 cases e1
def Ek{f:A->ae->j5->R A}{co:Ex}{d:rT}:IE f co d τ S=(co τ S).bind λx S1=>opt (dk? x S1) λ_=>(d τ S1).bind λas S2=>f x as S2:=rfl
def ID{n:Nat}:dk? (.ref n) S=(mW S n).map λ_=>Unit.unit:=rfl
def Ak{n:Nat}{k:Int}:xS (.ref n) [.int k,y] S=opt (mW S n) λkvs=>.ok ((oJ kvs k).getD y) S:=rfl
def KL{co J:Ex}{a:A}:M1 co J a τ S=(co τ S).bind λo S1=>(J τ S1).bind λi S2=>(CJ o i a S2).bind λ_ S3=>.ok τ S3:=rfl
def FE{n:Nat}{k:Int}{v:A}{S:j5}:CJ (.ref n) (.int k) v S=opt (mW S n) λkvs=>gd (kvs.length<sizeLine) (.ok Unit.unit<|S.set n<|.rC<|yG kvs k v):=rfl
def Ko{n:Nat}{k:Int}:Au (.ref n) (.int k) S=opt (mW S n) λkvs=>opt (oJ kvs k) λv=>.ok v S:=rfl
def Mk{S:j5}:Iz τ S=.ok (.ref S.length) (S++[.rC []]):=rfl
def Nx{n:Nat}{S:j5}:BY (.ref n) S=opt (mW S n) λkvs=>.ok (.ref S.length) (S++[.lst<|(sortI<|kvs.map Prod.fst).map .int]):=rfl
def C3{n:Nat}{S:j5}:Eh (.ref n) S=opt (j4 S n) λxs=>opt (V3 xs) λps=>.ok (.ref S.length) (S++[.rC<|V2 ps]):=rfl
def adP{i j:Int}(h:i.natAbs<big)(h':j.natAbs<big):Jm (.int i) (.int j) S=.ok (.int<|i * j) S:=mV ⟨h,h'⟩
def Rl(d:Pl):(iv d).length=d.length:=aK ..
meta abbrev YA:Sm:=lN (ko oH (IE xS (jZ 2)<|jY (jZ 3)<|jY (eC<|.int 0)<|ki)<|jZ 4)<|M1 (jZ 2)<|jZ 3
def acc_step{S:j5}{D:Pl}{k v:Int}(J:mW S d=some (iv D))(U:D.length<16777216):YA [x0,x1,.ref d,.int k,.int v] S=.nx [x0,x1,.ref d,.int k,.int v] (S.set d<|.rC<|iv<|acc D k v):=by
 unfold YA;dsimp[kY,ao,Ek,ID,J,dQ,Ak,Iu,KL,FE,CN<|show(iv D).length<16777216 by rw[Rl];exact U,Ir];rfl
meta abbrev NN:Tg:=wH 2<|oR (k_ 3)<|oR (k_ 4) wJ
def We{n:Nat}{D l:Pl}{src:Ic}(hs:src [x0,x1,.ref d,x3,x4] S=.ok (mq n (pl l).length) S1)(hn:j4 S1 n=some (pl l))(J:mW S1 d=some (iv D))(U:D.length+l.length<16777216) :
  ∃y3 y4 S',nF src NN YA [x0,x1,.ref d,x3,x4] S=.nx [x0,x1,.ref d,y3,y4] S'/\mW S' d=some (iv<|rR D l)/\Kp (·=d) S1 S':=by
 have nd:=Lc J hn;refine qe (n:=n) (xs:=pl l) hs (λi τ T=>(∃y3 y4,τ=[x0,x1,.ref d,y3,y4])/\mW T d=some (iv<|rR D<|l.take i)/\Kp (·=d) S1 T)
  (λr=>∃y3 y4 S',r=.nx [x0,x1,.ref d,y3,y4] S'/\mW S' d=some (iv<|rR D l)/\Kp (·=d) S1 S') ⟨⟨_,_,rfl⟩,J,Kp.refl⟩ (λi τ T h=>h.2.2.lst _ _ (Ne.symm nd) hn) ?_ ?_
 ·rintro i z τ T j ⟨⟨y3,y4,rfl⟩,f,kp⟩;unfold pl at j;rw[aQ]at j;obtain⟨p,hp,rfl⟩:=bh.mp j;refine⟨[x0,x1,.ref d,.int p.1,.int p.2],T,rfl,.inl ?_⟩;have g:=rf (l.take i) D;have hi:=(aJ.mp hp).1;rw[bN]at g;refine⟨_,_,acc_step f<|by omega,⟨_,_,rfl⟩,?_,kp.Fe<|.inl rfl⟩;rw[O9<|Xq f,d8,hp,Bg];rfl
 ·rintro τ T ⟨⟨y3,y4,rfl⟩,f,kp⟩;rw[RL,dM]at f;exact⟨y3,y4,T,rfl,f,kp⟩
meta abbrev VB:Sm:=lN (ko oH (IE xS (jZ 2)<|jY (ko oH (jZ 3)<|jZ 5)<|jY (eC<|.int 0)<|ki)<|ko Jm (jZ 4)<|jZ 6)<|M1 (jZ 2)<|ko oH (jZ 3)<|jZ 5
meta abbrev g56:Tg:=wH 2<|oR (k_ 5)<|oR (k_ 6) wJ
def NW{S:j5}{D:Pl}{k v j u:Int}(J:mW S d=some (iv D))(U:D.length<16777216)(hv:v.natAbs<big)(Z:u.natAbs<big):VB [x0,x1,.ref d,.int k,.int v,.int j,.int u] S=.nx [x0,x1,.ref d,.int k,.int v,.int j,.int u] (S.set d<|.rC<|iv<|acc D (k+j)<|v * u):=by
 unfold VB;dsimp[kY,ao,Ek,ID,J,dQ,Ak,Iu,adP hv Z,KL,FE,CN<|show(iv D).length<16777216 by rw[Rl];exact U,Ir];rfl
def VM{n:Nat}{D l:Pl}{k v:Int}(hn:j4 S n=some (pl l))(J:mW S d=some (iv D))(Z:D.length+l.length<16777216)(hv:v.natAbs<big)(U:∀p∈l,p.2.natAbs<big) :
  ∃y5 y6 S',nF (oM<|jZ 1) g56 VB [x0,.ref n,.ref d,.int k,.int v,x5,x6] S=.nx [x0,.ref n,.ref d,.int k,.int v,y5,y6] S'/\mW S' d=some (iv<|rR D<|l.map λq=>(k+q.1,v * q.2))/\Kp (·=d) S S':=by
 have nd:=Lc J hn;refine qe (n:=n) (xs:=pl l) (S1:=S) (oA (by dsimp[kY,ao]) hn) (λi τ T=>(∃y5 y6,τ=[x0,.ref n,.ref d,.int k,.int v,y5,y6])/\mW T d=some (iv<|rR D<|(l.take i).map λq=>(k+q.1,v * q.2))/\Kp (·=d) S T)
  (λr=>∃y5 y6 S',r=.nx [x0,.ref n,.ref d,.int k,.int v,y5,y6] S'/\mW S' d=some (iv<|rR D<|l.map λq=>(k+q.1,v * q.2))/\Kp (·=d) S S') ⟨⟨_,_,rfl⟩,J,Kp.refl⟩ (λi τ T h=>h.2.2.lst _ _ (Ne.symm nd) hn) ?_ ?_
 ·rintro i z τ T j ⟨⟨y5,y6,rfl⟩,f,kp⟩;unfold pl at j;rw[aQ]at j;obtain⟨p,hp,rfl⟩:=bh.mp j;refine⟨[x0,.ref n,.ref d,.int k,.int v,.int p.1,.int p.2],T,rfl,.inl ?_⟩;have g:=rf ((l.take i).map λq=>(k+q.1,v * q.2)) D;have hi:=(aJ.mp hp).1;rw[aK,bN]at g;refine⟨_,_,NW f (by omega) hv<|U p<|aW hp,⟨_,_,rfl⟩,?_,kp.Fe<|.inl rfl⟩;rw[O9<|Xq f,d8,hp,bS,Bg];rfl
 ·rintro τ T ⟨⟨y5,y6,rfl⟩,f,kp⟩;rw[RL,dM]at f;exact⟨y5,y6,T,rfl,f,kp⟩
meta abbrev Z6:Sm:=nF (oM<|jZ 1) g56 VB
def Jc(f:Int×Int->A)(hf:∀p τ S,NN (f p) τ S=NN (pA p) τ S){n:Nat}{a b:Pl}(hn:j4 S n=some (a.map f))(Z:j4 S m=some (pl b))(U:mW S d=some [])(hl:a.length * b.length<16777216)(ha:∀p∈a,p.2.natAbs<big)(hb:∀p∈b,p.2.natAbs<big) :
  ∃y3 y4 y5 y6 S',nF (oM<|jZ 0) NN Z6 [.ref n,.ref m,.ref d,x3,x4,x5,x6] S=.nx [.ref n,.ref m,.ref d,y3,y4,y5,y6] S'/\mW S' d=some (iv<|rR []<|Jt a b)/\Kp (·=d) S S':=by
 have nd:=Lc U hn;have J:=Lc U Z;refine qe (n:=n) (xs:=a.map f) (S1:=S) (oA (by dsimp[kY,ao]) hn) (λi τ T=>(∃y3 y4 y5 y6,τ=[.ref n,.ref m,.ref d,y3,y4,y5,y6])/\mW T d=some (iv<|rR []<|Jt (a.take i) b)/\Kp (·=d) S T)
  (λr=>∃y3 y4 y5 y6 S',r=.nx [.ref n,.ref m,.ref d,y3,y4,y5,y6] S'/\mW S' d=some (iv<|rR []<|Jt a b)/\Kp (·=d) S S') ⟨⟨_,_,_,_,rfl⟩,U,Kp.refl⟩ (λi τ T h=>h.2.2.lst _ _ (Ne.symm nd) hn) ?_ ?_
 ·rintro i z τ T C ⟨⟨y3,y4,y5,y6,rfl⟩,j,kp⟩;rw[aQ]at C;obtain⟨p,hp,rfl⟩:=bh.mp C;refine⟨[.ref n,.ref m,.ref d,.int p.1,.int p.2,y5,y6],T,hf _ _ _,.inl ?_⟩;have g:=rf (Jt (a.take i) b) [];have hi:=(aJ.mp hp).1;rw[DX,bN,Nat.min_eq_left<|jk hi,cP,cG]at g;have G:i * b.length+b.length<=a.length * b.length:=by rw[<- f6];exact cV _ hi
  obtain⟨M,L,K,e,B,q⟩:=VM (x0:=.ref n) (x5:=y5) (x6:=y6) (k:=p.1) (v:=p.2) (kp.lst _ _ (Ne.symm J) Z) j () (ha p<|aW hp) hb;refine⟨_,_,e,⟨_,_,_,_,rfl⟩,?_,kp.trans q⟩;rw[B,d8,hp,Option.toList_some,Q8,Bg]
 ·rintro τ T ⟨⟨y3,y4,y5,y6,rfl⟩,j,kp⟩;rw[aK,dM]at j;exact⟨y3,y4,y5,y6,T,rfl,j,kp⟩
meta abbrev adX:Ex:=lJ [none,some 0] (oM<|kK (f1 BY)<|jY (jZ 0)<|ki) (k_ 0) (wK<|ko (Hh true) (ko Au (jZ 1)<|jZ 0)<|eC<|.int 0)<|rW<|jY (jZ 0)<|jY (ko Au (jZ 1)<|jZ 0)<|ki
def YV{S:j5}{D:Pl}(J:mW S d=some (iv D))(U:D.length<=16777216):∃S',adX [.ref d] S=.ok (.ref<|S.length+1) S'/\j4 S' (S.length+1)=some (pl<|LH D)/\nK S S':=by
 have g:mW (S++[.lst<|(sortI<|D.map Prod.fst).map .int]) d=some (iv D):=aaB J;have m:(S++[O.lst<|(sortI<|D.map Prod.fst).map A.int]).length=S.length+1:=by simp
 have p:=MA (n:=S.length) (xs:=(sortI<|D.map Prod.fst).map A.int) (cap:=[some 0]) (src:=oM<|kK (f1 BY)<|jY (jZ 0)<|ki) (t:=wK<|ko (Hh true) (ko Au (jZ 1)<|jZ 0)<|eC<|.int 0) (e:=rW<|jY (jZ 0)<|jY (ko Au (jZ 1)<|jZ 0)<|ki) (τ:=[.ref d]) (S:=S) (S1:=S++[.lst<|(sortI<|D.map Prod.fst).map .int])
  (oA (by dsimp[kY,ao,Nx,J,US]) ku) ku (λx=>match x with | .int k=>val D k != 0|_=>false) (λx=>match x with | .int k=>pA (k,val D k)|_=>.non) (λx j=>by
   obtain⟨k,f,rfl⟩:=bC.mp j;have f:=(sortI_perm _).mem_iff.mp f;dsimp[kY,ao,Ko,g,FG f];rfl) (λx j _=>by
   obtain⟨k,f,rfl⟩:=bC.mp j;have f:=(sortI_perm _).mem_iff.mp f;dsimp[kY,ao,Ko,g,FG f];exact pX<|show 2<=16777216 by decide) (by rw[aK,(sortI_perm _).length_eq,aK];exact U)
 refine⟨_,p.trans<|by rw[m],?_,Kp.refl.lay.lay⟩;rw[<- m,ku];congr 1;unfold pl LH;rw[bF,gW,bF];rfl
end Am
namespace Su
open Am Po PySem L2
meta abbrev En:=ag×Nat×Pl
meta abbrev Es:=List En
abbrev ent (e:En):A:=.tup [.tup<|e.1.map .int,.ref e.2.1]
abbrev kv (e:En):ag×A:=(e.1,.ref e.2.1)
abbrev At (S:j5)(es:Es):Prop:=∀e∈es,j4 S e.2.1=some (pl e.2.2)
meta abbrev Ps:=List<|ag×Pl
abbrev sm (es:Es):Ps:=es.map λe=>(e.1,e.2.2)
def y9(es:Es):(sm es).length=es.length:=aK ..
def TJ(a b:Es):sm (a++b)=sm a++sm b:=bS
abbrev vS (D:Ps)(o:ag):Pl:=((D.find? λe=>decide<|e.1=o).map (·.2)).getD []
abbrev hS (D:Ps)(o:ag):Bool:=D.any λe=>decide<|e.1=o
abbrev AM (D:Ps)(o:ag)(p:Pl):Ps:=if hS D o=true then D.map (λe=>if e.1=o then(e.1,p)else e)else D++[(o,p)]
abbrev BV (D:Ps)(o:ag)(p:Pl):Ps:=AM D o<|qo (vS D o) p
abbrev adds (D l:Ps):Ps:=l.foldl (λD e=>BV D e.1 e.2) D
def SJ(D a b:Ps):adds D (a++b)=adds (adds D a) b:=by unfold adds;rw[d9]
abbrev toS (D:Ps):Ps:=((mw<|D.map Prod.fst).filter λo=>!(vS D o).isEmpty).map λo=>(o,vS D o)
abbrev fE (D:Es)(o:ag):Option En:=D.find? λe=>decide<|e.1=o
abbrev q_ (D:Es)(o:ag)(r:Nat)(p:Pl):Es:=if (fE D o).isSome=true then D.map (λe=>if e.1=o then(e.1,r,p)else e)else D++[(o,r,p)]
def VI(D:Es)(o:ag):(sm D).find? (λe=>decide<|e.1=o)=(fE D o).map λe=>(e.1,e.2.2):=by
 unfold sm fE;rw[iL];rfl
def NP(D:Es)(o:ag):vS (sm D) o=((fE D o).map λe=>e.2.2).getD []:=by
 unfold vS;rw[VI,gB];rfl
def adF(D:Es)(o:ag):hS (sm D) o=(fE D o).isSome:=by
 unfold hS sm fE;rw[any_map,Bool.eq_iff_iff,jy,fW];rfl
def Tf(D:Es)(o:ag)(r:Nat)(p:Pl):sm (q_ D o r p)=AM (sm D) o p:=by
 unfold q_ AM;rw[adF];unfold sm;split
 ·rw[bF,bF];apply cM;intro e _;show((if e.1=o then(e.1,r,p)else e).1,(if e.1=o then(e.1,r,p)else e).2.2)=if e.1=o then(e.1,p)else(e.1,e.2.2)
  split<;>rfl
 ·rw[bS];rfl
def we(D:Es)(o:ag):l_ (D.map kv) o=(fE D o).map λe=>.ref e.2.1:=by
 unfold l_ fE;rw[iL,gB];rfl
def Pd(D:Es)(o:ag)(r:Nat)(p:Pl):putD (D.map kv) o (.ref r)=(q_ D o r p).map kv:=by
 unfold putD q_;rw[we,iF];split
 ·rw[bF,bF];apply cM;intro e _;show(if e.1=o then(e.1,A.ref r)else(e.1,.ref e.2.1))=kv (if e.1=o then(e.1,r,p)else e);split<;>rfl
 ·rw[bS];rfl
def vV{D:Es}{r:Nat}{p:Pl}{e:En}(h:e∈q_ D o r p):e∈D\/e=(o,r,p):=by
 unfold q_ at h;split at h
 ·obtain⟨d,h1,rfl⟩:=bC.mp h;split
  ·rename_i c;exact .inr (by rw[c])
  ·exact .inl h1
 ·rcases bq.mp h with z|z
  ·exact .inl z
  ·exact .inr<|bg.mp z
def V6{D:Es}{r:Nat}{p:Pl}:(q_ D o r p).length<=D.length+1:=by
 unfold q_;split
 ·rw[aK];lia
 ·rw[aV];exact aP _
def uS{D:Es}{e:En}(h:fE D o=some e):e∈D/\e.1=o:=⟨eZ h,by
 unfold fE at h;have:=je h;simpa using this⟩
def At.put{D:Es}{r:Nat}{p:Pl}(h:At S D)(J:j4 S r=some (pl p)):At S (q_ D o r p):=λe d=>by
 rcases vV d with z|z
 ·exact h e z
 ·rw[z];exact J
def At.kp{D:Es}{b:Nat->Prop}(h:At S D)(k:Kp b S S')(hb:∀e∈D,¬b e.2.1):At S' D:=λe d=>k.lst _ _ (hb e d)<|h e d
def At.zA{D:Es}(h:At S D)(k:nK S S'):At S' D:=h.kp k λ_ _ z=>z
def At.app{a:Es}(h:At S a)(h':At S b):At S (a++b):=λe d=>(bq.mp d).elim (h e)<|h' e
def uo{n:Nat}(h:kG S n=some d)(h':j4 S m=some xs):n≠m:=λz=>by
 subst z;have e1:=m9 h;rw[kI h']at e1
 cases e1
def At.M9{D:Es}(h:At S D)(k:Kp (·=d) S S')(J:kG S d=some kvs):At S' D:=h.kp k λe f z=>uo J (h e f) z.symm
abbrev Vl (k b:Nat)(D:Es):Prop:=∀e∈D,Ok e.2.2/\e.2.2.length<=k/\b<=e.2.1
def Vl.mono{k:Nat}{D:Es}(h:Vl k b D)(J:k<=k'):Vl k' b D:=λe d=>⟨(h e d).1,bI (h e d).2.1 J,(h e d).2.2⟩
def Vl.v{k:Nat}{D:Es}(h:Vl k b D)(o:ag):Ok (vS (sm D) o)/\(vS (sm D) o).length<=k:=by
 rw[NP]
 cases e:fE D o with
 | none=>exact⟨⟨List.Pairwise.nil,nofun⟩,b7 _⟩
 | some d=>exact⟨(h d (uS e).1).1,(h d (uS e).1).2.1⟩
def Na(a b:Pl):(qo a b).length<=a.length+b.length:=by
 refine bI (KD _)<|bI (rf _ _) ?_;rw[aV,cP];lia
def Cp(a b:Pl):(times a b).length<=a.length * b.length:=by
 refine bI (KD _)<|bI (rf _ _) ?_;rw[DX,cP];lia
def Vl.add{k r:Nat}{D:Es}{p:Pl}(h:Vl k b D)(hp:p.length<=j)(J:b<=r):Vl (k+j) b (q_ D o r<|qo (vS (sm D) o) p):=λe d=>by
 rcases vV d with z|z
 ·exact(h.mono<|Nat.le_add_right _ _) e z
 ·rw[z];refine⟨E4 _ _,?_,J⟩;have:=Na (vS (sm D) o) p;have:=(h.v o).2;show(qo (vS (sm D) o) p).length<=_
  lia
def qR{S:j5}:kG (S++[.dct xs]) S.length=some xs:=rJ IZ
def zM{o:O}{n:Nat}(h:kG S n=some xs):kG (S++[o]) n=some xs:=by
 have h':=m9 h;exact rJ<|by rw[bE (aJ.mp h').1];exact h'
def ET{S:j5}{n:Nat}(h:kG S n=some xs):n<S.length:=(aJ.mp<|m9 h).1
def zV{S:j5}{n:Nat}(h:n<S.length):kG (S.set n<|.dct ys) n=some ys:=rJ<|bP h
def Vd{f:A->ae->j5->R A}{co:Ex}{d:rT}:aad f co d τ S=(co τ S).bind λx S1=>opt (dct? x S1) λ_=>(d τ S1).bind λas S2=>f x as S2:=rfl
def Wh{n:Nat}:dct? (.ref n) S=(kG S n).map λ_=>Unit.unit:=rfl
def x_{S:j5}:Cv τ S=.ok (.ref S.length) (S++[.dct []]):=rfl
def DL{co J:Ex}{a:A}:HF co J a τ S=(co τ S).bind λo S1=>(J τ S1).bind λi S2=>(AA o i a S2).bind λ_ S3=>.ok τ S3:=rfl
def V_{n:Nat}{o:ag}:Yp (.ref n) [.tup<|o.map .int,y] S=opt (kG S n) λkvs=>.ok ((l_ kvs o).getD y) S:=by
 show opt (kG S n) (λkvs=>opt (A.ints<|o.map .int) λk=>.ok ((l_ kvs k).getD y) S)=_;rw[ints_map];rfl
def Gh{n:Nat}{o:ag}{v:A}{S:j5}:AA (.ref n) (.tup<|o.map .int) v S=opt (kG S n) λkvs=>gd (kvs.length<sizeLine) (.ok Unit.unit<|S.set n<|.dct<|putD kvs o v):=by
 show opt (kG S n) (λkvs=>opt (A.ints<|o.map .int) λns=>gd (kvs.length<sizeLine)<|.ok Unit.unit<|S.set n<|.dct<|putD kvs ns v)=_;rw[ints_map];rfl
def zJ{n:Nat}{o:ag}:zC (.ref n) (.tup<|o.map .int) S=opt (kG S n) λkvs=>opt (l_ kvs o) λv=>.ok v S:=by
 show opt (kG S n) (λkvs=>opt (A.ints<|o.map .int) λns=>opt (l_ kvs ns) λv=>.ok v S)=_;rw[ints_map];rfl
def get_or{S:j5}{D:Es}(U:kG S d=some (D.map kv))(J:At S D):∃x:Nat,(l_ (D.map kv) o).getD (.ref S.length)=.ref x/\j4 (S++[.lst []]) x=some (pl<|vS (sm D) o):=by
 rw[we,NP]
 cases e:fE D o with
 | none=>exact⟨S.length,rfl,ku⟩
 | some f=>exact⟨f.2.1,rfl,mX<|J f (uS e).1⟩
def Di{α:Type}{xs:List α}(g:α->A){n:Nat}{src:Ic}{t:Te}{e:Ex}(hs:src τ S=.ok (mq n (xs.map g).length) S1)(J:j4 S1 n=some (xs.map g))(d:α)(p:α->Bool)(f:α->A)
  (step:∀x∈xs,∀T,nK S1 T->∃T1,t (g x::ng cap τ) T=.ok (p x) T1/\nK S1 T1/\(p x=true->∃T2,e (g x::ng cap τ) T1=.ok (f x) T2/\nK S1 T2)) (U:xs.length<=16777216) :
  ∃S',lJ (none::cap) src (k_ 0) t e τ S=.ok (.ref S'.length) (S'++[.lst<|(xs.filter p).map f])/\nK S1 S':=by
 have m:∀i,i<xs.length->xs.getD i d∈xs:=λi hi=>by
  rw[aI,aH hi];exact dJ hi
 have k:(xs.map g).length=xs.length:=aK ..;obtain⟨S',h1,h2⟩:=qU (s:=mq n (xs.map g).length) (g:=k_ 0) (t:=t) (e:=e) (P:=λT=>nK S1 T) (T:=λj=>∃y,j=y::ng cap τ) (λi=>g<|xs.getD i d) (λi=>p<|xs.getD i d) (λi=>f<|xs.getD i d) (λi T hi h=>by
   have hi:i<(xs.map g).length:=hi;show(j4 T n).bind _=_;rw[h.lst _ _ (λz=>z) J,eL,aQ,aH (),aI,aH ()];rfl) (λT h=>by
   show(match j4 T n with
    | some ys=>decide (ys.length<=(xs.map g).length)
    | none=>false)=true
   rw[h.lst _ _ (λz=>z) J];simp)
  (λi j T hi ⟨y,hy⟩ h=>by
   have hi:i<(xs.map g).length:=hi;subst hy;obtain⟨T1,e1,k1,e2⟩:=step _ (m i ()) T h;exact⟨g (xs.getD i d)::ng cap τ,T,T1,rfl,e1,⟨_,rfl⟩,λ_=>k1,e2⟩) (xs.map g).length 0 (ng (none::cap) τ) S1 rfl ⟨_,rfl⟩ Kp.refl
 refine⟨S',?_,h2⟩;unfold lJ;rw[hs,R.nk];show(oZ (mq n (xs.map g).length) (k_ 0) t e (xs.map g).length 0 (ng (none::cap) τ) S1).n5 _=_;rw[h1,R.mK,<- cu,k,m8 xs p f d];refine lG ?_;rw[aK];exact bI (cI _ _) U
def Jo{D:Es}{o:ag}(h:o∈D.map Prod.fst):∃e,fE D o=some e:=by
 unfold fE
 cases e:D.find? λe=>decide (e.1=o)with
 | some x=>exact⟨x,rfl⟩
 | none=>
  obtain⟨x,d,rfl⟩:=bC.mp h;exact absurd (aX rfl)<|jt.mp e x d
abbrev B7 (k:ag):A:=.tup<|k.map .int
def Qk{S:j5}{D:Es}(U:kG S d=some (D.map kv))(J:∀e∈D,e.1≠[]):Ez (.ref d) S=.ok (.ref S.length) (S++[.lst<|(mw<|D.map Prod.fst).map B7]):=by
 have f:(D.map kv).map Prod.fst=D.map Prod.fst:=by rw[bF];rfl
 show opt (kG S d) _=_;rw[U,kL];have:((D.map kv).map Prod.fst).all (λks=>!ks.isEmpty)=true:=by
  rw[f,all_map,iW];intro e g;have:=J e g;show(!(e.1).isEmpty)=true
  cases h:e.1 with
  | nil=>exact absurd h this
  | cons=>rfl
 rw[f]at this ⊢;rw[this];rfl
abbrev xB (D:Es)(p:Pl->Bool):Es:=((mw<|D.map Prod.fst).filter λo=>p<|vS (sm D) o).map λo=>(o,((fE D o).map λe=>e.2.1).getD 0,vS (sm D) o)
def Ey(D:Es):sm (xB D λp=>!p.isEmpty)=toS (sm D):=by
 unfold xB toS sm;rw[bF,bF];rfl
def Ew{D:Es}{p:Pl->Bool}{e:En}(h:e∈xB D p):e∈D/\p e.2.2=true:=by
 obtain⟨o,f,rfl⟩:=bC.mp h;obtain⟨h1,h2⟩:=bQ.mp f;obtain⟨e,d⟩:=Jo<|(lA _).mem_iff.mp h1;rw[NP,d]at h2;rw[NP,d];obtain⟨m,rfl⟩:=uS d;exact⟨m,h2⟩
def Sd{S:j5}{D:Es}{src:Ic}{t:Te}{e:Ex}(U:kG S d=some (D.map kv))(J:At S D)(hs:src τ S=.ok (mq S.length ((mw<|D.map Prod.fst).map B7).length) (S++[.lst<|(mw<|D.map Prod.fst).map B7]))(p:Pl->Bool)
  (Z:∀(o:ag) (r:Nat) (q:Pl) (T:j5),kG T d=some (D.map kv)->l_ (D.map kv) o=some (.ref r)->j4 T r=some (pl q)->∃T1,t (B7 o::ng cap τ) T=.ok (p q) T1/\nK T T1)
  (he:∀(o:ag) (r:Nat) (T:j5),kG T d=some (D.map kv)->l_ (D.map kv) o=some (.ref r)->e (B7 o::ng cap τ) T=.ok (.tup [B7 o,.ref r]) T) (hl:D.length<=16777216) :
  ∃(n:Nat) (S':j5),lJ (none::cap) src (k_ 0) t e τ S=.ok (.ref n) S'/\j4 S' n=some ((xB D p).map ent)/\At S' (xB D p)/\S.length<n/\nK S S':=by
 have m:nK S (S++[.lst<|(mw<|D.map Prod.fst).map B7]):=Kp.refl.lay;obtain⟨S',e1,k1⟩:=Di B7 (t:=t) (e:=e) (cap:=cap) hs ku [] (λo=>p<|vS (sm D) o) (λo=>ent (o,((fE D o).map λe=>e.2.1).getD 0,vS (sm D) o)) (λo G T k=>by
  obtain⟨j,f⟩:=Jo<|(lA _).mem_iff.mp G;have lk:l_ (D.map kv) o=some (.ref j.2.1):=by rw[we,f];rfl
  have g:=m.trans k;have dT:=g.dct _ _ (λz=>z) U;have C:=g.lst _ _ (λz=>z)<|J j (uS f).1;obtain⟨T1,h1,h2⟩:=Z o j.2.1 j.2.2 T dT lk C;rw[NP,f];exact⟨T1,h1,k.trans h2,λ_=>⟨T1,he o j.2.1 T1 (h2.dct _ _ (λz=>z) dT) lk,k.trans h2⟩⟩) (by
  rw[(lA _).length_eq,aK];exact hl)
 have B:=m.trans k1;refine⟨S'.length,_,e1,?_,(?_:At S'<|xB D p).zA Kp.refl.lay,?_,B.lay⟩
 ·rw[ku];unfold xB;rw[bF];rfl
 ·exact λe h=>B.lst _ _ (λz=>z) (J e (Ew h).1)
 ·have:=k1.len;rw[aV]at this;exact this
abbrev Dm (F:ae->j5->R A):Prop:=∀{S:j5}{d r:Nat}{D:Es}{o:ag}{p:Pl}{k b:Nat},kG S d=some (D.map kv)->At S D->Vl k b D->j4 S r=some (pl p)->D.length<16777216->k+p.length<16777216 ->
  ∃(L:Nat) (f:j5),F [.ref d,.tup<|o.map .int,.ref r] S=.ok .non f/\kG f d=some ((q_ D o L<|qo (vS (sm D) o) p).map kv)/\At f (q_ D o L<|qo (vS (sm D) o) p)/\S.length<=L/\Kp (·=d) S f
abbrev Ap (D:Es):Prop:=D.Pairwise λe f=>e.1≠f.1/\e.2.1≠f.2.1
def Ap.put{D:Es}{r:Nat}{p:Pl}(h:Ap D)(J:∀e∈D,e.2.1≠r):Ap (q_ D o r p):=by
 unfold q_;split
 ·unfold Ap;rw[cT];refine fL (λ{e f} d hf z=>?_) h;by_cases c1:e.1=o
  ·have c2:¬f.1=o:=λg=>z.1<|c1.trans g.symm;rw[aO c1,aM c2];exact⟨z.1,λy=>J f hf y.symm⟩
  ·rw[aM c1];by_cases c2:f.1=o
   ·rw[aO c2];exact⟨z.1,J e d⟩
   ·rw[aM c2];exact z
 ·rename_i c;unfold Ap;rw[cg];refine⟨h,cR _ _,λe d f hf=>?_⟩;rw[bg.mp hf];refine⟨λz=>c ?_,J e d⟩;unfold fE;rw[jy];exact⟨e,d,aX z⟩
theorem Ap.at{D:Es}(h:Ap D):∀e∈D,∀f∈D,e.1≠f.1->e.2.1≠f.2.1:=by
 unfold Ap at h
 induction h with
 | nil=>exact λe d=>nomatch d
 | @cons a D ha _ g=>
  intro e d f hf z
  rcases bG.mp d with h1|h1<;>rcases bG.mp hf with h2|h2
  ·exact absurd (by rw[h1,h2]) z
  ·rw[h1];exact(ha f h2).2
  ·rw[h2];exact(ha e h1).2.symm
  ·exact g e h1 f h2 z
def Ap.nd{D:Es}(h:Ap D):(D.map Prod.fst).Nodup:=by
 unfold List.Nodup;rw[cT];exact h.imp λz=>z.1
def Ap.out{D:Es}(h:Ap D)(p:Pl->Bool):Ap (xB D p):=by
 unfold Ap xB;rw[cT];have n:(mw<|D.map Prod.fst).Pairwise (·≠·):=(lA _).nodup_iff.mpr h.nd;refine fL (λ{a b} ha hb z=>?_)<|n.filter _;obtain⟨e,d⟩:=Jo<|(lA _).mem_iff.mp (bQ.mp ha).1;obtain⟨f,hf⟩:=Jo<|(lA _).mem_iff.mp (bQ.mp hb).1;obtain⟨j,e1⟩:=uS d;obtain⟨g,e2⟩:=uS hf;refine⟨z,?_⟩;rw[d,hf];exact h.at e j f g<|by rw[e1,e2];exact z
structure Fil (T:j5)(d b i j:Nat)(P:Ps)(D:Es):Prop where
 dd:kG T d=some (D.map kv)
 aa:At T D
 ss:sm D=P
 vv:Vl (i * j) b D
 kk:∀e∈D,e.1≠[]
 ll:D.length<=i
 pw:Ap D
def Fil.mono{P:Ps}{D:Es}(h:Fil T d b i j P D)(hi:i<=i'):Fil T d b i' j P D:=⟨h.dd,h.aa,h.ss,h.vv.mono<|cV _ hi,h.kk,bI h.ll hi,h.pw⟩
def Fil.new(J:kG S d=some []):Fil S d b 0 j [] []:=⟨J,(nofun),rfl,(nofun),(nofun),aP _,List.Pairwise.nil⟩
def Fil.zA{P:Ps}{D:Es}(h:Fil S d b i j P D)(k:nK S T):Fil T d b i j P D:=⟨k.dct _ _ (λz=>z) h.dd,h.aa.zA k,h.ss,h.vv,h.kk,h.ll,h.pw⟩
def Fil.add{F:ae->j5->R A}(J:Dm F){T:j5}{r:Nat}{P:Ps}{D:Es}{o:ag}{p:Pl}(h:Fil T d b i j P D)(U:j4 T r=some (pl p))(hp:p.length<=j)(Z:o≠[])(hb:b<=T.length)(hl:i * j+j<16777216)(hi:i<16777216) :
  ∃(D':Es) (T':j5),F [.ref d,.tup<|o.map .int,.ref r] T=.ok .non T'/\Fil T' d b (i+1) j (BV P o p) D'/\Kp (·=d) T T':=by
 have k:=h.ll;obtain⟨L,T',e,h1,h2,h3,g⟩:=J (o:=o) h.dd h.aa h.vv U () ();refine⟨_,T',e,⟨h1,h2,by rw[Tf,h.ss];rfl,?_,λe f=>?_,?_,h.pw.put λe f z=>by have:=nY<|h.aa e f;lia⟩,g⟩
 ·have:=h.vv.add (o:=o) (p:=p) (j:=j) hp (show b<=L by lia);rw[f6];exact this
 ·rcases vV f with z|z
  ·exact h.kk e z
  ·rw[z];exact Z
 ·have:=V6 (D:=D) (o:=o) (r:=L) (p:=qo (vS (sm D) o) p)
  lia
def V7{n i0 w:Nat}{P:Ps}{es:Es}{src:Ic}{c:Sm}(G:En->Ps->Ps)(hs:src (x0::x1::.ref d::x3::x4::xs) S=.ok (mq n (es.map ent).length) S1)(hn:j4 S1 n=some (es.map ent))(J:Fil S1 d b i0 j P D0)
  (step:∀(i:Nat) (e:En) (T:j5) (Q:Ps) (D:Es),i<es.length->e∈es->Kp (·=d) S1 T->Fil T d b (i0+w * i) j Q D->∃(D':Es) (T':j5),c (x0::x1::.ref d::.tup (e.1.map .int)::.ref e.2.1::xs) T=.nx (x0::x1::.ref d::.tup (e.1.map .int)::.ref e.2.1::xs) T'/\Fil T' d b (i0+w * (i+1)) j (G e Q) D'/\Kp (·=d) T T') :
  ∃(y3 y4:A) (D:Es) (S':j5),nF src NN c (x0::x1::.ref d::x3::x4::xs) S=.nx (x0::x1::.ref d::y3::y4::xs) S'/\Fil S' d b (i0+w * es.length) j (es.foldl (λQ e=>G e Q) P) D/\Kp (·=d) S1 S':=by
 have g:(es.map ent).length=es.length:=aK ..;refine qe (n:=n) (xs:=es.map ent) (S1:=S1) hs (λi τ T=>(∃y3 y4,τ=x0::x1::.ref d::y3::y4::xs)/\(∃D,Fil T d b (i0+w * i) j ((es.take i).foldl (λQ e=>G e Q) P) D)/\Kp (·=d) S1 T)
  (λr=>∃(y3 y4:A) (D:Es) (S':j5),r=.nx (x0::x1::.ref d::y3::y4::xs) S'/\Fil S' d b (i0+w * es.length) j (es.foldl (λQ e=>G e Q) P) D/\Kp (·=d) S1 S') ⟨⟨_,_,rfl⟩,⟨D0,J⟩,Kp.refl⟩ (λi τ T h=>h.2.2.lst _ _ (Ne.symm<|uo J.dd hn) hn) ?_ ?_
 ·rintro i z τ T m ⟨⟨y3,y4,rfl⟩,⟨D,f⟩,kp⟩;rw[aQ]at m;obtain⟨e,k,rfl⟩:=bh.mp m;refine⟨x0::x1::.ref d::.tup (e.1.map .int)::.ref e.2.1::xs,T,rfl,.inl ?_⟩;obtain⟨D',T',e1,q,p⟩:=step i e T _ D (aJ.mp k).1 (aW k) kp f;refine⟨_,T',e1,⟨_,_,rfl⟩,⟨D',?_⟩,kp.trans p⟩;rw[d8,k,d9];exact q
 ·rintro τ T ⟨⟨y3,y4,rfl⟩,⟨D,f⟩,kp⟩;rw[g,dM]at f;exact⟨y3,y4,D,T,rfl,f,kp⟩
def Mw(P:Ps)(es:Es):es.foldl (λQ e=>BV Q e.1 e.2.2) P=adds P (sm es):=by
 unfold adds sm;rw[jU]
def NI(q:Pl)(P:Ps)(es:Es):es.foldl (λQ e=>BV Q e.1<|times q e.2.2) P=adds P ((sm es).map λe=>(e.1,times q e.2)):=by
 unfold adds sm;rw[jU,jU]
def Vg{F:ae->j5->R A}(Z:Dm F){S1:j5}{n i0:Nat}{P:Ps}{es:Es}{src:Ic}(hs:src (x0::x1::.ref d::x3::x4::xs) S=.ok (mq n (es.map ent).length) S1)(hn:j4 S1 n=some (es.map ent))(hA:At S1 es)(J:Fil S1 d b i0 j P D0)(hb:b<=S1.length)
  (U:∀e∈es,e.2.2.length<=j/\e.1≠[]) (hl:(i0+es.length) * j+j<16777216) (hl':i0+es.length<16777216) :
  ∃(y3 y4:A) (D:Es) (S':j5),nF src NN (qL<|eFn F<|jY (jZ 2)<|jY (jZ 3)<|jY (jZ 4) ki) (x0::x1::.ref d::x3::x4::xs) S=.nx (x0::x1::.ref d::y3::y4::xs) S'/\Fil S' d b (i0+es.length) j (adds P<|sm es) D/\Kp (·=d) S1 S':=by
 have:=V7 (w:=1) (c:=qL<|eFn F<|jY (jZ 2)<|jY (jZ 3)<|jY (jZ 4) ki) (λe Q=>BV Q e.1 e.2.2) hs hn J λi e T Q D hi g kp f=>by
  have m:=kp.len;rw[iy]at f ⊢;have k:(i0+i) * j<=(i0+es.length) * j:=cV _ ();obtain⟨q,p,e1,B,C⟩:=f.add Z (o:=e.1) ((hA.M9 kp J.dd) e g) (U e g).1 (U e g).2 () () ();exact⟨q,p,by dsimp[kY,ao,e1],B,C⟩
 rw[iy,Mw]at this;exact this
def F9{n i0 w:Nat}{P:Ps}{es:Es}{src:Ic}{c:Sm}{g:Tg}(J:A->A->ae->ae)(Z:ae->Prop)(G:En->Ps->Ps)(hg:∀(e:En) (y z:A) (xs:ae) (T:j5),g (ent e) (J y z xs) T=.ok (J (.tup<|e.1.map .int) (.ref e.2.1) xs) T)
  {x3 x4:A} {xs0:ae} (U:Z xs0) (hs:src (J x3 x4 xs0) S=.ok (mq n (es.map ent).length) S1) (hn:j4 S1 n=some (es.map ent)) (hd:Fil S1 d b i0 j P D0)
  (step:∀(i:Nat) (e:En) (T:j5) (Q:Ps) (D:Es) (xs:ae),i<es.length->e∈es->Z xs->Kp (·=d) S1 T->Fil T d b (i0+w * i) j Q D->∃(D':Es) (T':j5) (xs':ae),Z xs'/\c (J (.tup<|e.1.map .int) (.ref e.2.1) xs) T=.nx (J (.tup<|e.1.map .int) (.ref e.2.1) xs') T'/\Fil T' d b (i0+w * (i+1)) j (G e Q) D'/\Kp (·=d) T T') :
  ∃(y3 y4:A) (xs:ae) (D:Es) (S':j5),Z xs/\nF src g c (J x3 x4 xs0) S=.nx (J y3 y4 xs) S'/\Fil S' d b (i0+w * es.length) j (es.foldl (λQ e=>G e Q) P) D/\Kp (·=d) S1 S':=by
 have p:(es.map ent).length=es.length:=aK ..;refine qe (n:=n) (xs:=es.map ent) (S1:=S1) hs (λi τ T=>(∃y3 y4 xs,τ=J y3 y4 xs/\Z xs)/\(∃D,Fil T d b (i0+w * i) j ((es.take i).foldl (λQ e=>G e Q) P) D)/\Kp (·=d) S1 T)
  (λr=>∃(y3 y4:A) (xs:ae) (D:Es) (S':j5),Z xs/\r=.nx (J y3 y4 xs) S'/\Fil S' d b (i0+w * es.length) j (es.foldl (λQ e=>G e Q) P) D/\Kp (·=d) S1 S') ⟨⟨_,_,_,rfl,U⟩,⟨D0,hd⟩,Kp.refl⟩ (λi τ T h=>h.2.2.lst _ _ (Ne.symm<|uo hd.dd hn) hn) ?_ ?_
 ·rintro i z τ T U ⟨⟨y3,y4,xs,rfl,k⟩,⟨D,f⟩,kp⟩;rw[aQ]at U;obtain⟨e,q,rfl⟩:=bh.mp U;refine⟨J (.tup<|e.1.map .int) (.ref e.2.1) xs,T,hg _ _ _ _ _,.inl ?_⟩;obtain⟨D',T',xs',m,e1,C,B⟩:=step i e T _ D xs (aJ.mp q).1 (aW q) k kp f;refine⟨_,T',e1,⟨_,_,_,rfl,m⟩,⟨D',?_⟩,kp.trans B⟩;rw[d8,q,d9];exact C
 ·rintro τ T ⟨⟨y3,y4,xs,rfl,k⟩,⟨D,f⟩,kp⟩;rw[p,dM]at f;exact⟨y3,y4,xs,D,T,k,rfl,f,kp⟩
end Su
namespace Bl
open L2
abbrev cnt:ag->Int->Int
 | [],_=>0
 | x::l,j=>(if j<=x then 1 else 0)+cnt l j
abbrev Below (xs ys:ag):Prop:=∀(i:Nat) (j:Int),cnt (xs.take i) j<=cnt (ys.take i) j
def Below.refl(xs:ag):Below xs xs:=λ_ _=>gC _
def Below.trans{a c:ag}(h:Below a b)(k:Below b c):Below a c:=λi j=>Int.le_trans (h i j)<|k i j
def cnt_append(a b:ag)(j:Int):cnt (a++b) j=cnt a j+cnt b j:=by
 induction a with
 | nil=>simp[cnt]
 | cons x a d=>rw[jI,cnt,cnt,d];lia
def BU{a:ag}(p:a.Perm b)(j:Int):cnt a j=cnt b j:=by
 induction p with
 | nil=>rfl
 | cons x _ d=>rw[cnt,cnt,d]
 | swap x y l=>rw[cnt,cnt,cnt,cnt];lia
 | trans _ _ h1 h2=>exact h1.trans h2
def take_snoc{l:ag}{i:Nat}(h:i<l.length):l.take (i+1)=l.take i++[l[i]]:=by
 rw[jV,aH h];rfl
def G4{l:ag}{i:Nat}(h:i<l.length)(j:Int):cnt (l.take<|i+1) j=cnt (l.take i) j+(if j<=l[i]then 1 else 0):=by
 rw[take_snoc h,cnt_append,cnt,cnt];lia
def Ag{l:ag}{p:Nat}(h:p<l.length)(v:Int)(i:Nat)(j:Int) :
  cnt ((l.set p v).take i) j=cnt (l.take i) j+(if p<i then(if j<=v then 1 else 0)-(if j<=l[p]then 1 else 0)else 0):=by
 induction l generalizing p i with
 | nil=>cases h
 | cons x l d=>
  cases i with
  | zero=>simp[cnt]
  | succ i=>
   cases p with
   | zero=>
    show(if j<=v then 1 else 0)+cnt (l.take i) j=(if j<=x then 1 else 0)+cnt (l.take i) j+_;rw[aO<|succ_pos _];show _=(if j<=x then 1 else 0)+cnt (l.take i) j+((if j<=v then 1 else 0)-(if j<=x then 1 else 0))
    lia
   | succ p=>
    show(if j<=x then 1 else 0)+cnt ((l.set p v).take i) j=(if j<=x then 1 else 0)+cnt (l.take i) j+_;have hp:p<l.length:=iM h;rw[d hp];by_cases z:p<i
    ·rw[aO z,aO<|Nat.succ_lt_succ z];show _=(if j<=x then 1 else 0)+cnt (l.take i) j+((if j<=v then 1 else 0)-(if j<=l[p]then 1 else 0))
     lia
    ·rw[aM z,aM λy=>z<|iM y]
     lia
def zk{l:ag}{p q:Nat}(hp:p<l.length)(U:q<l.length)(J:p<q)(h:l[p]<l[q]):Below l ((l.set p l[q]).set q l[p]):=by
 intro i j;have d:q<(l.set p l[q]).length:=by rw[bW];exact U
 rw[Ag d,Ag hp];have e:(l.set p l[q])[q]=l[q]:=by rw[List.getElem_set_ne<|bD J]
 rw[e]
 (repeat' split)<;>lia
abbrev SV (a b:ag):Prop:=a.length=b.length/\∀(p:Nat) (h:p<a.length),b[(a[p]-1).toNat]?=some ((p:Int)+1)
def MV{x y:ag}{n:Nat}(J:x.Perm<|lE 1<|n+1)(py:y.Perm<|lE 1<|n+1):(∀(i q:Nat),i<n->q<n->cnt (x.take<|i+1) ((q:Int)+1)<=cnt (y.take<|i+1) ((q:Int)+1)) ↔ Below x y:=by
 have p:x.length=n:=by rw[J.length_eq,nR];lia
 have m:y.length=n:=by rw[py.length_eq,nR];lia
 constructor
 ·intro h i j;have rx:∀z∈x,1<=z/\z<(n:Int)+1:=λz d=>qt.mp<|J.mem_iff.mp d;have ry:∀z∈y,1<=z/\z<(n:Int)+1:=λz d=>qt.mp<|py.mem_iff.mp d;have low:∀(l:ag),(∀z∈l,j<=z)->cnt l j=l.length:=λl=>by
   induction l with
   | nil=>intro _;rfl
   | cons z l k=>intro g;rw[cnt,aO<|g z aR,k λy hy=>g y<|aS _ hy,bH];lia
  have f:∀(l:ag),(∀z∈l,z<j)->cnt l j=0:=λl=>by
   induction l with
   | nil=>intro _;rfl
   | cons z l k=>intro g;rw[cnt,aM (by have:=g z aR;lia),k λy hy=>g y<|aS _ hy];rfl
  by_cases C:j<=1
  ·rw[low _ λz d=>by have:=(rx z<|cB d).1;lia,low _ λz d=>by have:=(ry z<|cB d).1;lia,bN,bN,p,m];exact gC _
  ·by_cases B:(n:Int)+1<=j
   ·rw[f _ λz d=>by have:=(rx z<|cB d).2;lia,f _ λz d=>by have:=(ry z<|cB d).2;lia];exact gC _
   ·obtain⟨q,rfl⟩:∃q:Nat,j=(q:Int)+1:=⟨(j-1).toNat,()⟩;by_cases hi:i<=n
    ·cases i with
     | zero=>simp[cnt]
     | succ i=>exact h i q () ()
    ·rw[dO (),dO (),BU J,BU py];exact gC _
 ·exact λh i q _ _=>h (i+1)<|(q:Int)+1
end Bl
namespace Wd
open Bl L2
abbrev ex (l:ag)(k:Nat):ag:=(l.set (k-1)<|l.getD k 0).set k<|l.getD (k-1) 0
abbrev led (l:ag)(w:am):ag:=w.foldl ex l
def nj{l:ag}{k:Nat}(h:k<l.length):l.getD k 0=l[k]:=by rw[aI,aH h];rfl
def Kz{l:ag}{k:Nat}(h0:1<=k)(h:k<l.length):ex l k=(l.set (k-1) l[k]).set k (l[k-1]'()):=by
 unfold ex;rw[nj h,nj<|show k-1<l.length by lia]
def Dp(l:ag)(k:Nat):(ex l k).length=l.length:=by unfold ex;rw[bW,bW]
def Ws{l:ag}{k:Nat}(h0:1<=k)(h:k<l.length):(ex l k).Perm l:=by
 rw[Kz h0 h];exact List.set_set_perm () h
def V4(a b:am)(l:ag):led l (a++b)=led (led l a) b:=d9
def Zo{l:ag}{k:Nat}(h0:1<=k)(h:k<l.length)(i:Nat)(j:Int) :
  cnt ((ex l k).take i) j=cnt (l.take i) j+(if i=k then(if j<=l[k]then 1 else 0)-(if j<=l[k-1]'()then 1 else 0)else 0):=by
 rw[Kz h0 h];have d:k<(l.set (k-1) l[k]).length:=by rw[bW];exact h
 rw[Ag d,Ag<|show k-1<l.length by lia];have e:(l.set (k-1) l[k])[k]=l[k]:=by rw[List.getElem_set_ne ()]
 rw[e];by_cases h1:i=k
 ·rw[aO h1,aO<|show k-1<i by lia,aM<|show ¬k<i by lia];lia
 ·by_cases h2:k<i
  ·rw[aM h1,aO<|show k-1<i by lia,aO h2];lia
  ·rw[aM h1,aM<|show ¬k-1<i by lia,aM h2];lia
def up{l:ag}{k:Nat}(h0:1<=k)(h:k<l.length)(J:l[k-1]'()<l[k]):Below l (ex l k):=by
 rw[Kz h0 h];exact zk () h () J
abbrev qz:ag->am->Prop
 | _,[]=>True
 | l,k::w=>1<=k/\k<l.length/\l.getD (k-1) 0<l.getD k 0/\qz (ex l k) w
theorem qz.snoc:∀{w:am}{l:ag}{k:Nat},qz l w->1<=k->k<l.length->(led l w).getD (k-1) 0<(led l w).getD k 0->qz l (w++[k])
 | [],l,k,_,h0,h1,h2=>⟨h0,h1,h2,trivial⟩
 | m::w,l,k,h,h0,h1,h2=>⟨h.1,h.2.1,h.2.2.1,qz.snoc h.2.2.2 h0 (by rw[Dp];exact h1) h2⟩
theorem BD:∀{w:am}{l:ag},qz l w->Below l (led l w)
 | [],l,_=>Below.refl l
 | k::w,l,h=>by
  have h0:=h.1;have h1:=h.2.1;have h2:=h.2.2.1;rw[nj h1,nj<|show k-1<l.length by lia]at h2;exact(up h0 h1 h2).trans (BD h.2.2.2)
abbrev sw (k:Nat)(x:Int):Int:=if x=k then(k:Int)+1 else if x=(k:Int)+1 then k else x
def mY(n:Nat):(lE 1<|(n:Int)+1).length=n:=by rw[nR];lia
def vt{l:ag}{k:Nat}(h0:1<=k)(h:k<l.length)(p:Nat):(ex l k)[p]?=if p=k then l[k-1]? else if p=k-1 then l[k]? else l[p]?:=by
 rw[Kz h0 h,jz];by_cases h1:k=p
 ·rw[aO h1,aO h1.symm,aO<|by rw[bW];lia,aH]
 ·rw[aM h1,aM λz=>h1 z.symm,jz];by_cases h2:k-1=p
  ·rw[aO h2,aO h2.symm,aO (),aH]
  ·rw[aM h2,aM λz=>h2 z.symm]
end Wd
namespace Iv
open L2 Bl
abbrev inv:ag->Nat
 | []=>0
 | x::l=>l.countP (λy=>decide<|y<x)+inv l
abbrev mO (a b:ag):Nat:=(a.map λx=>b.countP λy=>decide<|y<x).sum
def rD(x:Int)(a b:ag):mO (x::a) b=b.countP (λy=>decide<|y<x)+mO a b:=rfl
theorem lg:∀(a b:ag),inv (a++b)=inv a+inv b+mO a b
 | [],b=>by show inv b=0+inv b+0;lia
 | x::a,b=>by
  show(a++b).countP _+inv (a++b)=(a.countP _+inv a)+inv b+mO (x::a) b;rw[List.countP_append,lg a b,rD];lia
theorem xV:∀{a b:am},a.Perm b->a.sum=b.sum
 | _,_,.nil=>rfl
 | _,_,.cons x h=>by rw[gS,gS,xV h]
 | _,_,.swap x y l=>by rw[gS,gS,gS,gS];lia
 | _,_,.trans h k=>(xV h).trans<|xV k
def Jj{a:ag}(b:ag)(h:a.Perm a'):mO a b=mO a' b:=xV<|h.map _
def L4(a:ag){b:ag}(h:b.Perm b'):mO a b=mO a b':=by
 unfold mO;congr 1;refine cM λx _=>h.countP_eq _
def EI{M:ag}{x y:Int}(h:∀m∈M,m<x\/y<m)(J:x<y):M.countP (λm=>decide<|m<x)=M.countP (λm=>decide<|m<y):=by
 refine jA λm d=>?_;rw[ju,ju]
 rcases h m d with z|z<;>omega
theorem zp:∀{M:ag}{x y:Int},(∀m∈M,m<x\/y<m)->x<y->mO M [x]=mO M [y]
 | [],_,_,_,_=>rfl
 | m::M,x,y,h,hxy=>by
  rw[rD,rD,zp (λd f=>h d<|aS _ f) hxy];congr 1;have:=h m<|aR ..;dsimp[cX,jR];by_cases c:x<m
  ·rw[aX c,aX<|show y<m by omega]
  ·rw[bw c,bw<|show ¬y<m by omega]
def mid{M:ag}{x y:Int}(h:∀m∈M,m<x\/y<m)(J:x<y):inv ([y]++M++[x])=inv ([x]++M++[y])+1:=by
 rw[lg,lg,lg<|[x]++M,lg [x]];have e1:mO [y] M=mO [x] M:=by
  show M.countP _+0=M.countP _+0;rw[EI h J]
 have e2:mO ([y]++M) [x]=1+mO M [x]:=by
  show[x].countP _+mO M [x]=_;rw[cX,aX J];rfl
 have e3:mO ([x]++M) [y]=mO M [y]:=by
  show[y].countP _+mO M [y]=_;rw[cX,bw (by lia:¬y<x)];simp
 rw[e1,e2,e3,zp h J]
 skip
 lia
def vm(M:ag)(x y:Int):([y]++M++[x]).Perm ([x]++M++[y]):=by
 refine(List.perm_append_comm (l₁:=[y]++M) (l₂:=[x])).trans ?_
 skip
 exact .cons x<|List.perm_append_comm (l₁:=[y]) (l₂:=M)
def step{P M R:ag}{x y:Int}(h:∀m∈M,m<x\/y<m)(J:x<y):inv (P++([y]++M++[x])++R)=inv (P++([x]++M++[y])++R)+1:=by
 have p:=vm M x y;rw[lg,lg P,lg<|P++([x]++M++[y]),lg P,mid h J,L4 P p,Jj R<|p.append_left P]
 lia
theorem Ep:∀(l:ag),inv l<=l.length * l.length
 | []=>aP _
 | x::l=>by
  show l.countP _+inv l<=(l.length+1) * (l.length+1);have h1:=List.countP_le_length (p:=λy=>decide<|y<x) (l:=l);have h2:=Ep l;rw[jW,Nat.mul_add]
  lia
def J1(x v:Int):cnt [x] v=if v<=x then 1 else 0:=by show(if v<=x then 1 else 0)+0=_;lia
theorem G0:∀(l:ag) {v w:Int},v<=w->cnt l w<=cnt l v
 | [],_,_,_=>gC _
 | x::l,v,w,h=>by
  have:=G0 l h;show(if w<=x then 1 else 0)+cnt l w<=(if v<=x then 1 else 0)+cnt l v;split<;>split<;>lia
theorem KR:∀(l:ag) {v w:Int},(∀m∈l,m<v\/w<=m)->v<=w->cnt l v=cnt l w
 | [],_,_,_,_=>rfl
 | x::l,v,w,h,hvw=>by
  have:=KR l (λm d=>h m<|aS _ d) hvw;have:=h x<|aR ..;show(if v<=x then 1 else 0)+cnt l v=(if w<=x then 1 else 0)+cnt l w;split<;>split<;>lia
def IK{P M R B:ag}{x y z:Int}(hb:Below (P++([x]++M++[y])++R) (P++z::B))(J:x<y)(U:y<=z)(Z:∀m∈M,m<x\/z<m):Below (P++([y]++M++[x])++R) (P++z::B):=by
 intro p v;have h0:=hb p v;by_cases c1:p<=P.length
 ·have e:∀L:ag,(P++L).take p=P.take p:=λL=>by rw[jb c1]
  rw[bT,e,e]at h0 ⊢;exact h0
 ·by_cases c2:p<=P.length+1+M.length
  ·obtain⟨q,j⟩:∃q,p=P.length+(q+1):=⟨p-P.length-1,()⟩;have g:∀(u w:Int),(P++([u]++M++[w])++R).take p=P++(u::M.take q):=λu w=>by
    rw[bT,j,jK,dO (),show P.length+(q+1)-P.length=q+1 by lia];congr 1;show(u::((M++[w])++R)).take (q+1)=_;rw[List.take_succ_cons,bT,jb ()]
   have k:(P++z::B).take p=P++(z::B.take q):=by
    rw[j,jK,dO (),show P.length+(q+1)-P.length=q+1 by lia,List.take_succ_cons]
   rw[g,k,cnt_append,cnt_append]at h0 ⊢;have h1:=hb p<|z+1;rw[g,k,cnt_append,cnt_append]at h1;have f:∀(u t:Int) (L:ag),cnt (u::L) t=(if t<=u then 1 else 0)+cnt L t:=λ_ _ _=>rfl;rw[f,f]at h0 h1 ⊢;by_cases c3:x<v/\v<=y
   ·rw[aM (),aM ()]at h1;rw[aO c3.2,aO ()];have G:cnt (M.take q) v=cnt (M.take q) (z+1):=KR _ (λm C=>by
     rcases Z m (cB C)with t|t
     ·left;lia
     ·right;lia) ()
    have g2:=G0 (B.take q) (show v<=z+1 by lia)
    lia
   ·have:(if v<=y then(1:Int)else 0)=if v<=x then 1 else 0:=by
     by_cases d:v<=x
     ·rw[aO d,aO ()]
     ·rw[aM d,aM λt=>c3 ⟨(),t⟩]
    rw[this];exact h0
  ·have g:∀(u w:Int),(P++([u]++M++[w])++R).take p=P++([u]++M++[w])++R.take (p-(P.length+1+M.length+1)):=λu w=>by
    have l:(P++([u]++M++[w])).length=P.length+1+M.length+1:=by simp;lia
    rw[jK,dO<|by rw[l];lia,l]
   rw[g]at h0 ⊢;have:=BU (((vm M x y).append_left P).append_right<|R.take<|p-(P.length+1+M.length+1)) v;rw[this];exact h0
abbrev sw (a:ag)(i j:Nat):ag:=(a.set i<|a.getD j 0).set j<|a.getD i 0
def ZF(a:ag)(i j:Nat):(sw a i j).length=a.length:=by unfold sw;rw[bW,bW]
def split{a:ag}(Z:i<j)(U:j<a.length):∃P M R:ag,a=P++([a.getD i 0]++M++[a.getD j 0])++R/\P=a.take i/\(∀m∈M,∃k,i<k/\k<j/\a[k]?=some m)/\sw a i j=P++([a.getD j 0]++M++[a.getD i 0])++R:=by
 have N:a.getD i 0=a[i]:=by rw[aI,aH ()];rfl
 have L:a.getD j 0=a[j]:=by rw[aI,aH U];rfl
 obtain⟨M,p⟩:∃M,M=(a.drop<|i+1).take (j-i-1):=⟨_,rfl⟩;have K:M.length=j-i-1:=by rw[p,bN,c8];lia
 have G:a=a.take i++([a.getD i 0]++M++[a.getD j 0])++a.drop (j+1):=by
  have h1:a.drop i=a[i]::a.drop (i+1):=bU ();have h2:a.drop (i+1)=M++a.drop j:=by
   rw[p];have:=cY (j-i-1)<|a.drop<|i+1;rw[List.drop_drop,show i+1+(j-i-1)=j by lia]at this;exact this.symm
  have h3:a.drop j=a[j]::a.drop (j+1):=bU U
  conv=>lhs;rw[<- cY i a,h1,h2,h3]
  rw[N,L];simp
 refine⟨a.take i,M,a.drop<|j+1,G,rfl,λm C=>?_,?_⟩
 ·rw[p]at C;obtain⟨k,g⟩:=fq C;have B:k<j-i-1:=by
   have:=(aJ.mp g).1;rw[bN]at this;lia
  rw[dW B,h_]at g;exact⟨i+1+k,(),(),g⟩
 ·have q:∀(P R:ag) (x y f d:Int),P.length=i->((P++([x]++M++[y])++R).set i d).set j f=P++([d]++M++[f])++R:=λP R x y f d J=>by
   rw[bT,dz _ _ (),J,gG];show(P++(d::((M++[y])++R))).set j f=_;rw[dz _ _ (),J,show j-i=(j-i-1)+1 by lia,List.set_cons_succ,bT,dz _ _ (),K,gG];simp
  have:=q (a.take i) (a.drop<|j+1) (a.getD i 0) (a.getD j 0) (a.getD i 0) (a.getD j 0) (by rw[bN];lia);rw[<- G]at this;exact this
def ur{a:ag}{i:Nat}(h:i<a.length):a[i]?=some (a.getD i 0):=by rw[aI,aH h];rfl
def part{a b:ag}{n:Nat}(U:a.Perm<|lE 1<|(n:Int)+1)(pb:b.Perm<|lE 1<|(n:Int)+1)(la:a.length=n)(lb:b.length=n)(hb:Below a b)(hi:a.take i=b.take i)(Z:i<n)(J:a.getD i 0≠b.getD i 0) :
  a.getD i 0<b.getD i 0/\∃j,i<j/\j<n/\a.getD j 0=b.getD i 0:=by
 have g:=ur (a:=a) (i:=i) ();have hy:=ur (a:=b) (i:=i) ();have ta:a.take (i+1)=a.take i++[a.getD i 0]:=by rw[jV,g];rfl
 have tb:b.take (i+1)=b.take i++[b.getD i 0]:=by rw[jV,hy];rfl
 have h:=hb (i+1)<|a.getD i 0;rw[ta,tb,hi,cnt_append,cnt_append,J1,J1,aO<|gC _]at h;have k:a.getD i 0<=b.getD i 0:=by
  by_cases c:a.getD i 0<=b.getD i 0
  ·exact c
  ·rw[aM c]at h;lia
 refine⟨(),?_⟩;have p:b.getD i 0∈a:=(U.trans pb.symm).mem_iff.mpr<|aW hy;obtain⟨j,d⟩:=fq p;have f:j<n:=by have:=(aJ.mp d).1;lia
 have nb:b.Nodup:=pb.nodup_iff.mpr<|rj _ _;refine⟨j,?_,f,?_⟩
 ·rcases Nat.lt_trichotomy j i with c|c|c
  ·have e:(a.take i)[j]?=some (b.getD i 0):=by rw[dW c];exact d
   rw[hi,dW c]at e;obtain⟨h1,m⟩:=aJ.mp e;obtain⟨h2,g2⟩:=aJ.mp hy;exact absurd ((dF nb).mp<|m.trans g2.symm) ()
  ·subst c;rw[g]at d;exact absurd (bB d) J
  ·exact c
 ·rw[aI,d];rfl
def U9{a b:ag}{n:Nat}(la:a.length=n)(lb:b.length=n)(hb:Below a b)(hi:a.take i=b.take i)(U:i<j)(hj:j<n)(h1:a.getD i 0<a.getD j 0)(h2:a.getD j 0<=b.getD i 0)(Z:∀k,i<k->k<j->¬(a.getD i 0<a.getD k 0/\a.getD k 0<=b.getD i 0))(nd:a.Nodup) :
  Below (sw a i j) b/\inv (sw a i j)=inv a+1/\(sw a i j).Perm a:=by
 obtain⟨P,M,R,p,J,L,es⟩:=split U (show j<a.length by lia);have C:b=P++b.getD i 0::b.drop (i+1):=by
  have:b.drop i=b.getD i 0::b.drop (i+1):=by
   rw[bU ()];congr 1;rw[aI,aH ()];rfl
  conv=>lhs;rw[<- cY i b,this,<- hi,<- J]
 have d:∀m∈M,m<a.getD i 0\/b.getD i 0<m:=λm g=>by
  obtain⟨k,k1,k2,q⟩:=L m g;have e:a.getD k 0=m:=by rw[aI,q];rfl
  have:=Z k k1 k2;rw[e]at this;have K:m≠a.getD i 0:=λz=>by
   have B:=ur (a:=a) (i:=i) ();rw[<- z]at B;obtain⟨N,G⟩:=aJ.mp q;obtain⟨O,g2⟩:=aJ.mp B;exact absurd ((dF nd).mp<|G.trans g2.symm) ()
  lia
 have f:∀m∈M,m<a.getD i 0\/a.getD j 0<m:=λm g=>by
  rcases d m g with t|t
  ·exact .inl t
  ·right;lia
 refine⟨?_,?_,?_⟩
 ·rw[es,C];refine IK ?_ h1 h2 d;rw[<- p,<- C];exact hb
 ·rw[es,step f h1,<- p]
 ·rw[es];have:=((vm M (a.getD i 0)<|a.getD j 0).append_left P).append_right R;rw[<- p]at this;exact this
end Iv
namespace Fw
open PySem L2 Bl
open Wd (ex led)
meta abbrev rg (n:Nat):ag:=lE 1<|(n:Int)+1
def LN{l:ag}{k:Nat}(h0:1<=k)(h:k<l.length):ex (ex l k) k=l:=by
 apply dj;intro p;have h':k<(ex l k).length:=by rw[Wd.Dp];exact h
 rw[Wd.vt h0 h',Wd.vt h0 h,Wd.vt h0 h,Wd.vt h0 h];by_cases c3:p=k
 ·rw[aO c3,aM (),aO rfl,c3]
 ·rw[aM c3];by_cases c2:p=k-1
  ·rw[aO c2,aO rfl,c2]
  ·rw[aM c2,aM c3,aM c2]
def Xa{l:ag}{k:Nat}(h0:1<=k)(h:k<l.length):(ex l k).getD k 0=l.getD (k-1) 0:=by
 rw[aI,Wd.vt h0 h,aO rfl,aI]
def W8{l:ag}{k:Nat}(h0:1<=k)(h:k<l.length):(ex l k).getD (k-1) 0=l.getD k 0:=by
 rw[aI,Wd.vt h0 h,aM (),aO rfl,aI]
def aah{l:ag}{k:Nat}(h0:1<=k)(h:k<l.length)(J:l.getD (k-1) 0<l.getD k 0):Iv.inv (ex l k)=Iv.inv l+1:=by
 obtain⟨P,M,R,e,_,d,es⟩:=Iv.split (a:=l) (i:=k-1) (j:=k) () h;have:=Iv.step (P:=P) (M:=M) (R:=R) (x:=l.getD (k-1) 0) (y:=l.getD k 0) (λm f=>by obtain⟨_,_,_,_⟩:=d m f;lia) J;rw[<- es,<- e]at this;exact this
def Ja{l:ag}{k:Nat}(h0:1<=k)(h:k<l.length)(J:l.getD k 0<l.getD (k-1) 0):Iv.inv l=Iv.inv (ex l k)+1:=by
 have:=aah (l:=ex l k) h0 (by rw[Wd.Dp];exact h) (by rw[Xa h0 h,W8 h0 h];exact J);rw[LN h0 h]at this;exact this
abbrev Va (n:Nat)(w:am):Prop:=∀k∈w,1<=k/\k<n
theorem Ht:∀{l:ag},l.Pairwise (·<=·)->Iv.inv l=0
 | [],_=>rfl
 | x::l,h=>by
  show l.countP (λy=>decide<|y<x)+Iv.inv l=0;rw[Ht (bX.mp h).2,jj.mpr λa ha z=>by have:=bJ z;have:=(bX.mp h).1 a ha;lia]
def aau(n:Nat):Iv.inv (rg n)=0:=Ht<|KH _ _
abbrev Hr (l:ag)(k:Nat):Prop:=1<=k/\k<l.length/\l.getD k 0<l.getD (k-1) 0
def WB{l:ag}(h:∀k,¬Hr l k):l.Pairwise (·<=·):=by
 have f:∀d i,i+d<l.length->l.getD i 0<=l.getD (i+d) 0:=by
  intro d
  induction d with
  | zero=>intro i _;exact gC _
  | succ d p=>
   intro i hi;have h1:=p i ();have h2:¬l.getD (i+d+1) 0<l.getD (i+d) 0:=λz=>h (i+d+1) ⟨(),hi,z⟩;rw[<- iZ];lia
 rw[dc];intro i j hi m g;have:=f (j-i) i ();rw[show i+(j-i)=j by lia,Wd.nj hi,Wd.nj m]at this;exact this
def WV{l:ag}{n:Nat}(p:l.Perm<|rg n)(h:∀k,¬Hr l k):l=rg n:=
 fG (λx y _ _ h1 h2=>jQ h1 h2) (WB h) (KH _ _) p
def U0{l:ag}(h:0<Iv.inv l):∃k,Hr l k:=by
 refine eY λz=>?_;rw[Ht<|WB λk d=>z ⟨k,d⟩]at h;exact absurd h<|eG _
abbrev Dn:ag->am->Prop
 | l,[]=>∀k,¬Hr l k
 | l,k::ks=>(Hr l k/\∀j,Hr l j->k<=j)/\Dn (ex l k) ks
def Wv{l:ag}{n k:Nat}(p:l.Perm<|rg n)(h0:1<=k)(h:k<l.length):l.getD (k-1) 0≠l.getD k 0:=λz=>by
 have nd:l.Nodup:=p.nodup_iff.mpr<|rj _ _;rw[Wd.nj h,Wd.nj<|show k-1<l.length by lia]at z;have:=(dF nd).mp z
 lia
structure Two (n:Nat)(o u:ag):Prop where
 po:o.Perm (rg n)
 pu:u.Perm (rg n)
 ou:SV o u
end Fw
namespace Su
open Am Po PySem L2
abbrev cS (l:Ps)(o:ag)(t:Int):Int:=match l with
 | []=>0
 | e::l=>(if e.1=o then cf e.2 t else 0)+cS l o t
def Th(a b:Ps)(o:ag)(t:Int):cS (a++b) o t=cS a o t+cS b o t:=by
 induction a with
 | nil=>exact(c_ _).symm
 | cons e a d=>
  show _+cS (a++b) o t=_+_+_;rw[d,i7]
def IS(a b:Pl)(k:Int):cf (a++b) k=cf a k+cf b k:=by
 induction a with
 | nil=>exact(c_ _).symm
 | cons p a d=>
  show _+cf (a++b) k=_+_+_;rw[d,i7]
def QJ(a b:Pl)(k:Int):cf (qo a b) k=cf a k+cf b k:=by
 unfold qo;rw[DZ<|xO _ (d:=[]) fS,xX,IS];show 0+_=_;rw[c_]
def FI(a b:Pl)(k:Int):cf (times a b) k=cf (Jt a b) k:=by
 unfold times;rw[DZ<|xO _ (d:=[]) fS,xX];show 0+_=_;rw[c_]
theorem Ka(s:Int):∀(b:Pl) (k c:Int),cf (b.map λq=>(c+q.1,s * q.2)) k=s * cf b (k-c)
 | [],k,c=>(jO s).symm
 | q::b,k,c=>by
  show(if c+q.1=k then s * q.2 else 0)+cf (b.map λq=>(c+q.1,s * q.2)) k=s * ((if q.1=k-c then q.2 else 0)+cf b (k-c));rw[Ka s b k c,Int.mul_add];by_cases h:c+q.1=k
  ·rw[aO h,aO ()]
  ·rw[aM h,aM (),jO]
meta abbrev AF:Pl:=[((-1:Int),(1:Int)),((1:Int),(-1:Int))]
def abN(b:Pl)(k:Int):cf (times AF b) k=cf b (k+1)-cf b (k-1):=by
 rw[FI];show cf ((b.map λq=>((-1:Int)+q.1,(1:Int) * q.2))++((b.map λq=>((1:Int)+q.1,(-1:Int) * q.2))++[])) k=_;rw[bR,IS,Ka,Ka,Int.one_mul,show k - -1=k+1 by lia]
 lia
def aam{D:Ps}{p:Pl}:vS (AM D o p) o'=if o'=o then p else vS D o':=by
 have cons:∀(e:ag×Pl) (D:Ps) (x:ag),vS (e::D) x=if e.1=x then e.2 else vS D x:=λe D x=>by
  unfold vS;rw[cO];by_cases h:e.1=x
  ·rw[aX h,aO h];rfl
  ·rw[bw h,aM h]
 unfold AM
 cases h:hS D o with
 | true=>
  rw[aO rfl]
  induction D with
  | nil=>cases h
  | cons e D d=>
   rw[bL,cons,cons];have hc:hS (e::D) o=(decide (e.1=o) || hS D o):=rfl;rw[hc]at h;by_cases c:e.1=o
   ·rw[aO c]
    skip
    by_cases c2:o'=o
    ·rw[aO<|c.trans c2.symm,aO c2]
    ·rw[aM λz=>c2<|z.symm.trans c,aM c2,aM λz=>c2<|z.symm.trans c];clear d h hc
     induction D with
     | nil=>rfl
     | cons f D g=>
      rw[bL,cons,cons,g];by_cases c3:f.1=o
      ·rw[aO c3]
       skip
       rw[aM λz=>c2<|z.symm.trans c3,aM λz=>c2<|z.symm.trans c3]
      ·rw[aM c3]
   ·rw[aM c];rw[bw c,jE]at h;rw[d h];by_cases c2:e.1=o'
    ·rw[aO c2,aM λz=>c<|c2.trans z,aO c2]
    ·rw[aM c2,aM c2]
 | false=>
  rw[aM<|by simp]
  induction D with
  | nil=>
   show vS [(o,p)] o'=_;rw[cons];by_cases c:o=o'
   ·rw[aO c,aO c.symm]
   ·rw[aM c,aM λz=>c z.symm]
  | cons e D d=>
   have hc:hS (e::D) o=(decide (e.1=o) || hS D o):=rfl;rw[hc,ja]at h;rw[jI,cons,cons,d h.2];have:=eO h.1;by_cases c:e.1=o'
   ·rw[aO c,aO c,aM λz=>this<|c.trans z]
   ·rw[aM c,aM c]
def O5(l:Ps):∀(D:Ps) (o:ag) (t:Int),cf (vS (adds D l) o) t=cf (vS D o) t+cS l o t:=by
 induction l with
 | nil=>intro D o t;exact(gf _).symm
 | cons e l d=>
  intro D o t;show cf (vS (adds (BV D e.1 e.2) l) o) t=_+((if e.1=o then cf e.2 t else 0)+cS l o t);rw[d];unfold BV;rw[aam];by_cases h:o=e.1
  ·rw[aO h,aO h.symm,QJ,h,i7]
  ·rw[aM h,aM λz=>h z.symm,c_]
structure Gd (D:Ps):Prop where
 nd:(D.map Prod.fst).Nodup
 ok:∀e∈D,Ok e.2
def Ys{D:Ps}{o:ag}:hS D o=true ↔ o∈D.map Prod.fst:=by
 unfold hS;rw[fW,bC];constructor
 ·rintro⟨p,h1,h2⟩;exact⟨p,h1,bJ h2⟩
 ·rintro⟨p,h1,h2⟩;exact⟨p,h1,aX h2⟩
def Nh{D:Ps}{o:ag}{p:Pl}:(AM D o p).map Prod.fst=if hS D o=true then D.map Prod.fst else D.map Prod.fst++[o]:=by
 unfold AM;split
 ·rw[bF];apply cM;intro e _;show(if e.1=o then(e.1,p)else e).1=e.1;split<;>rfl
 ·rw[bS];rfl
def Gd.put{D:Ps}{p:Pl}(h:Gd D)(hp:Ok p):Gd (AM D o p):=by
 refine⟨?_,λe d=>?_⟩
 ·rw[Nh];split
  ·exact h.nd
  ·rename_i c;rw[b8];refine⟨h.nd,cR _ _,λa ha b hb z=>c ?_⟩;rw[bg]at hb;rw[Ys,<- hb,<- z];exact ha
 ·unfold AM at d;split at d
  ·obtain⟨f,hf,rfl⟩:=bC.mp d;split
   ·exact hp
   ·exact h.ok f hf
  ·rcases bq.mp d with z|z
   ·exact h.ok e z
   ·rw[bg.mp z];exact hp
theorem Gd.adds(l:Ps):∀{D:Ps},Gd D->Gd (adds D l):=by
 induction l with
 | nil=>intro D h;exact h
 | cons e l d=>intro D h;exact d<|h.put<|E4 _ _
def Gd.nil:Gd []:=⟨fS,nofun⟩
def xC{D:Ps}:(∃e∈D,e.1=o/\vS D o=e.2)\/(o∉D.map Prod.fst/\vS D o=[]):=by
 unfold vS
 cases h:D.find? λe=>decide (e.1=o)with
 | some e=>
  have h1:=je h;exact .inl ⟨e,eZ h,by simpa using h1,rfl⟩
 | none=>
  refine .inr ⟨λz=>?_,rfl⟩;obtain⟨e,d,f⟩:=bC.mp z;exact jt.mp h e d<|aX f
def Gd.v{D:Ps}(h:Gd D)(o:ag):Ok (vS D o):=by
 rcases xC (D:=D) (o:=o)with⟨e,h1,_,h2⟩|⟨_,h2⟩
 ·rw[h2];exact h.ok e h1
 ·rw[h2];exact⟨List.Pairwise.nil,nofun⟩
def E3.anti{a:ag}(h1:E3 a b)(h2:E3 b a):a=b:=(Sx.zK h1 h2).symm
def Wu{D:Ps}(h:Gd D)(h':Gd E)(hv:∀o,vS D o=vS E o):toS D=toS E:=by
 have d:∀(D:Ps),Gd D->∀o,o∈(mw<|D.map Prod.fst).filter (λo=>!(vS D o).isEmpty) ↔ (vS D o)≠[]:=λD h o=>by
  rw[bQ,(lA _).mem_iff];constructor
  ·rintro⟨_,h2⟩ z;rw[z]at h2;cases h2
  ·intro z;refine⟨?_,by cases e:vS D o with|nil=>exact absurd e z|cons=>rfl⟩
   rcases xC (D:=D) (o:=o)with⟨e,h1,h2,_⟩|⟨_,h2⟩
   ·exact bC.mpr ⟨e,h1,h2⟩
   ·exact absurd h2 z
 have f:∀(D:Ps),((mw<|D.map Prod.fst).filter λo=>!(vS D o).isEmpty).Pairwise E3:=λD=>(AY _).filter _;have nd:∀(D:Ps),Gd D->((mw<|D.map Prod.fst).filter λo=>!(vS D o).isEmpty).Nodup:=λD h=>((lA _).nodup_iff.mpr h.nd).filter _;have e:(mw<|D.map Prod.fst).filter (λo=>!(vS D o).isEmpty)=(mw<|E.map Prod.fst).filter (λo=>!(vS E o).isEmpty):=by
  refine fG (λa b _ _ h1 h2=>E3.anti h1 h2) (f D) (f E)<|(gA (nd D h)<|nd E h').mpr λo=>?_;rw[d D h,d E h',hv]
 unfold toS;rw[e];apply cM;intro o _;rw[hv]
def PX{D:Ps}(h:Gd D)(h':Gd E)(hc:∀o t,cf (vS D o) t=cf (vS E o) t):toS D=toS E:=Wu h h' λo=>uniq (h.v o) (h'.v o)<|hc o
theorem IG{f:ag->Pl}{o:ag}{t:Int}:∀{ks:List<|ag},ks.Nodup->cS (ks.map λk=>(k,f k)) o t=if o∈ks then cf (f o) t else 0
 | [],_=>by rw[aM<|by simp];rfl
 | j::ks,h=>by
  obtain⟨h1,h2⟩:=dB.mp h;show(if j=o then cf (f j) t else 0)+cS (ks.map λk=>(k,f k)) o t=_;rw[IG h2];by_cases c:j=o
  ·subst c;rw[aO rfl,aM h1,aO<|aR ..,gf]
  ·rw[aM c,c_];by_cases e:o∈ks
   ·rw[aO e,aO<|aS _ e]
   ·rw[aM e,aM λz=>(bG.mp z).elim (λz=>c z.symm) e]
def IB{D:Ps}(h:Gd D)(o:ag)(t:Int):cS (toS D) o t=cf (vS D o) t:=by
 unfold toS;rw[IG<|((lA _).nodup_iff.mpr h.nd).filter _];split
 ·rfl
 ·rename_i c
  rcases xC (D:=D) (o:=o)with⟨e,h1,h2,h3⟩|⟨_,h2⟩
  ·by_cases z:vS D o=[]
   ·rw[z];rfl
   ·refine absurd (bQ.mpr ⟨(lA _).mem_iff.mpr<|bC.mpr ⟨e,h1,h2⟩,?_⟩) c
    cases e:vS D o with|nil=>exact absurd e z|cons=>rfl
  ·rw[h2];rfl
abbrev t_ (o:ag)(k:Nat):Bool:=decide<|o.getD (k-1) 0>o.getD k 0
abbrev bxL (k:Nat)(l:Ps):Ps:=l.flatMap λe=>(Wd.ex e.1 k,e.2)::(if t_ e.1 k=true then[(e.1,times AF e.2)]else[])
abbrev bx (k:Nat)(l:Ps):Ps:=toS<|adds []<|bxL k l
abbrev Go (N k:Nat)(o:ag):Prop:=o.length=N/\o.getD (k-1) 0≠o.getD k 0
def Pa{N k:Nat}{o:ag}(h:o.length=N)(h1:1<=k)(h2:k<N):Wd.ex (Wd.ex o k) k=o:=Fw.LN h1 ()
def aa9{k:Nat}{o:ag}(h1:1<=k)(h2:k<o.length):(Wd.ex o k).getD (k-1) 0=o.getD k 0/\(Wd.ex o k).getD k 0=o.getD (k-1) 0:=by
 constructor
 ·rw[aI,Wd.vt h1 h2,aM (),aO rfl,aI]
 ·rw[aI,Wd.vt h1 h2,aO rfl,aI]
def Us{l:Ps}{t:Int}(h:∀e∈l,e.1≠o):cS l o t=0:=by
 induction l with
 | nil=>rfl
 | cons e l d=>
  show(if e.1=o then _ else 0)+cS l o t=0;rw[aM<|h e<|aR ..,d λf hf=>h f<|aS _ hf];rfl
theorem XI{N k:Nat}(h1:1<=k)(h2:k<N):∀{l:Ps},(∀e∈l,Go N k e.1)->∀{o:ag}(t:Int),Go N k o->cS (bxL k l) o t=cS l (Wd.ex o k) t+(if t_ o k=true then cS l o (t+1)-cS l o (t-1)else 0)
 | [],_,o,t,_=>by show(0:Int)=0+if _ then(0:Int)-0 else 0;split<;>rfl
 | e::l,h,o,t,ho=>by
  have j:=h e<|aR ..;have g:=XI h1 h2 (l:=l) (λf hf=>h f<|aS _ hf) t ho;have d:(Wd.ex e.1 k=o) ↔ (e.1=Wd.ex o k):=⟨λz=>by rw[<- z,Pa j.1 h1 h2],λz=>by rw[z,Pa ho.1 h1 h2]⟩;show cS (((Wd.ex e.1 k,e.2)::(if t_ e.1 k=true then[(e.1,times AF e.2)]else[]))++bxL k l) o t=_;rw[Th,g];show(if Wd.ex e.1 k=o then cf e.2 t else 0)+cS (if t_ e.1 k=true then[(e.1,times AF e.2)]else[]) o t+_=((if e.1=Wd.ex o k then cf e.2 t else 0)+cS l (Wd.ex o k) t)+(if t_ o k=true then((if e.1=o then cf e.2 (t+1)else 0)+cS l o (t+1))-((if e.1=o then cf e.2 (t-1)else 0)+cS l o (t-1))else 0);have h3:cS (if t_ e.1 k=true then[(e.1,times AF e.2)]else[]) o t=if t_ o k=true then((if e.1=o then cf e.2 (t+1)else 0)-(if e.1=o then cf e.2 (t-1)else 0))else 0:=by
   by_cases c:e.1=o
   ·rw[c,aO rfl,aO rfl]
    cases t_ o k with
    | false=>rfl
    | true=>
     rw[aO rfl,aO rfl];show(if o=o then cf (times AF e.2) t else 0)+0=_;rw[aO rfl,abN,gf]
   ·rw[aM c,aM c];have:cS (if t_ e.1 k=true then[(e.1,times AF e.2)]else[]) o t=0:=Us λf hf=>by
     split at hf
     ·rw[bg.mp hf];exact c
     ·cases hf
    rw[this];split<;>rfl
  rw[h3];by_cases c:Wd.ex e.1 k=o
  ·rw[aO c,aO<|d.mp c];split<;>lia
  ·rw[aM c,aM λz=>c<|d.mpr z];split<;>lia
def yP{P:ag->Prop}(l:Ps):∀{D:Ps},(∀e∈D,P e.1)->(∀e∈l,P e.1)->∀e∈adds D l,P e.1:=by
 induction l with
 | nil=>intro D h _;exact h
 | cons f l j=>
  intro D h h';refine j (λe d=>?_) λe d=>h' e<|aS _ d;have d:e∈AM D f.1 (qo (vS D f.1) f.2):=d;unfold AM at d;split at d
  ·obtain⟨g,hg,rfl⟩:=bC.mp d;split
   ·exact h g hg
   ·exact h g hg
  ·rcases bq.mp d with z|z
   ·exact h e z
   ·rw[bg.mp z];exact h' f<|aR ..
def An{P:ag->Prop}{D:Ps}(h:∀e∈D,P e.1):∀e∈toS D,P e.1:=λe d=>by
 obtain⟨o,g,rfl⟩:=bC.mp d;obtain⟨f,hf,e⟩:=bC.mp ((lA _).mem_iff.mp (bQ.mp g).1)
 skip
 rw[<- e];exact h f hf
abbrev gX (k:Nat)(e:En)(Q:Ps):Ps:=if t_ e.1 k=true then BV (BV Q (Wd.ex e.1 k) e.2.2) e.1 (times AF e.2.2)else BV Q (Wd.ex e.1 k) e.2.2
theorem KS(k:Nat):∀(es:Es) (P:Ps),es.foldl (λQ e=>gX k e Q) P=adds P (bxL k<|sm es)
 | [],P=>rfl
 | e::es,P=>by
  show es.foldl (λQ e=>gX k e Q) (gX k e P)=adds P (((Wd.ex e.1 k,e.2.2)::(if t_ e.1 k=true then[(e.1,times AF e.2.2)]else[]))++bxL k (sm es));rw[KS k es,SJ];congr 1;unfold gX
  cases t_ e.1 k<;>rfl
def ab6{p:Pl}(h:Ok p)(hb:Bd C p)(t:Int):(cf p t).natAbs<=C:=by
 rw[<- Ow h.nd];exact hb.val t
def Ok.ZE{l:Pl}(h:Ok l){p:Int×Int}(hp:p∈l):cf l p.1=p.2:=by
 induction l with
 | nil=>cases hp
 | cons q l d=>
  rcases bG.mp hp with z|z
  ·rw[z];exact h.head
  ·show(if q.1=p.1 then q.2 else 0)+cf l p.1=p.2;have:=(bX.mp h.up).1 p z;rw[aM (),d h.tail z,c_]
end Su
namespace He
open PySem L2 Am
open Fw (Two rg Hr)
open Bl (SV)
open Su (t_)
meta abbrev Fn:=ag->Int->Int
abbrev dl (g:Int->Int)(t:Int):Int:=g (t+1)-g (t-1)
abbrev X (k:Nat)(f:Fn):Fn:=λo t=>f (Wd.ex o k) t+if t_ o k=true then dl (f o) t else 0
abbrev bk (o:ag):ag:=(List.range o.length).map λi:Nat=>((o.idxOf ((i:Int)+1):Nat):Int)+1
def nb{n k:Nat}{o:ag}(h:o.Perm<|rg n)(h0:1<=k)(h1:k<n):o.getD (k-1) 0≠o.getD k 0:=λz=>by
 have lo:o.length=n:=by rw[h.length_eq,Wd.mY]
 have nd:o.Nodup:=h.nodup_iff.mpr<|rj _ _;rw[Wd.nj (),Wd.nj ()]at z;have:=(dF nd).mp z
 lia
abbrev L (j:Nat)(f:Fn):Fn:=λo t=>f (o.map<|Wd.sw j) t+if t_ (bk o) j=true then dl (f o) t else 0
abbrev EqP (n:Nat)(f g:Fn):Prop:=∀o:ag,o.Perm (rg n)->∀t,f o t=g o t
def E7{n k:Nat}{o:ag}(h:o.Perm<|rg n)(h0:1<=k)(h1:k<n):(Wd.ex o k).Perm (rg n):=(Wd.Ws h0<|by rw[h.length_eq,Wd.mY];exact h1).trans h
abbrev Va (n:Nat)(w:am):Prop:=∀k∈w,1<=k/\k<n
abbrev Xw (w:am)(f:Fn):Fn:=w.foldl (λf k=>X k f) f
abbrev D (u:ag)(g:Int->Int):Fn:=λo t=>if o=u then g t else 0
theorem yQ{n:Nat}:∀(m:Nat) {u:ag},u.Perm (rg n)->Iv.inv u=m->∃w,Wd.qz (rg n) w/\Wd.led (rg n) w=u
 | 0,u,hu,hm=>by
  refine⟨[],trivial,(Fw.WV hu λk d=>?_).symm⟩;have:=Fw.Ja d.1 d.2.1 d.2.2
  lia
 | m+1,u,hu,hm=>by
  obtain⟨k,d⟩:=Fw.U0 (l:=u) ();have f:u.length=n:=by rw[hu.length_eq,Wd.mY]
  have g:=Fw.Ja d.1 d.2.1 d.2.2;obtain⟨w,h1,h2⟩:=yQ m (E7 hu d.1<|by rw[<- f];exact d.2.1) ();obtain⟨e1,e2⟩:=Su.aa9 (o:=u) d.1 d.2.1;refine⟨w++[k],Wd.qz.snoc h1 d.1 (by rw[Wd.mY,<- f];exact d.2.1)<|by rw[h2,e1,e2];exact d.2.2,?_⟩;rw[Wd.V4,h2];exact Fw.LN d.1 d.2.1
abbrev add (f g:Fn):Fn:=λo t=>f o t+g o t
def adl{n k:Nat}{l:Su.Ps}(h:∀x∈l,x.1.Perm<|rg n)(h0:1<=k)(h1:k<n):EqP n (Su.cS<|Su.bx k l) (X k<|Su.cS l):=λo p t=>by
 have d:∀{x:ag},x.Perm (rg n)->Su.Go n k x:=λ{x} hx=>⟨by rw[hx.length_eq,Wd.mY],nb hx h0 h1⟩;unfold Su.bx;rw[Su.IB<|Su.Gd.nil.adds _,Su.O5];show 0+_=_;rw[c_,Su.XI h0 h1 (λe f=>d<|h e f) t<|d p];rfl
end He
namespace He
open PySem L2 Am Po
open Fw (Two rg Hr)
open Su (t_ Ps cS)
abbrev cv:Pl->(Int->Int)->Int->Int
 | [],_,_=>0
 | q::p,g,t=>q.2 * g (t-q.1)+cv p g t
def Yc(p:Pl)(g h:Int->Int)(t:Int):cv p (λt=>g t+h t) t=cv p g t+cv p h t:=by
 induction p with
 | nil=>rfl
 | cons q p d=>
  show q.2 * (g (t-q.1)+h (t-q.1))+cv p _ t=(q.2 * g (t-q.1)+cv p g t)+(q.2 * h (t-q.1)+cv p h t);rw[d,Int.mul_add];lia
def L_(p:Pl)(t:Int):cv p (λ_=>0) t=0:=by
 induction p with
 | nil=>rfl
 | cons q p d=>
  show q.2 * 0+cv p _ t=0;rw[d,jO];rfl
def aa1(p q:Pl)(t:Int):cf (times p q) t=cv p (cf q) t:=by
 rw[Su.FI]
 induction p with
 | nil=>rfl
 | cons a p d=>
  show cf ((q.map λb=>(a.1+b.1,a.2 * b.2))++Jt p q) t=_;rw[Su.IS,Su.Ka,d];rfl
abbrev Nb (p:Pl)(f:Fn):Fn:=λo t=>cv p (f o) t
abbrev sw (n:Nat)(o:ag):am:=by
 classical
 exact if h:o.Perm (rg n)then(yQ _ h rfl).choose else[]
def abX{n:Nat}{o:ag}(h:o.Perm<|rg n):Wd.qz (rg n) (sw n o)/\Wd.led (rg n) (sw n o)=o:=by
 unfold sw;rw[dif_pos h];exact(yQ _ h rfl).choose_spec
abbrev RG (G:ag->Fn):Ps->Fn
 | []=>λ_ _=>0
 | e::m=>add (Nb e.2<|G e.1)<|RG G m
abbrev R (n:Nat)(m:Ps)(f:Fn):Fn:=RG (λo=>Xw (sw n o) f) m
def abE{n k:Nat}{m:Ps}(h0:1<=k)(h1:k<n)(J:∀x∈m,x.1.Perm<|rg n):∀x∈Su.bx k m,x.1.Perm (rg n):=Su.An (P:=λo=>o.Perm<|rg n) (Su.yP (P:=λo=>o.Perm<|rg n) _ (nofun) λx d=>by
 obtain⟨f,hf,d⟩:=fX.mp d
 rcases bG.mp d with z|z
 ·rw[z];exact E7 (J f hf) h0 h1
 ·split at z
  ·rw[bg.mp z];exact J f hf
  ·cases z)
abbrev scl (p:Pl)(l:Ps):Ps:=l.map λx=>(x.1,times p x.2)
def aac(p:Pl)(l:Ps):cS (scl p l)=Nb p (cS l):=by
 funext o t
 induction l with
 | nil=>exact(L_ p t).symm
 | cons e l d=>
  show(if e.1=o then cf (times p e.2) t else 0)+cS (scl p l) o t=cv p (λt=>(if e.1=o then cf e.2 t else 0)+cS l o t) t;rw[Yc,d];congr 1;by_cases c:e.1=o
  ·rw[aO c,aa1,show(λt=>if e.1=o then cf e.2 t else 0)=cf e.2 from funext λt=>aO c]
  ·rw[aM c,show(λt=>if e.1=o then cf e.2 t else(0:Int))=λ_=>0 from funext λt=>aM c,L_]
abbrev B (f:Fn):Fn:=λo=>f<|bk o
abbrev d0:Int->Int:=λt=>if t=0 then 1 else 0
end He
namespace Am
open PySem PySem.Spec PyProof.Rows L2
section
variable {α:Type}
theorem Kw:∀{l:List<|ag×α},(l.map Prod.fst).Nodup->∀a∈l,∀b∈l,a.1=b.1->a=b
 | [],_,_,h,_,_,_=>nomatch h
 | x::l,nd,a,ha,b,hb,e=>by
  obtain⟨h1,h2⟩:=dB.mp nd
  rcases bG.mp ha with j|f
  ·rcases bG.mp hb with g|d
   ·rw[j,g]
   ·subst j;exact absurd (e ▸ fP d) h1
  ·rcases bG.mp hb with g|d
   ·subst g;exact absurd (e ▸ fP f) h1
   ·exact Kw h2 a f b d e
end
end Am
namespace He
open PySem L2 Am Po
open Fw (Two rg Hr)
open Su (t_ Ps cS Gd vS toS adds bx)
def W2{D:Ps}(h:Gd D){e:ag×Pl}(J:e∈D):vS D e.1=e.2:=by
 rcases Su.xC (D:=D) (o:=e.1)with⟨d,h1,h2,h3⟩|⟨h1,_⟩
 ·rw[h3,Kw h.nd d h1 e J h2]
 ·exact absurd (fP J) h1
def Rf{D:Ps}(h:Gd D):(D.map Prod.fst).map (λk=>(k,vS D k))=D:=by
 rw[bF]
 conv=>rhs;rw[<- map_id D]
 exact cM λe d=>by
  show(e.1,vS D e.1)=e;rw[W2 h d]
def LM{D:Ps}(h:Gd D)(o:ag)(t:Int):cS D o t=cf (vS D o) t:=by
 conv=>lhs;rw[<- Rf h]
 rw[Su.IG h.nd];split
 ·rfl
 ·rename_i c
  rcases Su.xC (D:=D) (o:=o)with⟨e,h1,h2,_⟩|⟨_,h2⟩
  ·exact absurd (h2 ▸ fP h1) c
  ·rw[h2];rfl
def Ik{D:Ps}(h:Gd D):Gd (toS D):=by
 refine⟨?_,λe d=>?_⟩
 ·unfold toS;rw[bF,show(Prod.fst ∘ λo=>(o,vS D o))=id from rfl,map_id];exact((lA _).nodup_iff.mpr h.nd).filter _
 ·obtain⟨o,_,rfl⟩:=bC.mp d;exact h.v o
structure Cn (l:Ps):Prop where
 gd:Gd l
 eq:toS l=l
theorem Cn.toS{D:Ps}(h:Gd D):Cn (toS D):=⟨Ik h,Su.PX (Ik h) h λo t=>by rw[<- LM (Ik h),Su.IB h]⟩
abbrev ff (o:ag):bo:=((List.range<|o.length-1).find? λi=>t_ o<|i+1).map (·+1)
def Vu{o:ag}{k:Nat}(h:ff o=some k):1<=k/\k<o.length/\t_ o k=true:=by
 obtain⟨i,hi,rfl⟩:=bh.mp h;have h1:=cE.mp<|eZ hi;have h2:t_ o (i+1)=true:=je (p:=λi=>t_ o<|i+1) hi;exact⟨(),(),h2⟩
def acv(k:Nat)(l:Ps):Cn (bx k l):=.toS<|Gd.nil.adds _
def LY(l:Ps)(o:ag)(t:Int):cS (toS<|adds [] l) o t=cS l o t:=by
 rw[Su.IB<|Gd.nil.adds _,Su.O5];exact c_ _
abbrev BC (l m:Ps):Ps:=toS<|adds []<|l++m
def Wb{n:Nat}{l m:Ps}(pl:∀x∈l,x.1.Perm<|rg n)(pm:∀x∈m,x.1.Perm<|rg n):Cn (BC l m)/\(∀x∈BC l m,x.1.Perm<|rg n)/\cS (BC l m)=add (cS l) (cS m):=
 ⟨.toS<|Gd.nil.adds _,Su.An (P:=λo=>o.Perm<|rg n)<|Su.yP (P:=λo=>o.Perm<|rg n) _ (nofun) λx d=>(bq.mp d).elim (pl x)<|pm x,funext λo=>funext λt=>by
  show cS (toS<|adds []<|l++m) o t=_;rw[LY,Su.Th];rfl⟩
abbrev one (n:Nat):Ps:=[(rg n,[((0:Int),(1:Int))])]
end He
namespace He
open PySem L2 Am Po
open Fw (Two rg Hr)
open Su (t_ Ps cS Gd vS toS adds bx)
abbrev arr:Nat->ag->List (ag)
 | 0,_=>[[]]
 | m+1,l=>l.flatMap λx=>(arr m<|l.erase x).map (x::·)
theorem DA:∀{m:Nat}{l o:ag},o.Perm l->l.length=m->o∈arr m l
 | 0,l,o,p,h=>by
  have:l=[]:=dI.mp h;subst this;rw[p.eq_nil];exact bg.mpr rfl
 | m+1,l,[],p,h=>by rw[<- p.length_eq]at h;cases h
 | m+1,l,x::o,p,h=>by
  obtain⟨h1,h2⟩:=List.cons_perm_iff_perm_erase.mp p;refine fX.mpr ⟨x,h1,bC.mpr ⟨o,DA h2 ?_,rfl⟩⟩;rw[gO h1,h];rfl
def NJ{α:Type}[DecidableEq α]{ks L:List α}(nd:ks.Nodup)(h:∀x∈ks,x∈L):ks.length<=L.length:=by
 have:=pig L.length (ks.map λx=>L.idxOf x) ?_ λi hi=>?_
 ·rwa [aK]at this
 ·refine cT.mpr<|nd.imp_of_mem λ{a b} ha hb hab z=>hab ?_;have e1:=List.getElem_idxOf<|gT.mpr<|h a ha;have e2:=List.getElem_idxOf<|gT.mpr<|h b hb;rw[<- e1,<- e2];congr 1
 ·obtain⟨x,d,rfl⟩:=bC.mp hi;exact gT.mpr<|h x d
def Wn:∀n,n<6->(arr n<|rg n).length<=120:=by decide +kernel
def many{n:Nat}(hn:n<6){ks:List<|ag}(nd:ks.Nodup)(h:∀o∈ks,o.Perm<|rg n):ks.length<=120:=
 bI (NJ nd λo d=>DA (h o d)<|Wd.mY n) (Wn n hn)
structure FB (n P C:Nat)(f:Fn):Prop where
 c:∀o,o.Perm (rg n)->∀t,(f o t).natAbs<=C
 p:∀o,o.Perm (rg n)->∀t:Int,P<t.natAbs->f o t=0
def FB.mono{n P:Nat}{f:Fn}(h:FB n P C f)(hp:P<=P')(hc:C<=C'):FB n P' C' f:=⟨λo d t=>bI (h.c o d t) hc,λo d t g=>h.p o d t ()⟩
def FB.eq{n P:Nat}{f g:Fn}(h:FB n P C f)(e:EqP n g f):FB n P C g:=⟨λo d t=>by rw[e o d t];exact h.c o d t,λo d t j=>by rw[e o d t];exact h.p o d t j⟩
theorem FB.X{n P k:Nat}{f:Fn}(h:FB n P C f)(h0:1<=k)(h1:k<n):FB n (P+1) (3 * C) (X k f):=by
 refine⟨λo g t=>?_,λo g t j=>?_⟩
 ·have a:=h.c _ (E7 g h0 h1) t;have b:=h.c o g<|t+1;have d:=h.c o g<|t-1;unfold He.X dl;split<;>omega
 ·have a:=h.p _ (E7 g h0 h1) t (by omega);have b:=h.p o g (t+1) (by omega);have d:=h.p o g (t-1) (by omega);unfold He.X dl;split<;>omega
theorem FB.add{n P:Nat}{f g:Fn}(h:FB n P C f)(h':FB n P C' g):FB n P (C+C') (add f g):=by
 refine⟨λo d t=>?_,λo d t j=>?_⟩
 ·have a:=h.c o d t;have b:=h'.c o d t;show(f o t+g o t).natAbs<=_;omega
 ·show f o t+g o t=0;rw[h.p o d t j,h'.p o d t j];rfl
structure PB (Q c:Nat)(p:Pl):Prop where
 c:∀q∈p,q.2.natAbs<=c
 p:∀q∈p,q.1.natAbs<=Q
theorem aaw{n P c:Nat}{f:Fn}(h:FB n P C f){o:ag}(J:o.Perm<|rg n):∀{p:Pl},PB Q c p->(∀t,(cv p (f o) t).natAbs<=p.length * (c * C))/\∀t:Int,P+Q<t.natAbs->cv p (f o) t=0
 | [],_=>⟨λ_=>b7 _,λ_ _=>rfl⟩
 | q::p,b=>by
  obtain⟨g,m⟩:=aaw h J (p:=p) ⟨λx d=>b.c x<|aS _ d,λx d=>b.p x<|aS _ d⟩;have j:=b.c q<|aR ..;have B:=b.p q<|aR ..;refine⟨λt=>?_,λt k=>?_⟩
  ·show(q.2 * f o (t-q.1)+cv p (f o) t).natAbs<=(p.length+1) * (c * C);refine bI (Int.natAbs_add_le _ _) ?_;rw[Int.natAbs_mul,f6,Nat.add_comm];exact Nat.add_le_add (g t) (jv j<|h.c o J _)
  ·show q.2 * f o (t-q.1)+cv p (f o) t=0;rw[m t k,h.p o J _<|by omega,jO];rfl
theorem FB.Nb{n P c:Nat}{f:Fn}(h:FB n P C f){p:Pl}(b:PB Q c p):FB n (P+Q) (p.length * (c * C)) (Nb p f):=⟨λo d t=>(aaw h d b).1 t,λo d t g=>(aaw h d b).2 t g⟩
theorem Oj:∀{l:Pl}{a b:Int},l.Pairwise (λp q=>p.1<q.1)->(∀p∈l,a<=p.1/\p.1<=b)->l.length<=(b-a+1).toNat
 | [],_,_,_,_=>b7 _
 | p::l,a,b,h,hb=>by
  obtain⟨h1,h2⟩:=bX.mp h;have p1:=hb p<|aR ..;have i:=Oj (l:=l) (a:=a+1) (b:=b) h2 λq d=>by
   have:=h1 q d;have:=hb q (aS _ d)
   lia
  rw[bH]
  lia
def Y8{p:Pl}{P c:Nat}(h:Ok p)(b:PB P c p):p.length<=2 * P+1:=by
 have:=Oj (a:=-(P:Int)) (b:=P) h.up λq d=>by have:=b.p q d;omega
 omega
def FB.pb{n P:Nat}{l:Ps}(h:FB n P C<|cS l)(hc:Gd l)(pl:∀x∈l,x.1.Perm<|rg n){e:ag×Pl}(J:e∈l):PB P C e.2/\e.2.length<=2 * P+1:=by
 have ok:=hc.ok e J;have f:∀q∈e.2,cS l e.1 q.1=q.2:=λq d=>by
  rw[LM hc,W2 hc J];exact Su.Ok.ZE ok d
 have b:PB P C e.2:=⟨λq d=>by rw[<- f q d];exact h.c _ (pl e J) _,λq d=>by
  refine Nat.le_of_not_lt λz=>ok.nz q d ?_;rw[<- f q d];exact h.p _ (pl e J) _ z⟩
 exact⟨b,Y8 ok b⟩
structure Sz (n P C:Nat)(l:Ps):Prop where
 cn:Cn l
 pm:∀x∈l,x.1.Perm (rg n)
 fb:FB n P C<|cS l
def Sz.pb{n P:Nat}{l:Ps}(h:Sz n P C l){e:ag×Pl}(J:e∈l):PB P C e.2/\e.2.length<=2 * P+1:=h.fb.pb h.cn.gd h.pm J
def Sz.many{n P:Nat}{l:Ps}(hn:n<6)(h:Sz n P C l):l.length<=120:=by
 have:=He.many hn h.cn.gd.nd λo f=>by obtain⟨e,d,rfl⟩:=bC.mp f;exact h.pm e d
 rwa [aK]at this
def Sz.mono{n P:Nat}{l:Ps}(h:Sz n P C l)(hp:P<=P')(hc:C<=C'):Sz n P' C' l:=⟨h.cn,h.pm,h.fb.mono hp hc⟩
theorem Sz.bx{n P k:Nat}{l:Ps}(h:Sz n P C l)(h0:1<=k)(h1:k<n):Sz n (P+1) (3 * C) (bx k l):=⟨acv _ _,abE h0 h1 h.pm,(h.fb.X h0 h1).eq<|adl h.pm h0 h1⟩
def Sz.sum{n P c:Nat}{l:Ps}(h:Sz n P C l)(h':Sz n P c m):Sz n P (C+c) (BC l m):=by
 obtain⟨a,b,d⟩:=Wb h.pm h'.pm;exact⟨a,b,by rw[d];exact h.fb.add h'.fb⟩
end He
namespace Su
open Am Po PySem L2
def Mn{D:Es}{r:Nat}{p:Pl}:∃e,fE (q_ D o r p) o=some e/\e.2.1=r:=by
 unfold q_;by_cases c:(fE D o).isSome=true
 ·rw[aO c];obtain⟨e,d⟩:=fF.mp c;unfold fE at d ⊢;rw[iL];have eq:((λe:En=>decide<|e.1=o) ∘ λe:En=>if e.1=o then(e.1,r,p)else e)=λe:En=>decide (e.1=o):=by
   funext x
   show decide ((if x.1=o then(x.1,r,p)else x).1=o)=_;by_cases z:x.1=o
   ·rw[aO z]
   ·rw[aM z]
  rw[eq,d];have:=je d;have:=bJ this;exact⟨_,rfl,by show(if e.1=o then(e.1,r,p)else e).2.1=r;rw[aO this]⟩
 ·rw[aM c];have c:fE D o=none:=Option.not_isSome_iff_eq_none.mp c;unfold fE at c ⊢;rw[List.find?_append,c];exact⟨(o,r,p),by rw[cO,aX rfl];rfl,rfl⟩
end Su
namespace He
open PySem L2 Am Po
open Fw (Two rg Hr)
open Su (t_ Ps cS Gd vS toS adds bx)
def Sz.of{n P:Nat}{l:Ps}(h:Cn l)(pm:∀x∈l,x.1.Perm<|rg n)(pb:∀e∈l,PB P C e.2):Sz n P C l:=by
 refine⟨h,pm,⟨λo f t=>?_,λo f t k=>?_⟩⟩
 ·rw[LM h.gd]
  rcases Su.xC (D:=l) (o:=o)with⟨e,h1,_,h3⟩|⟨_,h2⟩
  ·rw[h3];exact Su.ab6 (h.gd.ok e h1) (λq d=>(pb e h1).c q d) t
  ·rw[h2];exact b7 _
 ·rw[LM h.gd]
  rcases Su.xC (D:=l) (o:=o)with⟨e,h1,_,h3⟩|⟨_,h2⟩
  ·rw[h3];have:∀q∈e.2,q.1≠t:=λq d z=>by have:=(pb e h1).p q d;rw[z]at this;lia
   clear h3;revert this;generalize e.2=p0;intro this
   induction p0 with
   | nil=>rfl
   | cons q p j=>
    have z:=this q<|aR ..;have i:=j λx g=>this x<|aS _ g;show(if q.1=t then q.2 else 0)+cf p t=0;rw[aM z,i];rfl
  ·rw[h2];rfl
def Uq{o:ag}:((lE 1 (o.length:Int)).filter λk=>decide<|o.getD (k-1).toNat 0>o.getD k.toNat 0).head?=(ff o).map λk:Nat=>(k:Int):=by
 rw[List.head?_filter];unfold lE ff;rw[iL,show((o.length:Int)-1).toNat=o.length-1 by lia,gB];have:((λk:Int=>decide<|o.getD (k-1).toNat 0>o.getD k.toNat 0) ∘ λk:Nat=>(1:Int)+(k:Int))=λi:Nat=>t_ o (i+1):=by
  funext i
  show decide (o.getD ((1:Int)+(i:Int)-1).toNat 0>o.getD ((1:Int)+(i:Int)).toNat 0)=decide _;rw[show((1:Int)+(i:Int)-1).toNat=i+1-1 by lia,show((1:Int)+(i:Int)).toNat=i+1 by lia]
 rw[this];congr 1
 funext i
 show(1:Int)+(i:Int)=((i+1:Nat):Int)
 lia
end He
namespace He
open PySem L2 Am Po
open Fw (Two rg Hr)
open Su (t_ Ps cS Gd vS toS adds bx)
abbrev Y (k:Nat)(f:Fn):Fn:=λo t=>X k f o t-dl (f o) t
abbrev LB:Pl:=[((-1:Int),(-1:Int)),((1:Int),(1:Int))]
abbrev Le (p:Pl)(l:Ps):Ps:=toS<|adds []<|scl p l
def YO(p:Pl)(l:Ps):cS (Le p l)=Nb p (cS l):=by
 funext o t
 unfold Le;rw[LY,aac]
def X0{n:Nat}{p:Pl}{l:Ps}(pl:∀x∈l,x.1.Perm<|rg n):Cn (Le p l)/\∀x∈Le p l,x.1.Perm (rg n):=
 ⟨.toS<|Gd.nil.adds _,Su.An (P:=λo=>o.Perm<|rg n) (Su.yP (P:=λo=>o.Perm<|rg n) _ (nofun) λx d=>by
  obtain⟨y,hy,rfl⟩:=bC.mp d;exact pl y hy)⟩
abbrev yb (k:Nat)(l:Ps):Ps:=BC (bx k l)<|Le LB l
abbrev ybw (w:am)(l:Ps):Ps:=w.foldl (λl k=>yb k l) l
abbrev tO (n:Nat)(w:am):Ps:=ybw w<|one n
end He
namespace He
open PySem L2 Am Po
open Fw (Two rg Hr Dn)
open Su (t_ Ps cS Gd vS toS adds bx)
theorem Sz.Le{n P c:Nat}{l:Ps}(h:Sz n P C l){p:Pl}(b:PB Q c p):Sz n (P+Q) (p.length * (c * C)) (Le p l):=by
 obtain⟨d,f⟩:=X0 (p:=p) h.pm;exact⟨d,f,by rw[YO];exact h.fb.Nb b⟩
end He
namespace Am
open PySem L2 Bl
abbrev oN:Nat->Int->ag->ag
 | 0,_,ms=>ms
 | _+1,_,[]=>[]
 | x+1,d,m::ms=>(m+d)::oN x d ms
theorem yS:∀(x:Nat) (d:Int) (ms:ag),(oN x d ms).length=ms.length
 | 0,_,_=>rfl
 | _+1,_,[]=>rfl
 | x+1,d,m::ms=>dG (·+1)<|yS x d ms
theorem wo:∀(x:Nat) (d:Int) (ms:ag) (j:Nat),(oN x d ms)[j]?=(ms[j]?).map λm=>if j<x then m+d else m
 | 0,d,ms,j=>by simp[oN]
 | _+1,_,[],j=>by simp[oN]
 | x+1,d,m::ms,0=>by simp[oN]
 | x+1,d,m::ms,j+1=>by
  show(oN x d ms)[j]?=_;rw[wo x d ms j];simp
theorem Bs:∀(x:Nat) (d:Int) (ms:ag) (m:Int),ms[x]?=some m->(oN x d ms).set x (m+d)=oN (x+1) d ms
 | 0,d,[],m,h=>by simp at h
 | 0,d,k::ms,m,h=>by simp at h;subst h;rfl
 | x+1,d,[],m,h=>by simp at h
 | x+1,d,k::ms,m,h=>by
  show(k+d)::(oN x d ms).set x (m+d)=(k+d)::oN (x+1) d ms;rw[Bs x d ms m<|by simpa using h]
abbrev tX (n:Nat)(xs ys:ag)(t:Nat):ag:=(List.range n).map λ(j:Nat)=>cnt (xs.take t) ((j:Int)+1)-cnt (ys.take t) ((j:Int)+1)
def pW{n:Nat}{t:Nat}:(tX n xs ys t).length=n:=by simp[tX]
def t6{n:Nat}{xs ys:ag}{t j:Nat}(h:j<n):(tX n xs ys t)[j]?=some (cnt (xs.take t) ((j:Int)+1)-cnt (ys.take t) ((j:Int)+1)):=by
 unfold tX;rw[aQ,cK h];rfl
def UY{n:Nat}:tX n xs ys 0=List.replicate n 0:=by
 unfold tX;refine dj λj=>?_;rw[aQ,fR];by_cases d:j<n
 ·rw[cK d,aO d];simp[cnt]
 ·rw[cj<|by simpa using d,aM d];rfl
def HY{n:Nat}{xs ys:ag}{t:Nat}(J:t<xs.length)(hy:t<ys.length):oN ys[t].toNat (-1) (oN xs[t].toNat 1 (tX n xs ys t))=tX n xs ys (t+1):=by
 refine dj λj=>?_;rw[wo,wo];by_cases d:j<n
 ·rw[t6 d,t6 d,G4 J,G4 hy,dQ,dQ];congr 1;have e1:(j<xs[t].toNat)=((j:Int)+1<=xs[t]):=by apply propext;lia
  have e2:(j<ys[t].toNat)=((j:Int)+1<=ys[t]):=by apply propext;lia
  dsimp[e1,e2];split<;>split<;>lia
 ·rw[cj<|by rw[pW];lia,cj<|by rw[pW];lia];rfl
theorem AK:∀{ns:ag},ns≠[]->∃m,maxOf ns=some m
 | [],h=>absurd rfl h
 | [x],_=>⟨x,rfl⟩
 | x::y::ys,_=>by
  obtain⟨m,e⟩:=AK (ns:=y::ys) (by simp);exact⟨if m>x then m else x,by show(maxOf (y::ys)).map _=_;rw[e];rfl⟩
def QY{n:Nat}{ns:ag}(h:j4 S n=some (ns.map .int))(h0:ns≠[]):∃m,N2 (.ref n) S=.ok (.int m) S/\m∈ns/\∀a∈ns,a<=m:=by
 obtain⟨m,e⟩:=AK h0;refine⟨m,?_,BH e⟩;show opt (j4 S n) _=_;rw[h,kL,ints_map,kL,e,kL]
def QL{S:j5}{n:Nat}{x:A}{k:Nat}(h:j4 S n=some [x])(J:k<=16777216):wG (.ref n) (.int k) S=.ok (.ref S.length) (S++[.lst<|List.replicate k x]):=by
 show opt (j4 S n) _=_;rw[h,kL];have e:(List.replicate k [x]).flatten=List.replicate k x:=by
  induction k with
  | zero=>rfl
  | succ k d=>rw[dg,d7,d ()];rfl
 rw[mV ⟨(),(),by rw[dh,di];simpa using J⟩,di,e]
def FF{xs:ag}{n:Int}(h:xs.Perm<|lE 1<|n+1)(hn:0<=n):(xs.length:Int)=n:=by
 rw[h.length_eq,nR];lia
def GN{xs:ag}{n x:Int}(h:xs.Perm<|lE 1<|n+1)(J:x∈xs):1<=x/\x<=n:=by
 have:=qt.mp (h.mem_iff.mp J)
 lia
end Am
namespace K54
open PySem L2 Am
abbrev Rw (S:j5)(b:Nat):Prop:=∃g st:Int,j4 S b=some [.int g,.int st]/\0<=g/\0<=st/\st<4294967296
def Rw.kp{c:Nat->Prop}(h:Rw S b)(k:Kp c S S')(hb:¬c b):Rw S' b:=by
 obtain⟨g,st,e,q⟩:=h;exact⟨g,st,k.lst b _ hb e,q⟩
def Uz{ns:ag}{k:Int}(h0:0<=k):∃c,rm [.frz<|ns.map .int,.int k] S=.ok (.int c) S:=by
 unfold rm wZ wW;dsimp[kY,ao,lX,Nat.reduceAdd,Nat.reduceSub,aK];by_cases d:k<(ns.length:Int)
 ·have hn:k.toNat<ns.length:=()
  have ha:rF (ns.map A.int) k=some (.int ns[k.toNat]):=xJ (k:=k.toNat) ()<|aH hn;rw[aX d];dsimp[kY,ao,ha];exact⟨_,rfl⟩
 ·rw[bw d];dsimp[kY,ao];exact⟨_,rfl⟩
def V9{S:j5}{c k:Int}(h0:0<=k)(h1:k<=100):∃S',tZ [.int c,.int k] S=.ok (.ref S.length) S'/\Rw S' S.length/\nK S S':=by
 have e3:Z1 (.int 10) (.int 18)=λS=>R.ok (.int 1000000000000000000) S:=by
  funext S;exact mV ⟨by decide,by decide,by decide⟩
 have d:∀x:Int,Dr (.int x) (.int 2147483647)=λS=>R.ok (.int<|x % 2147483647) S:=λx=>by funext S;exact F0 ⋯
 have f:∀x:Int,wG (.int x) (.int 69621)=λS=>R.ok (.int<|x * 69621) S:=λx=>by funext S;exact mul_r ⋯ ⋯
 have g:∀x:Int,wG (.int 7919) (.int x)=λS=>R.ok (.int<|7919 * x) S:=λx=>by funext S;exact Ss ⋯ ⋯
 have p:∀x:Int,0<=x % 2147483647:=λx=>jf _ ⋯;have j:∀x:Int,x % 2147483647<4294967296:=λx=>by have:=ie x (show(0:Int)<2147483647 by decide);lia
 have q:0<=(if c<0 then -c else c):=by split<;>lia
 unfold tZ yt yI;dsimp[kY,ao,lX,Nat.reduceAdd,Nat.reduceSub,e3,d,f,g];by_cases m:(if c<0 then -c else c)<1000000000000000000
 ·rw[aX m];dsimp[kY,ao,e3,d,f,g];exact⟨_,rfl,⟨_,_,ku,gC 0,p _,j _⟩,Kp.refl.lay⟩
 ·rw[bw m];dsimp[kY,ao,e3,d,f,g];exact⟨_,rfl,⟨_,_,ku,q,p _,j _⟩,Kp.refl.lay⟩
def QE{S:j5}{g st:Int}(J:j4 S b=some [.int g,.int st])(hs:0<=st)(U:st<4294967296):∃d st',pH [.ref b] S=.ok (.int d) (S.set b<|.lst [.int g,.int st'])/\0<=st'/\st'<4294967296:=by
 have hb:=nY J;have f:B9 2 1=some 1:=uK rfl ⋯;have e1:0<=(st * 48271+11) % 2147483647:=jf _ ⋯;have e2:(st * 48271+11) % 2147483647<2147483647:=ie _ ⋯;refine⟨(st * 48271+11) % 2147483647 * 16807 % 2147483629 / 8,(st * 48271+11) % 2147483647,?_,e1,()⟩;unfold pH uQ uT;rw[xP];simp[J,zu,N8,f,Ss (show -18446744073709551616<st by lia) (),F0<|show(0:Int)<2147483647 by decide,oq hb,Io (show(0:Int)<8 by decide) ⋯,Ss (show -18446744073709551616<(st * 48271+11) % 2147483647 by lia) (),F0<|show(0:Int)<2147483629 by decide]
def digit{m:Int}(h:Rw S b)(h1:1<=m)(h2:m<=1000):∃d S',mE [.ref b,.int m] S=.ok (.int d) S'/\0<=d/\d<m/\Rw S' b/\Kp (·=b) S S':=by
 obtain⟨g,st,q,hg,hs,k⟩:=h;have hb:=nY q;have i0:B9 2 0=some 0:=uK rfl ⋯;have fin:∀d p f:Int,0<=d->d<m->0<=p->0<=f->f<4294967296->mE [.ref b,.int m] S=.ok (.int d) (S.set b<|.lst [.int p,.int f])->∃d S',mE [.ref b,.int m] S=.ok (.int d) S'/\0<=d/\d<m/\Rw S' b/\Kp (·=b) S S':=
  λd p f C L M J K e=>⟨d,_,e,C,L,⟨p,f,oq hb,M,J,K⟩,Kp.refl.set<|.inl rfl⟩
 by_cases j:0<g
 ·refine fin (g % m) (g / m) st (jf _ ()) (ie _ ()) (Int.ediv_nonneg hg ()) hs k ?_;unfold mE r_ se;rw[xP];simp[q,zu,N8,j,F0<|show 0<m by lia,Io (show 0<m by lia)<|show m<1073741824 by lia,i0]
 ·obtain⟨d,f,e1,B,G⟩:=QE q hs k;refine fin (d % m) g f (jf _ ()) (ie _ ()) hg B G ?_;unfold mE r_ se;rw[xP];simp[q,zu,N8,j,F0<|show 0<m by lia,e1,show ¬(1000<m)by lia]
theorem uz:∀(l:ag) (j:Nat) (h:j<l.length),(l[j]::l.eraseIdx j).Perm l
 | x::l,0,_=>fV _
 | x::l,j+1,h=>(List.Perm.swap x _ _).trans<|List.Perm.cons x<|uz l j<|iM h
def Mj{J fs:ag}{j:Nat}(h:j<J.length):((fs++[J[j]])++J.eraseIdx j).Perm (fs++J):=by
 rw[bT];refine List.Perm.append_left fs ?_
 skip
 exact uz J j h
def O3{d:Int}{n:Nat}(h0:0<=d)(h:d.toNat<n):seqIndex? d n=some d.toNat:=by
 unfold seqIndex?;simp
 lia
theorem CW{α β:Type}(f:α->β):∀(l:List α) (k:Nat),(l.map f).eraseIdx k=(l.eraseIdx k).map f
 | [],_=>rfl
 | _::_,0=>rfl
 | x::l,k+1=>dG (f x::·)<|CW f l k
def Tp{n:Int}(h:Rw S b)(h1:1<=n)(h2:n<=20):∃(xs:ag) (S':j5),qv [.ref b,.int n] S=.ok (.tup<|xs.map .int) S'/\xs.Perm (lE 1<|n+1)/\Rw S' b/\Kp (·=b) S S':=by
 have U:b<S.length:=by obtain⟨_,_,e,_⟩:=h;exact nY e
 unfold qv vG vq;dsimp[kY,ao,lX,Nat.reduceAdd,Nat.reduceSub,MM<|GF (show(-1000000:Int)<=1 by decide) ⋯ (show -1000000<=n+1 by lia) () (),aV];refine zO (lo:=0) (hi:=n) (S1:=S++[.lst<|(lE 1<|n+1).map .int]++[.lst []]) (tV (by dsimp[kY,ao])<|qK () ())
  (λi τ S1=>∃(M:A) (f fs:ag),τ=[.ref b,.int n,.ref S.length,.ref<|S.length+1,M]/\j4 S1 S.length=some (f.map .int)/\j4 S1 (S.length+1)=some (fs.map .int)/\(f.length:Int)+i=n/\(fs++f).Perm (lE 1<|n+1)/\Rw S1 b/\Kp (·=b) S S1)
  (λr=>∃(xs:ag) (S':j5),RS.end (RS.seq r _)=.ok (.tup<|xs.map .int) S'/\xs.Perm (lE 1<|n+1)/\Rw S' b/\Kp (·=b) S S') ?_ ?_ ?_
 ·refine⟨.unb,lE 1<|n+1,[],rfl,mX ku,?_,by rw[nR];lia,fV _,h.kp (c:=λ_=>False) (Kp.refl.lay.lay) λz=>z,Kp.refl.lay.lay⟩;have:j4 (S++[.lst<|(lE 1<|n+1).map .int]++[.lst []]) (S++[O.lst<|(lE 1<|n+1).map .int]).length=some []:=ku;simpa using this
 ·rintro i τ S1 hi ⟨M,f,fs,rfl,J,C,hn,hp,hb,G⟩;left;obtain⟨d,S2,e2,d0,W,N,j⟩:=digit (m:=(f.length:Int)) hb () ();have p:=j.lst S.length _ () J;have k:=j.lst (S.length+1) _ () C;have B:d.toNat<f.length:=()
  have V:=nY k;have T:=nY p;have P:fs.length<=20:=by
   have:=hp.length_eq;rw[aV,nR]at this
   lia
  have L:seqIndex? d f.length=some d.toNat:=O3 d0 B;have K:j4 (S2.set S.length<|.lst<|(f.map A.int).eraseIdx d.toNat) (S.length+1)=some (fs.map .int):=by rw[p8 ()];exact k
  unfold wM;dsimp[kY,ao,J,C,aK,e2,p,HC,mV<|show -(2 ^ 63:Int)<=d/\d<2 ^ 63 by lia,L,aQ,aH B,dQ,K,CN<|show fs.length<16777216 by lia];refine⟨_,_,rfl,_,f.eraseIdx d.toNat,fs++[f[d.toNat]],rfl,?_,?_,?_,(Mj B).trans hp,?_,?_⟩
  ·rw[p8 (),oq T,CW]
  ·rw[oq<|by rw[bW];exact V,bS];rfl
  ·rw[List.length_eraseIdx_of_lt B];lia
  ·obtain⟨g,st,e,q⟩:=N;exact⟨g,st,by rw[p8 (),p8 ()];exact e,q⟩
  ·exact((G.trans j).set<|.inr<|aP _).set (.inr ())
 ·rintro τ S1 ⟨M,f,fs,rfl,J,C,hn,hp,hb,G⟩;have:f=[]:=dI.mp ();subst this;exact⟨fs,S1,by dsimp[kY,ao,C],by simpa using hp,hb,G⟩
open Po (Pl Ok Bd)
def Pw{S:j5}{D:Pl}(J:mW S d=some (Po.iv D))(U:D.length<=16777216):∃S',l9 [.ref d] S=.ok (.ref<|S.length+1) S'/\j4 S' (S.length+1)=some (Po.pl<|Po.LH D)/\nK S S':=by
 obtain⟨S',e,h1,h2⟩:=YV J U;refine⟨S',?_,h1,h2⟩;unfold l9 qE qB;dsimp[kY,ao,lX,Nat.reduceAdd,Nat.reduceSub];rw[show lJ [none,some 0] _ _ _ _ _ _=_ from e];rfl
def Wi{S:j5}{n:Nat}{a b:Pl}(hn:j4 S n=some (Po.pl a))(J:j4 S m=some (Po.pl b))(ha:Ok a)(U:a.length+b.length<16777216) :
  ∃(L:Nat) (S':j5),BN [.ref n,.ref m] S=.ok (.ref L) S'/\j4 S' L=some (Po.pl<|Po.qo a b)/\S.length<=L/\nK S S':=by
 have f:mW (S++[.rC<|Po.iv a]) S.length=some (Po.iv a):=Hs;obtain⟨j,g,T,e,d,kp⟩:=We (S:=S++[.rC<|Po.iv a]) (S1:=S++[.rC<|Po.iv a]) (x0:=.ref n) (x1:=.ref m) (x3:=.unb) (x4:=.unb) (src:=xQ) (l:=b) (show xQ _ _=_ from oA (by dsimp[kY,ao])<|mX J) (mX J) f U;have ln:=Po.rf b a;obtain⟨S',e2,h1,h2⟩:=Pw d ();have k1:nK S T:=(Kp.refl.lay (o:=.rC<|Po.iv a)).old kp λq k _ z=>()
 refine⟨T.length+1,S',?_,by rw[h1,<- Po.Vf ha];rfl,by have:=k1.len;lia,k1.trans h2⟩;unfold BN Ie IJ;dsimp[kY,ao,lX,Nat.reduceAdd,Nat.reduceSub,C3,hn,Po.Ro,Po.KW,Po.Lp ha];rw[show nF xQ _ GC _ _=_ from e];dsimp[kY,ao,e2]
def CG(f:Int×Int->A)(hf:∀p τ S,NN (f p) τ S=NN (Po.pA p) τ S){S:j5}{n:Nat}{a b:Pl}(hn:j4 S n=some (a.map f))(J:j4 S m=some (Po.pl b))(U:a.length * b.length<16777216)(ha:∀p∈a,p.2.natAbs<big)(hb:∀p∈b,p.2.natAbs<big) :
  ∃(L:Nat) (S':j5),uq [.ref n,.ref m] S=.ok (.ref L) S'/\j4 S' L=some (Po.pl<|Po.times a b)/\S.length<=L/\nK S S':=by
 have g:mW (S++[.rC []]) S.length=some []:=Hs;obtain⟨B,j,C,G,T,e,d,kp⟩:=Jc f hf (S:=S++[.rC []]) (x3:=.unb) (x4:=.unb) (x5:=.unb) (x6:=.unb) (mX hn) (mX J) g U ha hb;have ln:=Po.rf (Po.Jt a b) [];rw[Po.DX,cP,cG]at ln;obtain⟨S',e2,h1,h2⟩:=Pw d ();have k1:nK S T:=(Kp.refl.lay (o:=.rC [])).old kp λq k _ z=>()
 refine⟨T.length+1,S',?_,h1,by have:=k1.len;lia,k1.trans h2⟩;unfold uq D7 EA;dsimp[kY,ao,lX,Nat.reduceAdd,Nat.reduceSub,Mk];rw[show nF Cs _ C2 _ _=_ from e];dsimp[kY,ao,e2]
end K54
namespace K54
open PySem L2 Am
open Po (Pl Ok Bd)
open Su (Es At Vl)
def aay{S:j5}{r:Nat}{D:Es}{o:ag}{p:Pl}{k:Nat}(J:kG S d=some (D.map Su.kv))(U:At S D)(hv:Vl k b D)(Z:j4 S r=some (Po.pl p))(hl:D.length<16777216)(hk:k+p.length<16777216) :
  ∃(L:Nat) (S':j5),lH [.ref d,.tup<|o.map .int,.ref r] S=.ok .non S'/\kG S' d=some ((Su.q_ D o L<|Po.qo (Su.vS (Su.sm D) o) p).map Su.kv)/\At S' (Su.q_ D o L<|Po.qo (Su.vS (Su.sm D) o) p)/\S.length<=L/\Kp (·=d) S S':=by
 obtain⟨x,ex,q⟩:=Su.get_or (o:=o) J U;have m:=hv.v o;obtain⟨L,S2,e2,h1,h2,k2⟩:=Wi q (mX (o:=.lst []) Z) m.1 ();have j:nK S S2:=(Kp.refl.lay).trans k2;have f:=j.dct _ _ (λz=>z) J;have g:kG (S++[.lst []]) d=some (D.map Su.kv):=Su.zM J;refine⟨L,S2.set d<|.dct<|(Su.q_ D o L<|Po.qo (Su.vS (Su.sm D) o) p).map Su.kv,?_,Su.zV<|Su.ET f,?_,by simp at h2;lia,j.of0.Fe<|.inl rfl⟩
 ·unfold lH uE uA;have C:newL [] S=.ok (.ref S.length) (S++[.lst []]):=lG (show 0<=16777216 by decide);dsimp[kY,ao,lX,Nat.reduceAdd,Nat.reduceSub,Su.Vd,Su.Wh,J,dQ,C,Su.V_,g,ex,e2,Su.DL,Su.Gh,f,CN<|show(D.map Su.kv).length<16777216 by rw[aK];exact hl,Su.Pd (p:=Po.qo (Su.vS (Su.sm D) o) p)]
 ·refine(Su.At.put (U.zA j) h1).kp (Kp.refl.Fe<|.inl rfl) λe B z=>?_
  rcases Su.vV B with y|y
  ·exact Su.uo J (U e y) z
  ·rw[y]at z;exact Su.uo f h1 z
def Hj{S:j5}{D:Es}(U:kG S d=some (D.map Su.kv))(Z:At S D)(J:∀e∈D,e.1≠[])(hl:D.length<=16777216) :
  ∃(n:Nat) (S':j5),pN [.ref d] S=.ok (.ref n) S'/\j4 S' n=some ((Su.xB D λp=>!p.isEmpty).map Su.ent)/\At S' (Su.xB D λp=>!p.isEmpty)/\S.length<n/\nK S S':=by
 have B:=Su.Qk U J;obtain⟨n,S',e,h1,h2,h3,k⟩:=Su.Sd (cap:=[some 0]) (τ:=[.ref d]) (src:=oM<|kK (f1 Ez)<|jY (jZ 0)<|ki) (t:=rL<|ko zC (jZ 1)<|jZ 0) (e:=rW<|jY (jZ 0)<|jY (ko zC (jZ 1)<|jZ 0)<|ki) U Z (oA (by dsimp[kY,ao,B]) ku) (λp=>!p.isEmpty)
  (λo r q T g f m=>⟨T,by
   have j:A.U8 (.ref r) T=some (!q.isEmpty):=by
    show(j4 T r).map _=_;rw[m]
    cases q<;>rfl
   dsimp[kY,ao,Su.B7,Su.zJ,g,f,j],Kp.refl⟩)
  (λo r T g f=>by
   dsimp[kY,ao,Su.B7,Su.zJ,g,f];exact pX<|show 2<=16777216 by decide) hl
 refine⟨n,S',?_,h1,h2,h3,k⟩;unfold pN Ba AJ;dsimp[kY,ao,lX,Nat.reduceAdd,Nat.reduceSub,e]
def xM:Su.Dm lH:=λh1 h2 h3 d f h6=>aay h1 h2 h3 d f h6
open Po (Pl Ok Bd)
open Su (Es At Vl)
structure Sm (S:j5)(n:Nat)(es:Es):Prop where
 l:j4 S n=some (es.map Su.ent)
 a:At S es
def Sm.kp{n:Nat}(h:Sm S n es)(k:nK S S'):Sm S' n es:=⟨k.lst _ _ (λz=>z) h.l,h.a.zA k⟩
def uJ{a b:ag}(h:a.length=b.length):mL [.tup<|a.map .int,.tup<|b.map .int] S=.ok .non S:=by
 unfold mL vL vJ;have:((a.length:Int) == (b.length:Int))=true:=by rw[h];exact b9 _
 dsimp[kY,mT,ao,lX,Nat.reduceAdd,Nat.reduceSub,aK,this,c7]
def G1{n:Nat}{xs:ae}(h:j4 S n=some xs):A.U8 (.ref n) S=some (!xs.isEmpty):=by
 show(j4 S n).map _=_;rw[h];rfl
def D8{n N:Nat}{es fs:Es}(h:Sm S n es)(h':Sm S m fs)(h1:∀e∈es,e.1.length=N)(h2:∀e∈fs,e.1.length=N):qy [.ref n,.ref m] S=.ok .non S:=by
 unfold qy vE uX;dsimp[kY,mT,ao,lX,Nat.reduceAdd,Nat.reduceSub,G1 h.l,G1 h'.l]
 cases es with
 | nil=>dsimp[kY,mT,ao,iC,jL,c7]
 | cons e es=>cases fs with
  | nil=>dsimp[kY,mT,ao,iC,jL,c7,bL,jB,c6,G1 h'.l]
  | cons f fs=>
   have q:=uJ (S:=S)<|(h1 e<|aR ..).trans (h2 f<|aR ..).symm;have g:=h.l;have d:=h'.l;rw[bL]at g d;dsimp[kY,mT,ao,bL,jB,c6,G1 d,g,d,zu,Su.ent,q]
def ZJ{l:ag}{k:Nat}{i:Int}(h:i=k)(J:k<l.length):rF (l.map A.int) i=some (.int<|l.getD k 0):=xJ h<|by rw[aI,aH J];rfl
def UJ{l:ag}{k:Nat}:((l.map A.int).set (k-1)<|.int<|l.getD k 0).set k (.int<|l.getD (k-1) 0)=(Wd.ex l k).map A.int:=by
 unfold Wd.ex;rw[gH,gH]
def abQ{f g:A->A->j5->R A}{ca cb J:Ex}{a c:A}(h1:ca τ S=.ok a S)(h2:cb τ S=.ok b S)(h3:f a b S=.ok (.bl true) S)(U:J τ S=.ok c S):Sj f g ca cb J τ S=g b c S:=by
 unfold Sj;rw[h1,R.nk,h2,R.nk,h3,R.nk];unfold kCh;show(J τ S).bind _=_;rw[U];rfl
def adI{f g:A->A->j5->R A}{ca cb J:Ex}{a:A}(h1:ca τ S=.ok a S)(h2:cb τ S=.ok b S)(h3:f a b S=.ok (.bl false) S):Sj f g ca cb J τ S=.ok (.bl false) S:=by
 unfold Sj;rw[h1,R.nk,h2,R.nk,h3,R.nk];rfl
def YX{i:Int}:rQ [.int i] S=.ok (.bl true) S:=by
 unfold rQ xF wU;dsimp[kY,ao,lX,Nat.reduceAdd,Nat.reduceSub,show Ny .int "int" = some true from rfl,show Ny .int "bool" = some false from rfl,c6]
def acZ{n k:Int}(h1:1<=k)(h2:k<n):oE [.int n,.int k] S=.ok (.bl true) S:=by
 unfold oE tN tP;have c:Sj aLe Hu (eC<|.int 1) (jZ 1) (jZ 0) [.int n,.int k] S=.ok (.bl true) S:=by
  rw[abQ (a:=.int 1) (b:=.int k) (c:=.int n) rfl rfl (by dsimp[kY,aX h1]) rfl];dsimp[kY,aX h2]
 dsimp[kY,ao,lX,Nat.reduceAdd,Nat.reduceSub,YX,c]
def LZ{xs:ag}{k:Nat}(h1:1<=k)(h2:k<xs.length)(J:xs.length<=1000):∃S',nQ [.tup<|xs.map .int,.int k] S=.ok (.tup<|(Wd.ex xs k).map .int) S'/\nK S S':=by
 have e1:=acZ (S:=S) (n:=(xs.length:Int)) (k:=(k:Int)) () ();have m:rF (xs.map A.int) (k:Int)=some (.int<|xs.getD k 0):=ZJ rfl ();have g:rF (xs.map A.int) ((k:Int)-1)=some (.int<|xs.getD (k-1) 0):=ZJ (k:=k-1) () ();have j:B9 xs.length ((k:Int)-1)=some (k-1):=uK () ();have d:B9 xs.length (k:Int)=some k:=uK rfl ();have p:j4 (S++[O.lst<|xs.map .int]) S.length=some (xs.map .int):=ku;have f:∀ys,j4 ((S++[O.lst<|xs.map .int]).set S.length<|.lst ys) S.length=some ys:=λys=>oq (by simp);have e2:kM [.tup<|xs.map .int,.int k,.int<|(k:Int)+1] S=.ok (.tup<|(Wd.ex xs k).map .int) (((S++[O.lst<|xs.map .int]).set S.length<|.lst<|(xs.map A.int).set (k-1)<|.int<|xs.getD k 0).set S.length<|.lst<|(Wd.ex xs k).map .int):=by
  unfold kM ni nq;dsimp[kY,ao,lX,Nat.reduceAdd,Nat.reduceSub,p,show(k:Int)+1-1=k by lia,m,g,mV<|show 2<=sizeLine by decide,mV<|show 2=2 from rfl,aK,j,f,bW,d,UJ];rw[oq<|by simp];dsimp[kY,ao]
 unfold nQ uU vp;dsimp[kY,mT,ao,lX,Nat.reduceAdd,Nat.reduceSub,aK,e1,c7,e2];exact⟨_,rfl,((Kp.refl.lay).set<|.inr<|aP _).set<|.inr<|aP _⟩
def ixG{xs:ag}{i:Int}(h1:0<=i)(h2:i<xs.length):rF (xs.map A.int) i=some (.int<|xs.getD i.toNat 0):=ZJ (k:=i.toNat) () ()
abbrev fl (xs:ag)(n:Nat):ag:=(lE 1 (n:Int)).filter λk=>decide<|xs.getD (k-1).toNat 0>xs.getD k.toNat 0
def A4{S:j5}{n:Nat}{xs:ag}(J:xs.length=n)(h2:n<=20):qa [.tup<|xs.map .int] S=.ok (.ref S.length) (S++[.lst<|(fl xs n).map .int]):=by
 have g:=OC (lo:=1) (hi:=(n:Int)) (cap:=[some 0]) (src:=uM (eC<|.int 1)<|kK (f1 nM)<|jY (jZ 0)<|ki) (t:=wK<|ko Hi (ko qk (jZ 1)<|ko aSub (jZ 0)<|eC<|.int 1)<|ko qk (jZ 1)<|jZ 0) (e:=jZ 0) (τ:=[.tup<|xs.map .int]) (S:=S) (S1:=S)
  (Bm (S1:=S) (by dsimp[kY,ao]) (by dsimp[kY,ao,aK,J]) (qK () ())<|qK () ())
  (λk=>decide<|xs.getD (k-1).toNat 0>xs.getD k.toNat 0) (λk=>.int k) (λk h1 h2=>by
   have f:rF (xs.map A.int) (k-1)=some (.int<|xs.getD (k-1).toNat 0):=ixG () ();have d:rF (xs.map A.int) k=some (.int<|xs.getD k.toNat 0):=ixG () ();dsimp[kY,ao,f,d]) (λk _ _ _=>by dsimp[kY,ao]) ()
 unfold qa D3 DR;dsimp[kY,ao,lX,Nat.reduceAdd,Nat.reduceSub,g];rfl
theorem Et{t:Int}:∀(p:ag),Sw S (.int t) (p.map .int)=some (decide<|t∈p)
 | []=>rfl
 | x::p=>by
  show(W7 S 12 (.int x)<|.int t).bind (λa=>(Sw S (.int t)<|p.map .int).map λb=>a || b)=_;rw[Et p];show some ((x == t) || decide (t∈p))=_;by_cases c:x=t
  ·subst c;rw[b9,aX (show x∈x::p from aR ..)];rfl
  ·rw[eg.mpr c];congr 1;rw[jE,gI];constructor
   ·exact λz=>aS _ z
   ·intro z
    rcases bG.mp z with z|z
    ·exact absurd z.symm c
    ·exact z
open Po (Pl Ok Bd)
open Su (Es At Vl AF)
def KU{o:ag}{N k:Nat}(J:o.length=N)(h1:1<=k)(h2:k<N):decide ((k:Int)∈fl o N)=Su.t_ o k:=by
 unfold fl Su.t_;rw[gI,bQ,qt,decide_eq_true_eq,show((k:Int)-1).toNat=k-1 by lia,di];constructor
 ·exact λh=>h.2
 ·exact λh=>⟨⟨(),()⟩,h⟩
def Uv{S:j5}{n N k:Nat}{es:Es}(h:Sm S n es)(h1:∀e∈es,e.1.length=N/\2 * e.2.2.length<=j/\∀p∈e.2.2,p.2.natAbs<big)(k1:1<=k)(k2:k<N)(hN:N<=20)(hl:(2 * es.length+2) * j<16777216)(hl':es.length<=100000) :
  ∃(L:Nat) (S':j5) (rs:Es),nI [.ref n,.int k] S=.ok (.ref L) S'/\Sm S' L rs/\Su.sm rs=Su.bx k (Su.sm es)/\(∀e∈rs,Ok e.2.2/\e.2.2≠[]/\e.2.2.length<=2 * es.length * j/\S.length<=e.2.1/\e.2.1<L)/\Su.Ap rs/\rs.length<=2 * es.length/\S.length<=L/\nK S S':=by
 have k0:nK S (S++[.dct []]):=Kp.refl.lay;obtain⟨y3,y4,xs,D,T,hz,e1,f,kp⟩:=Su.F9 (w:=2) (j:=j) (b:=S.length) (i0:=0) (S:=S++[.dct []]) (S1:=S++[.dct []]) (d:=S.length) (n:=n) (es:=es) (src:=oV) (c:=nA) (g:=wH 2<|oR (k_ 3)<|oR (k_ 4)<|wJ) (λy z _=>[.ref n,.int k,.ref S.length,y,z]) (λ_=>True) (Su.gX k) (λ_ _ _ _ _=>rfl) (x3:=.unb) (x4:=.unb) (xs0:=[]) trivial
  (show oV _ _=_ from oA (by dsimp[kY,ao])<|mX h.l) (mX h.l) (Su.Fil.new Su.qR) λi e T Q D xs hi K _ C f=>by
   obtain⟨M,b2,b3⟩:=h1 e K;have tl:=C.len;have hm:2 * i+2<=2 * es.length:=()
   have hm2:(2 * i+2) * j<=(2 * es.length) * j:=cV _ hm;have hm3:(2 * es.length+2) * j=2 * es.length * j+2 * j:=by rw[jW]
   have hm4:(2 * i+2) * j=(2 * i+1) * j+j:=f6 _ _;have hm5:(2 * i+1) * j=2 * i * j+j:=f6 _ _;rw[aV]at tl;obtain⟨T0,e0,P⟩:=LZ (S:=T) (xs:=e.1) (k:=k) k1 () ();have aT:=((h.a.zA k0).M9 C Su.qR).zA P;have f0:=f.zA P;have qtl:=P.len;rw[cG]at f0;have W:Wd.ex e.1 k≠[]:=λz=>by have:=Wd.Dp e.1 k;rw[z]at this;simp at this;lia
   obtain⟨D1,T1,e1,f1,k1'⟩:=f0.add xM (o:=Wd.ex e.1 k) (aT e K) () W () () ();have k1l:=k1'.len;have V:=A4 (S:=T1) (xs:=e.1) (n:=N) M hN;have m:ZP false (.int k) (.ref T1.length) (T1++[.lst<|(fl e.1 N).map .int])=.ok (.bl<|Su.t_ e.1 k) (T1++[.lst<|(fl e.1 N).map .int]):=by
    show opt (j4 _ _) _=_;rw[ku,kL,Et,KU M k1 k2];rfl
   have G:nK T1 (T1++[.lst<|(fl e.1 N).map .int]):=Kp.refl.lay;obtain⟨U,hU⟩:∃U,U=T1++[O.lst<|(fl e.1 N).map .int]:=⟨_,rfl⟩;rw[<- hU]at m G V;have Y:=f1.zA G;have J:Kp (·=S.length) T U:=(P.of0.trans k1').trans G.of0
   cases hf:Su.t_ e.1 k with
   | false=>
    refine⟨D1,U,[],trivial,?_,?_,J⟩
    ·rw[hf]at m;unfold nA;dsimp[kY,mT,ao,e0,e1,V,m]
    ·rw[cG];unfold Su.gX;rw[hf,aM<|by simp];exact Y.mono ()
   | true=>
    have aU:=(aT.M9 k1' f0.dd).zA G;have n0:j4 (U++[.lst<|AF.map kA]) U.length=some (AF.map kA):=ku;obtain⟨L,T2,e2,l1,l2,k2'⟩:=CG kA (λ_ _ _=>rfl) n0 (mX (o:=.lst<|AF.map kA)<|aU e K) (show 2 * e.2.2.length<16777216 by lia) (λp hp=>by
     rw[Ai]
     rcases bG.mp hp with z|z
     ·rw[z];exact show 1<2 ^ 4096 by decide +kernel
     ·rw[bg.mp z];exact show 1<2 ^ 4096 by decide +kernel) b3
    have B:nK U T2:=(Kp.refl.lay).trans k2';have tl2:=B.len;have tle:=G.len;obtain⟨D2,T3,e3,f3,k3'⟩:=(Y.zA B).add xM (o:=e.1) l1 (bI (Su.Cp _ _)<|show 2 * e.2.2.length<=j from b2) (λz=>by rw[z]at M;simp at M;lia) () () ();refine⟨D2,T3,[],trivial,?_,?_,(J.trans B.of0).trans k3'⟩
    ·rw[hf]at m;unfold nA;dsimp[kY,mT,ao,e0,e1,V,m];rw[show[((-1:Int),(1:Int)),((1:Int),(-1:Int))].map kA=AF.map kA from rfl];dsimp[kY,mT,ao,e2,e3]
    ·rw[cG];unfold Su.gX;rw[hf,aO rfl];exact f3
 have C:nK S T:=k0.old kp λq hq _ z=>()
 have fl:=f.ll;rw[cG]at fl;obtain⟨L,S',e2,r1,r2,r3,r4⟩:=Hj f.dd f.aa f.kk ();have tl:=C.len;have fs:=f.ss;rw[Su.KS]at fs;refine⟨L,S',_,?_,⟨r1,r2⟩,by rw[Su.Ey,fs];rfl,λe K=>?_,f.pw.out _,?_,(),C.trans r4⟩
 ·unfold nI sP sU;dsimp[kY,mT,ao,lX,Nat.reduceAdd,Nat.reduceSub,Su.x_];rw[show nF oV _ nA _ _=_ from e1];dsimp[kY,mT,ao,e2]
 ·obtain⟨Z,m2⟩:=Su.Ew K;obtain⟨v1,v2,v3⟩:=f.vv e Z;have lt:=nY<|f.aa e Z;rw[cG]at v2;exact⟨v1,λz=>(by rw[z]at m2;cases m2),v2,v3,()⟩
 ·unfold Su.xB;rw[aK];refine bI (cI _ _) ?_;rw[(lA _).length_eq,aK];exact fl
end K54
namespace K54
open PySem L2 Am
open Po (Pl Ok Bd)
open Su (Es At Vl AF)
open He (Sz)
open Fw (rg)
def Sm.M9{n:Nat}(h:Sm S n es)(k:Kp (·=d) S S')(J:kG S d=some kvs):Sm S' n es:=⟨k.lst _ _ (λz=>Su.uo J h.l z.symm) h.l,h.a.M9 k J⟩
def mJ{N:Nat}{o:ag}(h:o.Perm<|rg N):o.length=N:=by rw[h.length_eq,Wd.mY]
def qG{es:Es}{l:Su.Ps}(h:Su.sm es=l){e:Su.En}(J:e∈es):(e.1,e.2.2)∈l:=by rw[<- h];exact bC.mpr ⟨e,J,rfl⟩
structure Kn (N:Nat)(Φ:ag->Su.Ps)(T:j5)(d:Nat)(K:Es):Prop where
 dd:kG T d=some (K.map Su.kv)
 gd:Su.Gd (Su.sm K)
 pm:∀e∈K,e.1.Perm (rg N)
 at_:∀e∈K,∃es:Es,Sm T e.2.1 es/\Su.sm es=Φ e.1
def Kn.zA{N:Nat}{J:ag->Su.Ps}{K:Es}(h:Kn N J T d K)(k:nK T T'):Kn N J T' d K:=⟨k.dct _ _ (λz=>z) h.dd,h.gd,h.pm,λe f=>by obtain⟨es,a,b⟩:=h.at_ e f;exact⟨es,a.kp k,b⟩⟩
def Kn.many{N:Nat}{J:ag->Su.Ps}{K:Es}(U:N<6)(h:Kn N J T d K):K.length<=120:=by
 have:=He.many U h.gd.nd λo j=>by
  obtain⟨e,g,rfl⟩:=bC.mp j;obtain⟨f,hf,rfl⟩:=bC.mp g;exact h.pm f hf
 rwa [aK,Su.y9]at this
def Yg:Ok []:=⟨List.Pairwise.nil,nofun⟩
def Kn.put{N r:Nat}{J:ag->Su.Ps}{K:Es}{o:ag}(Z:N<6)(h:Kn N J T d K)(po:o.Perm<|rg N)(hr:Sm T r es)(U:Su.sm es=J o) :
  ∃T' K',AA (.ref d) (.tup<|o.map .int) (.ref r) T=.ok Unit.unit T'/\Kn N J T' d K'/\zC (.ref d) (.tup<|o.map .int) T'=.ok (.ref r) T'/\Sm T' r es/\Kp (·=d) T T':=by
 have k:Kp (·=d) T (T.set d<|.dct<|(Su.q_ K o r []).map Su.kv):=Kp.refl.Fe<|.inl rfl;have dd:kG (T.set d<|.dct<|(Su.q_ K o r []).map Su.kv) d=some ((Su.q_ K o r []).map Su.kv):=Su.zV<|Su.ET h.dd;obtain⟨e,e1,e2⟩:=Su.Mn (D:=K) (o:=o) (r:=r) (p:=[]);have g:=h.many Z;refine⟨_,Su.q_ K o r [],?_,⟨dd,?_,λe U=>?_,λe f=>?_⟩,?_,hr.M9 k h.dd,k⟩
 ·rw[Su.Gh,h.dd,kL,Su.Pd (p:=[])];exact CN (show(K.map Su.kv).length<16777216 by rw[aK];lia)
 ·rw[Su.Tf];exact h.gd.put Yg
 ·rcases Su.vV U with z|z
  ·exact h.pm e z
  ·rw[z];exact po
 ·rcases Su.vV f with z|z
  ·obtain⟨fs,a,b⟩:=h.at_ e z;exact⟨fs,a.M9 k h.dd,b⟩
  ·rw[z];exact⟨es,hr.M9 k h.dd,U⟩
 ·rw[Su.zJ,dd,kL,Su.we,e1,dQ,kL,e2]
def aaf{o:ag}:M6 true (.tup<|o.map .int) (.ref d) S=opt (kG S d) λkvs=>.ok (.bl<|!(l_ kvs o).isSome) S:=by
 show opt (kG S d) (λkvs=>opt (A.ints<|o.map .int) λns=>_)=_;rw[ints_map];rfl
open Po (Pl Ok Bd)
open Su (Es At Vl)
open He (Sz)
structure Nw (b L:Nat)(rs:Es):Prop where
 ap:Su.Ap rs
 nw:∀e∈rs,b<=e.2.1/\e.2.1<L
def aag{S:j5}{n N P c:Nat}{fs:Es}(hN:N<6)(h0:1<=N)(h:Sm S n es)(h':Sm S m fs)(hz:Sz N P C<|Su.sm es)(hz':Sz N P c<|Su.sm fs)(hP:P<=10000) :
  ∃(L:Nat) (S':j5) (rs:Es),uh [.ref n,.ref m] S=.ok (.ref L) S'/\Sm S' L rs/\Su.sm rs=He.BC (Su.sm es) (Su.sm fs)/\Nw S.length L rs/\S.length<=L/\nK S S':=by
 have V:=D8 h h' (λe g=>mJ<|hz.pm _<|qG rfl g) λe g=>mJ<|hz'.pm _<|qG rfl g;have k:=hz.many hN;have J:=hz'.many hN;rw[Su.y9]at k J;have W:(es++fs).length=es.length+fs.length:=aV ..;have Y:j4 (S++[.dct []]) n=some (es.map Su.ent):=mX h.l;have M:j4 (S++[.dct []]) m=some (fs.map Su.ent):=mX h'.l;have G:=XC Y M (by rw[aK,aK];lia);rw[<- bS]at G;have k0:nK S (S++[.dct []]++[.lst<|(es++fs).map Su.ent]):=Kp.refl.lay.lay;have K:∀e∈es++fs,e.2.2.length<=2 * P+1/\e.1≠[]:=λe g=>by
  have:e.1.length=N/\e.2.2.length<=2 * P+1:=(bq.mp g).elim (λz=>⟨mJ<|hz.pm _<|qG rfl z,(hz.pb<|qG rfl z).2⟩) λz=>⟨mJ<|hz'.pm _<|qG rfl z,(hz'.pb<|qG rfl z).2⟩;exact⟨this.2,λz=>by rw[z]at this;have:=this.1;simp at this;lia⟩
 obtain⟨j,p⟩:∃j,j=2 * P+1:=⟨_,rfl⟩;rw[<- p]at K;have hb:(0+(es++fs).length) * j+j<16777216:=by
  have:(0+(es++fs).length) * j<=240 * j:=cV _ ()
  lia
 obtain⟨y3,Z,D,T,e1,f,kp⟩:=Su.Vg xM (j:=j) (b:=S.length) (i0:=0) (S:=S++[.dct []]) (S1:=S++[.dct []]++[.lst<|(es++fs).map Su.ent]) (d:=S.length) (x0:=.ref n) (x1:=.ref m) (x3:=.unb) (x4:=.unb) (xs:=[]) (src:=vY) (es:=es++fs)
  (show vY _ _=_ from oA (by dsimp[kY,ao,G]) ku) ku ((h.a.app h'.a).zA k0) (Su.Fil.new<|Su.zM Su.qR) k0.len K hb ()
 have B:nK S T:=k0.old kp λq hq _ z=>()
 have fl:=f.ll;obtain⟨L,S',e2,r1,r2,r3,O⟩:=Hj f.dd f.aa f.kk ();have tl:=B.len;refine⟨L,S',_,?_,⟨r1,r2⟩,by rw[Su.Ey,f.ss,Su.TJ];rfl,⟨f.pw.out _,λe g=>?_⟩,(),B.trans O⟩
 ·unfold uh Dy ED;dsimp[kY,mT,ao,lX,Nat.reduceAdd,Nat.reduceSub,V,Su.x_];rw[show nF vY _ CL _ _=_ from e1];dsimp[kY,mT,ao,e2]
 ·obtain⟨k,J⟩:=Su.Ew g;obtain⟨v1,v2,U⟩:=f.vv e k;have lt:=nY<|f.aa e k;exact⟨U,()⟩
abbrev Sn (N P C:Nat)(S:j5)(n:Nat)(l:Su.Ps):Prop:=Sz N P C l/\∃es,Sm S n es/\Su.sm es=l
def Sn.kp{N P n:Nat}{l:Su.Ps}(h:Sn N P C S n l)(k:nK S S'):Sn N P C S' n l:=by
 obtain⟨a,es,b,c⟩:=h;exact⟨a,es,b.kp k,c⟩
def Sn.add{N P c n:Nat}{l k:Su.Ps}(h:Sn N P C S n l)(h':Sn N P c S m k)(J:N<6)(h0:1<=N)(hP:P<=10000) :
  ∃(L:Nat) (S':j5),uh [.ref n,.ref m] S=.ok (.ref L) S'/\Sn N P (C+c) S' L (He.BC l k)/\nK S S':=by
 obtain⟨a,es,b,rfl⟩:=h;obtain⟨d,fs,g,rfl⟩:=h';obtain⟨L,S',rs,e1,f,j,_,_,k1⟩:=aag J h0 b g a d hP;exact⟨L,S',e1,⟨a.sum d,rs,f,j⟩,k1⟩
def Sn.mono{N P n:Nat}{l:Su.Ps}(h:Sn N P C S n l)(hp:P<=P')(hc:C<=C'):Sn N P' C' S n l:=⟨h.1.mono hp hc,h.2⟩
end K54
namespace K54
open PySem L2 Am
open Po (Pl Ok Bd)
open Su (Es At Vl AF)
open He (Sz PB)
open Fw (rg)
def V8{S:j5}{n N P c:Nat}{q:Pl}(f:Int×Int->A)(hf:∀p τ S,NN (f p) τ S=NN (Po.pA p) τ S)(hN:N<6)(h0:1<=N)(h:Sm S n es)(hz:Sz N P C<|Su.sm es)(hq:j4 S m=some (q.map f))(pq:PB Q c q)(lq:q.length<=2)(hP:P<=1000)(hC:C<big)(hc:c<big) :
  ∃(L:Nat) (S':j5) (rs:Es),rA [.ref m,.ref n] S=.ok (.ref L) S'/\Sm S' L rs/\Su.sm rs=He.Le q (Su.sm es)/\S.length<=L/\nK S S':=by
 have k0:nK S (S++[.dct []]):=Kp.refl.lay;have Y:=hz.many hN;rw[Su.y9]at Y;obtain⟨j,hj⟩:∃j,j=2 * (2 * P+1):=⟨_,rfl⟩;obtain⟨y3,y4,_,D,T,_,e1,B,kp⟩:=Su.F9 (w:=1) (j:=j) (b:=S.length) (i0:=0) (S:=S++[.dct []]) (S1:=S++[.dct []]) (d:=S.length) (n:=n) (es:=es) (src:=uG) (c:=ue) (g:=wH 2<|oR (k_ 3)<|oR (k_ 4) wJ) (λy z _=>[.ref m,.ref n,.ref S.length,y,z]) (λ_=>True) (λe Q=>Su.BV Q e.1<|Po.times q e.2.2) (λ_ _ _ _ _=>rfl) (x3:=.unb) (x4:=.unb) (xs0:=[]) trivial
  (show uG _ _=_ from oA (by dsimp[kY,ao])<|mX h.l) (mX h.l) (Su.Fil.new Su.qR) λi e T Q1 D xs hi G _ k J=>by
   have b:=hz.pb<|qG rfl G;have tl:=k.len;rw[aV]at tl;rw[cG,iy]at J;rw[cG,iy];have hm1:i * j<=120 * j:=cV _ ();have O:e.2.2.length<=2 * P+1:=b.2;have ll:q.length * e.2.2.length<=j:=by rw[hj];exact jv lq O
   obtain⟨L,T1,W,l1,l2,k1⟩:=CG f hf (k.lst _ _ (λz=>Su.uo (Su.qR (S:=S) (xs:=[])) (mX (o:=.dct []) hq) z.symm)<|mX hq) (((h.a.zA k0).M9 k Su.qR) e G) () (λp hp=>gh (pq.c p hp) hc) λp hp=>gh (b.1.c p hp) hC;have k1l:=k1.len;obtain⟨V,K,x2,Z,U⟩:=(J.zA k1).add xM (o:=e.1) l1 (bI (Su.Cp _ _) ll) (λz=>by
    have:=mJ<|hz.pm _<|qG rfl G;rw[show((e.1,e.2.2):ag×Pl).1=e.1 from rfl,z]at this;simp at this;lia) () () ()
   exact⟨V,K,[],trivial,by unfold ue;dsimp[kY,ao,W,x2],Z,k1.of0.trans U⟩
 rw[cG,iy,Su.NI]at B;have k:nK S T:=k0.old kp λq hq _ z=>()
 have fl:=B.ll;obtain⟨L,S',e2,r1,r2,r3,M⟩:=Hj B.dd B.aa B.kk ();have tl:=k.len;refine⟨L,S',_,?_,⟨r1,r2⟩,by rw[Su.Ey,B.ss];rfl,(),k.trans M⟩;unfold rA BO BZ;dsimp[kY,ao,lX,Nat.reduceAdd,Nat.reduceSub,Su.x_];rw[show nF uG _ ue _ _=_ from e1];dsimp[kY,ao,e2]
def Sn.Zz{N P c n:Nat}{l:Su.Ps}{q:Pl}(h:Sn N P C S n l)(f:Int×Int->A)(hf:∀p τ S,NN (f p) τ S=NN (Po.pA p) τ S)(U:N<6)(h0:1<=N)(Z:j4 S m=some (q.map f))(J:PB Q c q)(lq:q.length<=2)(hP:P<=1000)(hC:C<big)(hc:c<big) :
  ∃(L:Nat) (S':j5),rA [.ref m,.ref n] S=.ok (.ref L) S'/\Sn N (P+Q) (q.length * (c * C)) S' L (He.Le q l)/\nK S S':=by
 obtain⟨z,es,s,rfl⟩:=h;obtain⟨L,S',rs,e1,d,g,_,k1⟩:=V8 f hf U h0 s z Z J lq hP hC hc;exact⟨L,S',e1,⟨z.Le J,rs,d,g⟩,k1⟩
end K54
namespace Kl
open Su Po He
open Fw (rg)
def Yq{n k:Nat}{o:ag}(p:o.Perm<|rg n)(h0:1<=k)(h1:k<n):t_ (Wd.ex o k) k=!t_ o k:=by
 have lo:o.length=n:=by rw[p.length_eq,Wd.mY]
 have d:=Fw.Wv p h0 ();unfold Su.t_;rw[Fw.Xa h0 (),Fw.W8 h0 (),<- decide_not];exact gI.mpr ⟨λz=>(),λz=>()⟩
theorem Eo:∀(l:ag),2 * Iv.inv l<=l.length * (l.length-1)
 | []=>aP _
 | x::l=>by
  have h1:l.countP (λy=>decide<|y<x)<=l.length:=List.countP_le_length;have h2:=Eo l;show 2 * (l.countP (λy=>decide<|y<x)+Iv.inv l)<=(l.length+1) * l.length
  cases d:l.length with
  | zero=>rw[d]at h1 h2;lia
  | succ m=>
   rw[d]at h1 h2;have:(m+1) * (m+1-1)+2 * (m+1)=(m+1+1) * (m+1):=by
    rw[Nat.add_sub_cancel,jW (m+1) 1<|m+1,iy,Nat.mul_add (m+1) m 1];lia
   lia
abbrev step (k:Nat)(low:ag->Ps)(told:Ps)(e:ag×Pl):Ps:=if val e.2 1≠0/\t_ e.1 k=true then BC told (Le [(0,-val e.2 1)]<|low e.1)else told
abbrev first (k:Nat)(J:Ps):Ps:=BC (Su.bx k J)<|Le [(1,1)] J
abbrev Lo (n:Nat)(w o:ag):Prop:=o.Perm (rg n)/\(o=w\/Iv.inv o<Iv.inv w)
def Lo.le{n:Nat}{w:ag}(h:Lo n w o):Iv.inv o<=Iv.inv w:=by
 rcases h.2 with z|z
 ·rw[z];exact aP _
 ·exact jk z
structure Dn (n:Nat)(w:ag)(k:Nat):Prop where
 h0:1<=k
 h1:k<n
 fw:t_ w k=true
 pe:(Wd.ex w k).Perm (rg n)
 iv:Iv.inv w=Iv.inv (Wd.ex w k)+1
 ee:Wd.ex (Wd.ex w k) k=w
 fe:t_ (Wd.ex w k) k=false
def NS{n k:Nat}{w:ag}(J:w.Perm<|rg n)(a:1<=k)(b:k<n)(c:t_ w k=true):Dn n w k:=by
 have d:w.length=n:=by rw[J.length_eq,Wd.mY]
 refine⟨a,b,c,E7 J a b,Fw.Ja a () (by have:=bJ c;lia),Fw.LN a (),?_⟩;rw[Yq J a b,c];rfl
def abx{n:Nat}{w:ag}{k:Nat}(J:w.Perm<|rg n)(h:ff w=some k):Dn n w k:=by
 obtain⟨a,b,c⟩:=Vu h;have d:w.length=n:=by rw[J.length_eq,Wd.mY]
 exact NS J a () c
abbrev lq (a b:ag):Bool:=(List.range a.length).all λi=>a.all λj=>(a.take i).countP (λx=>decide<|j<=x)<=(b.take i).countP λx=>decide<|j<=x
abbrev sg4 (a w:ag):Bool:=(w == [3,4,1,2] && lq a [1,3,2,4]) || (w == [4,2,3,1] && lq a [2,1,4,3])
abbrev K (w:ag):Ps:=((arr w.length<|rg w.length).filter λa=>lq a w).map λa=>
 (a,if sg4 a w=true then[((Iv.inv w:Int)-Iv.inv a-2,(1:Int)),((Iv.inv w:Int)-Iv.inv a,1)]else[((Iv.inv w:Int)-Iv.inv a,1)])
abbrev ck1 (n:Nat)(w:ag):Bool:=decide ((K w).map Prod.fst).Nodup && decide (toS (K w)=K w) && (K w).all λe=>decide (e.1.Perm<|rg n) && (decide<|e.1=w\/Iv.inv e.1<Iv.inv w) && decide (e.2.Pairwise λp q=>p.1<q.1) && decide (∀q∈e.2,q.2≠0/\q.2.natAbs<=9/\q.1.natAbs<=10)
def aco{n:Nat}(hn:n<5){w:ag}(hw:w∈arr n (rg n)):((K w).map Prod.fst).Nodup/\toS (K w)=K w/\∀e∈K w,e.1.Perm (rg n)/\(e.1=w\/Iv.inv e.1<Iv.inv w)/\e.2.Pairwise (λp q=>p.1<q.1)/\∀q∈e.2,q.2≠0/\q.2.natAbs<=9/\q.1.natAbs<=10:=by
 have h:=(by decide +kernel:∀n<5,∀w∈arr n (rg n),ck1 n w=true) n hn w hw;unfold ck1 at h;rw[bZ,bZ]at h;refine⟨bJ h.1.1,bJ h.1.2,λe d=>?_⟩;have:=iW.mp h.2 e d;rw[bZ,bZ,bZ]at this;exact⟨bJ this.1.1.1,bJ this.1.1.2,bJ this.1.2,bJ this.2⟩
def Vx:∀n<5,∀w∈arr n (rg n),match ff w with
 | none=>w=rg n/\K w=[(w,[(0,1)])]
 | some k=>K w=(K<|Wd.ex w k).foldl (step k K) (first k (K<|Wd.ex w k)):=by
 have:∀n<5,∀w∈arr n (rg n),(match ff w with
  | none=>decide (w=rg n) && decide (K w=[(w,[(0,1)])])
  | some k=>decide<|K w=(K<|Wd.ex w k).foldl (step k K) (first k (K<|Wd.ex w k)))=true:=by decide +kernel
 intro n hn w hw;have h:=this n hn w hw
 cases hf:ff w with
 | none=>rw[hf]at h;dsimp only at h ⊢;rw[bZ]at h;exact⟨bJ h.1,bJ h.2⟩
 | some k=>rw[hf]at h;exact bJ h
def Sw{n:Nat}{w:ag}(J:w.Perm<|rg n):w∈arr n (rg n):=DA J<|Wd.mY n
def Y9{n:Nat}(hn:n<5){w:ag}(J:w.Perm<|rg n)(h:ff w=none):K w=[(w,[(0,1)])]:=by
 have:=Vx n hn w<|Sw J;rw[h]at this;exact this.2
def Ym{n k:Nat}(hn:n<5){w:ag}(J:w.Perm<|rg n)(h:ff w=some k):K w=(K<|Wd.ex w k).foldl (step k K) (first k (K<|Wd.ex w k)):=by
 have:=Vx n hn w<|Sw J;rw[h]at this;exact this
def O1{n:Nat}(hn:n<5){w:ag}(J:w.Perm<|rg n):∀e∈K w,Lo n w e.1:=λe d=>by
 have:=(aco hn<|Sw J).2.2 e d;exact⟨this.1,this.2.1⟩
abbrev Cb (_:Nat):Nat:=9
def aci{P:Nat}{p:Pl}(h:PB P C p)(t:Int):(val p t).natAbs<=C:=by
 unfold val
 cases hf:p.find? λq=>decide (q.1=t)with
 | none=>exact b7 _
 | some q=>exact h.c q<|eZ hf
def aa4{n:Nat}(hn:n<5){w:ag}(J:w.Perm<|rg n):Sz n 10 (Cb 10) (K w):=by
 obtain⟨a,b,c⟩:=aco hn<|Sw J;exact Sz.of ⟨⟨a,λe d=>⟨(c e d).2.2.1,λq f=>((c e d).2.2.2 q f).1⟩⟩,b⟩ (λe d=>(c e d).1) λe d=>⟨λq f=>((c e d).2.2.2 q f).2.1,λq f=>((c e d).2.2.2 q f).2.2⟩
structure Nd (D:Ps):Prop where
 nd:(D.map Prod.fst).Nodup
 np:∀e∈D,(e.2.map Prod.fst).Nodup
abbrev dnL (k:Nat)(o:ag):Bool:=t_ (bk o) k
structure Ne (m:Ps):Prop extends Nd m where
 nz:∀e∈m,∀q∈e.2,q.2≠0
 ne:∀e∈m,e.2≠[]
abbrev sg (G:ag×(Int->Int)->Int):List (ag×(Int->Int))->Int
 | []=>0
 | x::l=>G x+sg G l
abbrev gk (k:Nat)(g:ag->Ps)(o:ag)(t:Int)(x:ag×(Int->Int)):Int:=
 (if x.1.map (Wd.sw k)=o then x.2 t else 0)+((if x.1=o then x.2 (t-if dnL k x.1=true then -1 else 1)else 0)+0)+if x.2 1≠0/\dnL k x.1=true then -x.2 1 * cS (g x.1) o t else 0
end Kl
namespace K54
open PySem L2 Am
def Sn.bx{N P n k:Nat}{l:Su.Ps}(h:Sn N P C S n l)(U:N<6)(k1:1<=k)(k2:k<N)(hP:P<=1000)(Z:C<big) :
  ∃(L:Nat) (S':j5),nI [.ref n,.int k] S=.ok (.ref L) S'/\Sn N (P+1) (3 * C) S' L (Su.bx k l)/\nK S S':=by
 obtain⟨z,es,s,rfl⟩:=h;have J:=z.many U;rw[Su.y9]at J;obtain⟨L,G,d,B,m,g,_,_,_,_,q⟩:=Uv (j:=2 * (2 * P+1)) s (k:=k) (N:=N) (λe f=>by
  have b:=z.pb<|qG rfl f;exact⟨mJ<|z.pm _<|qG rfl f,by have:=b.2;show 2 * e.2.2.length<=_;exact Nat.mul_le_mul_left _ this,λp hp=>gh (b.1.c p hp) Z⟩) k1 k2 () (by
   have:(2 * es.length+2) * (2 * (2 * P+1))<=242 * (2 * (2 * P+1)):=cV _ ()
   lia) ()
 exact⟨L,G,B,⟨z.bx k1 k2,d,m,g⟩,q⟩
open Po (Pl Ok)
open Su (Es)
open He (Sz PB)
open Fw (rg)
def XY{n:Nat}{p:Pl}(h:j4 S n=some (Po.pl p))(hp:Ok p):nG [.ref n] S=.ok (.int<|Po.val p 1) (S++[.rC<|Po.iv p]):=by
 unfold nG qC qF;dsimp[kY,mT,ao,lX,Nat.reduceAdd,Nat.reduceSub,Ek,C3,h,Po.Ro,Po.KW,Po.Lp hp,ID,Hs,dQ,Ak,Po.Iu]
def EH:Kl.Cb 10<big:=by rw[Ai];decide +kernel
def Sn.M9{N P n:Nat}{l:Su.Ps}(h:Sn N P C S n l)(k:Kp (·=d) S S')(J:kG S d=some kvs):Sn N P C S' n l:=by
 obtain⟨a,es,b,c⟩:=h;exact⟨a,es,b.M9 k J,c⟩
def WG{N n:Nat}{o:ag}(J:N<5)(U:o.Perm<|rg N)(h:Sm S n es)(e:Su.sm es=Kl.K o):Sn N 10 (Kl.Cb 10) S n (Kl.K o):=⟨Kl.aa4 J U,es,h,e⟩
def Rr(x y:A):gd (([x,y]:ae).length<=sizeLine)=λr:Am.R A=>r:=by funext r;exact pX<|show 2<=16777216 by decide
def O7(x:A)(S:j5):newL [x] S=.ok (.ref S.length) (S++[.lst [x]]):=pX<|show 1<=16777216 by decide
abbrev Fnd (N d f:Nat)(Fs:ae->j5->R A):Prop:=∀(T:j5) (K:Es) (o:ag),Iv.inv o<f->o.Perm (rg N)->Kn N Kl.K T d K ->
  ∃(r:Nat) (g:j5) (j rs:Es),Fs [.tup<|o.map .int,.ref d] T=.ok (.ref r) g/\Kn N Kl.K g d j/\Sm g r rs/\Su.sm rs=Kl.K o/\Kp (·=d) T g
def Wx{Fs:ae->j5->R A}{N f n L k:Nat}{K:Es}{told:Su.Ps}{e:Su.En}{x:A}(h5:N<5)(ih:Fnd N d f Fs)(hk:Kn N Kl.K T d K)(ht:Sn N 11 A' T L told)(pe:e.1.Perm<|rg N)(he:Iv.inv e.1<f)(le:j4 T e.2.1=some (Po.pl e.2.2))(oe:Ok e.2.2)(be:(Po.val e.2.2 1).natAbs<big)(k1:1<=k)(k2:k<N) :
  ∃(v:A) (L' A'':Nat) (T':j5) (K':Es),oh Fs [x,.int k,.ref d,.ref n,.ref L,.tup<|e.1.map .int,.ref e.2.1,y] T=.nx [x,.int k,.ref d,.ref n,.ref L',.tup<|e.1.map .int,.ref e.2.1,v] T'/\Kn N Kl.K T' d K'/\Sn N 11 A'' T' L' (Kl.step k Kl.K told (e.1,e.2.2))/\Kp (·=d) T T':=by
 have U:N<6:=()
 have h1:=XY le oe;have lo:=mJ pe;obtain⟨T1,J,B⟩:=MB T<|.rC<|Po.iv e.2.2;rw[<- J]at h1;unfold oh;by_cases h0:Po.val e.2.2 1=0
 ·have b0:(Po.val e.2.2 1 == 0)=true:=jo.mpr h0;refine⟨.int<|Po.val e.2.2 1,L,A',T1,K,?_,hk.zA B,?_,B.of0⟩
  ·dsimp[kY,mT,ao,h1,b0,c7]
  ·unfold Kl.step;rw[aM λz=>z.1 h0];exact ht.kp B
 ·have b0:(Po.val e.2.2 1 == 0)=false:=eg.mpr h0;have O:=A4 (S:=T1) (xs:=e.1) (n:=N) lo ();have g:ZP false (.int k) (.ref T1.length) (T1++[.lst<|(fl e.1 N).map .int])=.ok (.bl<|Su.t_ e.1 k) (T1++[.lst<|(fl e.1 N).map .int]):=by
   show opt (j4 _ _) _=_;rw[ku,kL,Et,KU lo k1 k2];rfl
  obtain⟨T2,P,q2⟩:=MB T1<|.lst<|(fl e.1 N).map .int;rw[<- P]at g O;have j:=B.trans q2
  cases hf:Su.t_ e.1 k with
  | false=>
   rw[hf]at g;refine⟨.int<|Po.val e.2.2 1,L,A',T2,K,?_,hk.zA j,?_,j.of0⟩
   ·dsimp[kY,mT,ao,h1,b0,c6,O,g]
   ·unfold Kl.step;rw[aM λz=>by rw[hf]at z;exact nomatch z.2];exact ht.kp j
  | true=>
   rw[hf]at g;obtain⟨T3,p,q3⟩:=MB T2<|.lst [.tup [.int 0,.int<|-Po.val e.2.2 1]];have W:j4 T3 T2.length=some (([(0,-Po.val e.2.2 1)]:Pl).map Po.pA):=by rw[p];exact ku
   have m:=j.trans q3;obtain⟨r,T4,K4,rs,x4,n4,s4,e4,G⟩:=ih T3 K e.1 he pe<|hk.zA m;have Y:=(hk.zA m).dd;have l4:=G.lst _ _ (λz=>Su.uo Y W z.symm) W;obtain⟨L5,T5,x5,s5,k5⟩:=(WG h5 pe s4 e4).Zz Po.pA (λ_ _ _=>rfl) U () l4 (Q:=0) (c:=(Po.val e.2.2 1).natAbs) ⟨λq C=>by rw[bg.mp C];show(-_:Int).natAbs<=_;rw[Int.natAbs_neg];exact aP _,λq C=>by rw[bg.mp C];exact aP _⟩ (show 1<=2 by decide) ⋯ EH be;obtain⟨L6,T6,x6,Z,V⟩:=(((ht.kp m).M9 G Y).kp k5).add (s5.mono ⋯ (aP _)) U () ⋯;have st:Kl.step k Kl.K told (e.1,e.2.2)=He.BC told (He.Le [(0,-Po.val e.2.2 1)]<|Kl.K e.1):=by unfold Kl.step;rw[aO ⟨h0,hf⟩]
   rw[<- st]at Z;refine⟨.int<|Po.val e.2.2 1,L6,_,T6,K4,?_,(n4.zA k5).zA V,Z,((m.of0.trans G).trans k5.of0).trans V.of0⟩;have M:OL (.int<|Po.val e.2.2 1) T2=.ok (.int<|-Po.val e.2.2 1) T2:=rfl;dsimp[kY,mT,ao,h1,b0,c6,O,g,M,Rr,O7,<- p,x4,x5,x6]
end K54
namespace K54
open PySem L2 Am
open Po (Pl Ok)
open Su (Es)
open He (Sz PB)
open Fw (rg)
def Wz:gd (2<=sizeLine)=λr:Am.R A=>r:=by funext r;exact pX<|show 2<=16777216 by decide
def U5{Fs:ae->j5->R A}{N f n k:Nat}{told:Su.Ps}{x:A}{wl:ag}(h5:N<5)(ih:Fnd N d f Fs)(hk:Kn N Kl.K S d K0)(ht:Sn N 11 A0 S L0 told)(pw:wl.Perm<|rg N)(iw:Iv.inv wl<f)(hs:Sm S n es)(Z:Su.sm es=Kl.K wl)(k1:1<=k)(k2:k<N) :
  ∃(y5 y6 y7:A) (L' A'':Nat) (S':j5) (K':Es),nF (pY Fs) (wH 2<|oR (k_ 5)<|oR (k_ 6) wJ) (oh Fs) [x,.int k,.ref d,.ref n,.ref L0,.unb,.unb,.unb] S=.nx [x,.int k,.ref d,.ref n,.ref L',y5,y6,y7] S'/\Kn N Kl.K S' d K'/\Sn N 11 A'' S' L' ((Kl.K wl).foldl (Kl.step k Kl.K) told)/\Kp (·=d) S S':=by
 have m:(es.map Su.ent).length=es.length:=aK ..;have V:N<6:=()
 have G:=Kl.aa4 h5 pw;refine qe (n:=n) (xs:=es.map Su.ent) (S1:=S) (show pY Fs _ _=_ from oA (by dsimp[kY,ao]) hs.l)
  (λi τ T=>∃(y5 y6 y7:A) (L' A'':Nat) (K':Es),τ=[x,.int k,.ref d,.ref n,.ref L',y5,y6,y7]/\Kn N Kl.K T d K'/\Sn N 11 A'' T L' ((Su.sm<|es.take i).foldl (Kl.step k Kl.K) told)/\Kp (·=d) S T)
  (λr=>∃(y5 y6 y7:A) (L' A'':Nat) (S':j5) (K':Es),r=.nx [x,.int k,.ref d,.ref n,.ref L',y5,y6,y7] S'/\Kn N Kl.K S' d K'/\Sn N 11 A'' S' L' ((Kl.K wl).foldl (Kl.step k Kl.K) told)/\Kp (·=d) S S')
  ⟨_,_,_,L0,A0,K0,rfl,hk,ht,Kp.refl⟩ (λi τ T h=>?_) ?_ ?_
 ·obtain⟨_,_,_,_,_,_,_,_,_,kp⟩:=h;exact kp.lst _ _ (λz=>Su.uo hk.dd hs.l z.symm) hs.l
 ·rintro i z τ T B ⟨y5,y6,y7,L',A'',K',rfl,p,g,kp⟩;rw[aQ]at B;obtain⟨e,C,rfl⟩:=bh.mp B;have q:=aW C;have j:(e.1,e.2.2)∈Kl.K wl:=qG Z q;have lo:=Kl.O1 h5 pw _ j;have pb:=G.pb j;obtain⟨v,O,M,T1,P,e1,U,L,J⟩:=Wx (Fs:=Fs) (n:=n) (x:=x) (y:=y7) h5 ih p g (e:=e) lo.1 (gh lo.le iw) ((hs.M9 kp hk.dd).a e q) (G.cn.gd.ok _ j) (gh (Kl.aci pb.1 1) EH) k1 k2;refine⟨[x,.int k,.ref d,.ref n,.ref L',.tup<|e.1.map .int,.ref e.2.1,y7],T,rfl,.inl ⟨_,T1,e1,_,_,_,O,M,P,rfl,U,?_,kp.trans J⟩⟩;rw[d8,C,Su.TJ,d9];exact L
 ·rintro τ T ⟨y5,y6,y7,L',A'',K',rfl,p,g,kp⟩;rw[m,dM,Z]at g;exact⟨y5,y6,y7,L',A'',T,K',rfl,p,g,kp⟩
def Vh{Fs:ae->j5->R A}{N f k:Nat}{w:ag}(h5:N<5)(ih:Fnd N d f Fs)(hk:Kn N Kl.K S d K0)(pw:w.Perm<|rg N)(hf:He.ff w=some k)(iw:Iv.inv w<f+1) :
  ∃(r:Nat) (S':j5) (K' rs:Es),lI lQ (lR Fs) [.tup<|w.map .int,.int k,.ref d] S=.ok (.ref r) S'/\Kn N Kl.K S' d K'/\Sm S' r rs/\Su.sm rs=Kl.K w/\Kp (·=d) S S':=by
 have B:N<6:=()
 have g:=Kl.abx pw hf;have iv:=g.iv;obtain⟨S1,x1,k1⟩:=LZ (S:=S) (xs:=w) (k:=k) g.h0 (by rw[mJ pw];exact g.h1) (by rw[mJ pw];lia);obtain⟨r2,S2,K2,rs2,x2,V,O,e2,k2⟩:=ih S1 K0 (Wd.ex w k) () g.pe<|hk.zA k1;have t2:=WG h5 g.pe O e2;obtain⟨L3,S3,x3,Y,k3⟩:=t2.bx B g.h0 g.h1 ⋯ EH;obtain⟨S4,p,M⟩:=MB S3<|.lst [.tup [.int 1,.int 1]];have l4:j4 S4 S3.length=some (([(1,1)]:Pl).map Po.pA):=by rw[p];exact ku
 have J:=k3.trans M;obtain⟨L5,S5,T,s5,k5⟩:=(t2.kp J).Zz Po.pA (λ_ _ _=>rfl) B (by have:=g.h1;lia) l4 (Q:=1) (c:=1) ⟨λq C=>by rw[bg.mp C];exact aP _,λq C=>by rw[bg.mp C];exact aP _⟩ ⋯ ⋯ EH (by rw[Ai];decide +kernel);have m:=M.trans k5;obtain⟨L6,S6,x6,s6,U⟩:=(Y.kp m).add s5 B (by have:=g.h1;lia) ⋯;have j:=(k3.trans m).trans U;obtain⟨y5,y6,y7,L7,A7,W,K7,Z,n7,L,P⟩:=U5 (x:=.tup<|w.map .int) h5 ih (V.zA j) s6 g.pe () (O.kp j) e2 g.h0 g.h1;have eq:(Kl.K<|Wd.ex w k).foldl (Kl.step k Kl.K) (He.BC (Su.bx k<|Kl.K<|Wd.ex w k)<|He.Le [(1,1)]<|Kl.K<|Wd.ex w k)=Kl.K w:=(Kl.Ym h5 pw hf).symm;rw[eq]at L;obtain⟨_,G,m7,e7⟩:=L;refine⟨L7,W,K7,G,?_,n7,m7,e7,((k1.of0.trans k2).trans j.of0).trans P⟩;unfold lR lQ;dsimp[kY,mT,ao,lX,Nat.reduceAdd,Nat.reduceSub,x1,x2,x3,Wz,Rr,O7,<- p,T,x6,↓Z]
theorem KY{N:Nat}(h5:N<5):∀(f:Nat),Fnd N d f (nJ f)
 | 0=>λ_ _ _ h _ _=>absurd h (fh _)
 | f+1=>λS K o hf q hK=>by
  have Z:N<6:=()
  have lo:=mJ q;show ∃(r:Nat) (S':j5) (M rs:Es),lI pS (pM<|nJ f) [.tup<|o.map .int,.ref d] S=.ok (.ref r) S'/\_;have C:M6 true (.tup<|o.map .int) (.ref d) S=.ok (.bl<|!(l_ (K.map Su.kv) o).isSome) S:=by rw[aaf,hK.dd,kL]
  unfold pM pS
  cases P:Su.fE K o with
  | some e=>
   obtain⟨m1,rfl⟩:=Su.uS P;obtain⟨rs,r1,r2⟩:=hK.at_ e m1;have lk:l_ (K.map Su.kv) e.1=some (.ref e.2.1):=by rw[Su.we,P];rfl
   have m:zC (.ref d) (.tup<|e.1.map .int) S=.ok (.ref e.2.1) S:=by rw[Su.zJ,hK.dd,kL,lk,kL]
   rw[lk]at C;refine⟨e.2.1,S,K,rs,?_,hK,r1,r2,Kp.refl⟩;dsimp[kY,mT,ao,lX,Nat.reduceAdd,Nat.reduceSub,C,isSome_some,c7,m]
  | none=>
   have lk:l_ (K.map Su.kv) o=none:=by rw[Su.we,P];rfl
   rw[lk]at C;have V:=A4 (S:=S) (xs:=o) (n:=N) lo ();have G:(fl o N).head?=(He.ff o).map λk:Nat=>(k:Int):=by
    have:=He.Uq (o:=o);rw[lo]at this;exact this
   obtain⟨S1,Y,k1,L⟩:=Vr S<|(fl o N).map .int;rw[<- Y]at V;have J:=G1 L
   cases g:He.ff o with
   | none=>
    have fe:fl o N=[]:=by
     rw[g]at G;exact List.head?_eq_none_iff.mp G
    obtain⟨S2,j,k2⟩:=MB S1<|.lst [.tup [.int 0,.int 1]];have l2:j4 S2 S1.length=some (Po.pl [(0,1)]):=by rw[j];exact ku
    obtain⟨S3,p,k3⟩:=MB S2<|.lst [.tup [.tup<|o.map .int,.ref S1.length]];have l3:j4 S3 S2.length=some (([(o,S1.length,[(0,1)])]:Es).map Su.ent):=by rw[p];exact ku
    have sm:Sm S3 S2.length [(o,S1.length,[(0,1)])]:=⟨l3,λe he=>by rw[bg.mp he];exact k3.lst _ _ (λz=>z) l2⟩;have kq:Su.sm [(o,S1.length,[((0:Int),(1:Int))])]=Kl.K o:=by rw[Kl.Y9 h5 q g];rfl
    have B:=(k1.trans k2).trans k3;obtain⟨O,M,e1,W,m,T,kp⟩:=(hK.zA B).put Z q sm kq;refine⟨S2.length,O,M,_,?_,W,T,kq,B.of0.trans kp⟩;rw[fe]at J;dsimp[kY,mT,ao,lX,Nat.reduceAdd,Nat.reduceSub,C,isSome_none,c6,V,J,iC,jL,c7,Wz,Rr,O7,<- j,<- p,Su.DL,e1,m]
   | some k=>
    obtain⟨t,ft⟩:∃t,fl o N=(k:Int)::t:=by
     rw[g]at G;exact List.head?_eq_some_iff.mp G
    rw[ft]at J L;obtain⟨r3,S3,K3,U,x3,n3,s3,q3,k3⟩:=Vh h5 (KY h5 f) (hK.zA k1) q g hf;obtain⟨O,M,e1,W,m,T,kp⟩:=n3.put Z q s3 q3;refine⟨r3,O,M,U,?_,W,T,q3,(k1.of0.trans k3).trans kp⟩;dsimp[kY,mT,ao,lX,Nat.reduceAdd,Nat.reduceSub,C,isSome_none,c6,V,J,bL,jB,c7];rw[bL]at L;dsimp[kY,mT,ao,L,zu,↓x3,Su.DL,e1,m]
end K54
namespace Stp
open PySem L2 Iv
abbrev mm (a:ag)(i j:Nat):ag:=(a.drop<|i+1).take<|j-i-1
abbrev E2 (x y m:Int):Bool:=decide (x<m) && decide (m<y)
theorem abv{x y:Int}(J:x<y):∀{M:ag},(∀m∈M,m≠x/\m≠y)->M.countP (λm=>decide<|m<y)=M.countP (λm=>decide<|m<x)+M.countP (E2 x y)
 | [],_=>rfl
 | m::M,h=>by
  have f:=abv J (M:=M) λk d=>h k<|aS _ d;have g:=h m<|aR ..;rw[cX,cX,cX,f];unfold E2;by_cases c:m<x
  ·rw[aX c,aX<|show m<y by lia,bw<|show ¬x<m by lia];simp;lia
  ·rw[bw c,aX<|show x<m by lia];by_cases c2:m<y
   ·rw[aX c2];simp;lia
   ·rw[bw c2];simp
theorem abR{x y:Int}(J:x<y):∀{M:ag},(∀m∈M,m≠x/\m≠y)->mO M [x]=mO M [y]+M.countP (E2 x y)
 | [],_=>rfl
 | m::M,h=>by
  have f:=abR J (M:=M) λk d=>h k<|aS _ d;have g:=h m<|aR ..;rw[rD,rD,f,cX (l:=M)];dsimp[cX,jR];unfold E2;by_cases c:x<m
  ·rw[aX c];by_cases c2:m<y
   ·rw[aX c2,bw<|show ¬y<m by lia];simp;lia
   ·rw[bw c2,aX<|show y<m by lia];simp;lia
  ·rw[bw c,bw<|show ¬y<m by lia];simp
def adn{M:ag}{x y:Int}(h:∀m∈M,m≠x/\m≠y)(J:x<y):inv ([y]++M++[x])=inv ([x]++M++[y])+1+2 * M.countP (E2 x y):=by
 rw[lg,lg,lg<|[x]++M,lg [x]];have e1:mO [y] M=mO [x] M+M.countP (E2 x y):=by
  show M.countP _+0=M.countP _+0+_;rw[abv J h];lia
 have e2:mO ([y]++M) [x]=1+mO M [x]:=by
  show[x].countP _+mO M [x]=_;rw[cX,aX J];rfl
 have e3:mO ([x]++M) [y]=mO M [y]:=by
  show[y].countP _+mO M [y]=_;rw[cX,bw (by lia:¬y<x)];simp
 rw[e1,e2,e3,abR J h];show 0+inv M+_+0+_=0+inv M+_+0+_+1+_
 lia
def Tq{P M R:ag}{x y:Int}(h:∀m∈M,m≠x/\m≠y)(J:x<y):inv (P++([y]++M++[x])++R)=inv (P++([x]++M++[y])++R)+1+2 * M.countP (E2 x y):=by
 have p:=vm M x y;rw[lg,lg P,lg<|P++([x]++M++[y]),lg P,adn h J,L4 P p,Jj R<|p.append_left P]
 lia
def parts{a:ag}(U:i<j)(J:j<a.length):a=a.take i++([a.getD i 0]++mm a i j++[a.getD j 0])++a.drop (j+1):=by
 have f:a.getD i 0=a[i]:=by rw[aI,aH ()];rfl
 have d:a.getD j 0=a[j]:=by rw[aI,aH J];rfl
 have h1:a.drop i=a[i]::a.drop (i+1):=bU ();have h2:a.drop (i+1)=mm a i j++a.drop j:=by
  have:=cY (j-i-1)<|a.drop<|i+1;rw[List.drop_drop,show i+1+(j-i-1)=j by lia]at this;exact this.symm
 have h3:a.drop j=a[j]::a.drop (j+1):=bU J
 conv=>lhs;rw[<- cY i a,h1,h2,h3]
 rw[f,d];simp
def aby{a:ag}(J:i<j)(U:j<a.length):sw a i j=a.take i++([a.getD j 0]++mm a i j++[a.getD i 0])++a.drop (j+1):=by
 have m:(mm a i j).length=j-i-1:=by unfold mm;rw[bN,c8];lia
 have g:∀(P R:ag) (x y f d:Int),P.length=i->((P++([x]++mm a i j++[y])++R).set i d).set j f=P++([d]++mm a i j++[f])++R:=λP R x y f d k=>by
  rw[bT,dz _ _ (),k,gG];show(P++(d::((mm a i j++[y])++R))).set j f=_;rw[dz _ _ (),k,show j-i=(j-i-1)+1 by lia,List.set_cons_succ,bT,dz _ _ (),m,gG];simp
 have:=g (a.take i) (a.drop<|j+1) (a.getD i 0) (a.getD j 0) (a.getD i 0) (a.getD j 0) (by rw[bN];lia);rw[<- parts J U]at this;exact this
def abT{a:ag}(nd:a.Nodup)(J:i<j)(U:j<a.length):∀m∈mm a i j,m≠a.getD i 0/\m≠a.getD j 0:=λm g=>by
 have e:=parts J U;rw[e]at nd;have d:=(b8.mp (b8.mp nd).1).2.1;have f:=b8.mp d;have k:=b8.mp f.1;exact⟨λz=>k.2.2 _ (bg.mpr rfl) m g z.symm,λz=>f.2.2 m (bA _ g) _ (bg.mpr rfl) z⟩
abbrev NL (a:ag)(i j:Nat):Bool:=!(mm a i j).any λm=>E2 (if a.getD j 0<a.getD i 0 then a.getD j 0 else a.getD i 0) (if a.getD j 0>a.getD i 0 then a.getD j 0 else a.getD i 0) m
def Wq(p:Int->Bool)(M:ag):(!M.any p)=decide (M.countP p=0):=by
 by_cases h:M.countP p=0
 ·rw[aX h];rw[jj]at h;dsimp[Bool.not_eq_true',List.any_eq_false];exact h
 ·rw[bw h];have:M.any p=true:=by
   rw[fW];refine eY λz=>h<|jj.mpr λa ha hp=>z ⟨a,ha,hp⟩
  rw[this];rfl
def aax{a:ag}(nd:a.Nodup)(J:i<j)(U:j<a.length):(decide (a.getD i 0<a.getD j 0) && NL a i j)=(decide (a.getD i 0<a.getD j 0) && decide (inv (sw a i j)=inv a+1)):=by
 by_cases c:a.getD i 0<a.getD j 0
 ·have e:=Tq (P:=a.take i) (R:=a.drop<|j+1) (abT nd J U) c;rw[<- aby J U,<- parts J U]at e;unfold NL;rw[Wq,aM (),aO c,aX c,jF,jF,gI];show(mm a i j).countP (E2 (a.getD i 0)<|a.getD j 0)=0 ↔ _
  lia
 ·rw[bw c];rfl
def UC{a:ag}(J:i<j)(U:j<a.length):(sw a i j).Perm a:=by
 have e:=parts J U;rw[aby J U]
 conv=>rhs;rw[e]
 exact((vm _ _ _).append_left _).append_right _
end Stp
namespace Nu
open PySem L2
abbrev wN:Nat->Nat
 | 0=>1
 | n+1=>(n+1) * wN n
theorem LA:∀n,0<wN n
 | 0=>Nat.one_pos
 | n+1=>Nat.mul_pos (succ_pos _)<|LA n
def Gj(n:Nat):wN n<=wN (n+1):=Nat.le_mul_of_pos_left _<|succ_pos _
def Px{a:Nat}(h:a<=b):wN a<=wN b:=by
 induction h with
 | refl=>exact aP _
 | step _ d=>exact bI d<|Gj _
abbrev rank:ag->Nat
 | []=>0
 | x::xs=>(xs.filter (· < x)).length * wN xs.length+rank xs
abbrev unr:Nat->ag->Nat->ag
 | 0,_,_=>[]
 | n+1,l,m=>l.getD (m / wN n) 0::unr n (l.eraseIdx<|m / wN n) (m % wN n)
def Mp{l:ag}{q:Nat}(hs:l.Pairwise (· < ·))(h:q<l.length):((l.eraseIdx q).filter (· < l[q])).length=q:=by
 have e:l=l.take q++l[q]::l.drop (q+1):=by rw[List.getElem_cons_drop,cY]
 rw[iP,List.filter_append];have d:=hs;rw[e,cg]at d;obtain⟨_,h2,h3⟩:=d;rw[List.filter_eq_self.mpr λa ha=>aX<|h3 a ha _<|aR ..,List.filter_eq_nil_iff.mpr λa ha z=>?_]
 ·rw[bR,bN];lia
 ·have z:=bJ z;have:=(bX.mp h2).1 a ha
  lia
def uz{l:ag}{i:Nat}(h:i<l.length):(l[i]::l.eraseIdx i).Perm l:=by
 have e:l=l.take i++l[i]::l.drop (i+1):=by rw[List.getElem_cons_drop,cY]
 rw[iP];exact(List.perm_middle.symm).trans (by rw[<- e])
def Vm{l:ag}{q:Nat}(h:q<l.length):l.getD q 0=l[q]:=by rw[aI,aH h];rfl
theorem LF:∀(n:Nat) (l xs:ag),l.length=n->l.Pairwise (· < ·)->xs.Perm l->rank xs<wN n/\unr n l (rank xs)=xs
 | 0,l,xs,hl,_,hp=>by
  have:l=[]:=List.eq_nil_of_length_eq_zero hl;subst this;have:=hp.eq_nil;subst this;exact⟨Nat.one_pos,rfl⟩
 | n+1,l,[],hl,_,hp=>by have:=hp.length_eq;rw[hl]at this;cases this
 | n+1,l,x::xs,hl,hs,hp=>by
  have p:x∈l:=hp.mem_iff.mp<|aR ..;obtain⟨j,f,g⟩:=List.getElem_of_mem p;have d:xs.Perm (l.eraseIdx j):=by
   have h1:=uz f;rw[g]at h1;exact(hp.trans h1.symm).cons_inv
  have le:(l.eraseIdx j).length=n:=by rw[List.length_eraseIdx,aO f];lia
  obtain⟨h1,h2⟩:=LF n (l.eraseIdx j) xs le (hs.sublist<|List.eraseIdx_sublist ..) d;have hc:(xs.filter (· < x)).length=j:=by
   rw[(d.filter _).length_eq,<- g];exact Mp hs f
  have B:xs.length=n:=by rw[d.length_eq,le]
  have q:rank (x::xs)=j * wN n+rank xs:=by
   show(xs.filter (· < x)).length * wN xs.length+rank xs=_;rw[hc,B]
  have m:(j * wN n+rank xs) / wN n=j:=by
   rw[mul_comm,Nat.mul_add_div<|LA n,Nat.div_eq_of_lt h1];rfl
  have k:(j * wN n+rank xs) % wN n=rank xs:=by
   rw[mul_comm,Nat.mul_add_mod,Nat.mod_eq_of_lt h1]
  rw[q];refine⟨?_,?_⟩
  ·show _<(n+1) * wN n
   calc j * wN n+rank xs<j * wN n+wN n:=()
    _=(j+1) * wN n:=(f6 _ _).symm
    _<=(n+1) * wN n:=cV _ ()
  ·show l.getD ((j * wN n+rank xs) / wN n) 0::unr n (l.eraseIdx<|(j * wN n+rank xs) / wN n) ((j * wN n+rank xs) % wN n)=_;rw[m,k,Vm f,g,h2]
def PY(i j:Int):(lE i j).Pairwise (· < ·):=by
 unfold lE;rw[cT];exact iE.imp λh=>()
end Nu
namespace Eu
open PySem L2 Bl
open Wd (ex Zo)
open Fw (rg Hr)
def nj{l:ag}{k:Nat}(h:k<l.length):l.getD k 0=l[k]:=by rw[aI,aH h];rfl
section
variable {n:Nat}
def ln{z:ag}(p:z.Perm<|rg n):z.length=n:=by rw[p.length_eq,Wd.mY]
end
abbrev al (n:Nat):List (ag):=(List.range<|Nu.wN n).map<|Nu.unr n<|rg n
abbrev sg (z:ag):Int:=if Iv.inv z % 2=1 then -1 else 1
open Classical in
abbrev sm (n:Nat)(P:ag->Prop):Int:=((al n).map λz=>if P z then sg z else 0).sum
end Eu
namespace Eu
open PySem L2 Bl Am
open Fw (rg)
def least{p:Nat->Prop}:∀m,p m->∃q,p q/\∀k,k<q->¬p k:=by
 intro m
 induction m using Nat.strongRecOn with
 | _ m f=>
  intro h;by_cases c:∃k,k<m/\p k
  ·obtain⟨k,h1,h2⟩:=c;exact f k h1 h2
  ·exact⟨m,h,λk d hp=>c ⟨k,d,hp⟩⟩
def asc{n:Nat}{y z:ag}(py:y.Perm<|rg n)(pz:z.Perm<|rg n)(hb:Below y z)(hne:y≠z):∃i j,i<j/\j<n/\y.getD i 0<y.getD j 0/\Stp.NL y i j=true/\Below (Iv.sw y i j) z/\Iv.inv (Iv.sw y i j)=Iv.inv y+1/\(Iv.sw y i j).Perm (rg n):=by
 have N:=ln py;have M:=ln pz;have O:y.Nodup:=py.nodup_iff.mpr<|rj _ _;have C:∃i,i<n/\y.getD i 0≠z.getD i 0:=by
  by_cases c:∃i,i<n/\y.getD i 0≠z.getD i 0
  ·exact c
  ·exfalso;refine hne<|List.ext_getElem () λi h1 h2=>?_;rw[<- nj,<- nj];by_cases d:y.getD i 0=z.getD i 0
   ·exact d
   ·exact absurd ⟨i,(),d⟩ c
 obtain⟨i0,h0⟩:=C;obtain⟨i,⟨hi,W⟩,m⟩:=least (p:=λi=>i<n/\y.getD i 0≠z.getD i 0) i0 h0;have K:y.take i=z.take i:=by
  apply dj;intro k;rw[List.getElem?_take,List.getElem?_take];by_cases c:k<i
  ·rw[aO c,aO c];have e:y.getD k 0=z.getD k 0:=by
    by_cases q:y.getD k 0=z.getD k 0
    ·exact q
    ·exact absurd ⟨(),q⟩<|m k c
   rw[Iv.ur (),Iv.ur (),e]
  ·rw[aM c,aM c]
 obtain⟨Z,T,U,g2,g3⟩:=Iv.part py pz N M hb K hi W;obtain⟨j,⟨f,B,g,J⟩,G⟩:=least (p:=λj=>i<j/\j<n/\y.getD i 0<y.getD j 0/\y.getD j 0<=z.getD i 0) T ⟨U,g2,(),()⟩;obtain⟨V,L,P⟩:=Iv.U9 N M hb K f B g J (λk h1 h2 ⟨h3,Y⟩=>G k h2 ⟨h1,(),h3,Y⟩) O;refine⟨i,j,f,B,g,?_,V,L,P.trans py⟩;have:=Stp.aax O f (show j<y.length by lia);rw[aX g,aX L,jF]at this;exact this
structure Done (n:Nat)(u w:ag)(es:List (ag×Bool)):Prop where
 nd:(es.map (·.1)).Nodup
 pm:∀e∈es,e.1.Perm (rg n)
 up:∀e∈es,Below u e.1
 fl:∀e∈es,(e.2=true ↔ Below e.1 w)
 st:u∈es.map (·.1)
 cl:∀e∈es,e.2=true->∀i j,i<j->j<n->e.1.getD i 0<e.1.getD j 0->Stp.NL e.1 i j=true->Iv.sw e.1 i j∈es.map (·.1)
def Done.all{n:Nat}{w:ag}{es:List<|ag×Bool}(d:Done n u w es){z:ag}(J:z.Perm<|rg n)(U:Below z w):∀(m:Nat) (y:ag),n * n-Iv.inv y=m->y∈es.map (·.1)->Below y z->z∈es.map (·.1):=by
 intro m
 induction m using Nat.strongRecOn with
 | _ m C=>
  intro y G hy hb;by_cases c:y=z
  ·rw[<- c];exact hy
  ·obtain⟨⟨y',b⟩,k,f⟩:=bC.mp hy;have f:y'=y:=f;subst f;have py:y'.Perm (rg n):=d.pm _ k;obtain⟨i,j,h1,h2,h3,p,q,h6,B⟩:=asc py J hb c;have g:=Iv.Ep<|Iv.sw y' i j;rw[ln B,h6]at g;exact C (n * n-Iv.inv (Iv.sw y' i j)) () _ rfl (d.cl _ k ((d.fl _ k).mpr<|hb.trans U) i j h1 h2 h3 p) q
def Done.mem{n:Nat}{w:ag}{es:List<|ag×Bool}(d:Done n u w es)(z:ag):z∈(es.filter (·.2)).map (·.1) ↔ z.Perm (rg n)/\Below u z/\Below z w:=by
 rw[bC];constructor
 ·rintro⟨e,f,rfl⟩;obtain⟨h1,h2⟩:=bQ.mp f;exact⟨d.pm e h1,d.up e h1,(d.fl e h1).mp h2⟩
 ·rintro⟨g,h1,h2⟩;have:=d.all g h2 _ u rfl d.st h1;obtain⟨e,f,rfl⟩:=bC.mp this;exact⟨e,bQ.mpr ⟨f,(d.fl e f).mpr h2⟩,rfl⟩
def Done.nodup{n:Nat}{w:ag}{es:List<|ag×Bool}(d:Done n u w es):((es.filter (·.2)).map (·.1)).Nodup:=(d.nd).sublist<|(fQ (l:=es)).map _
abbrev ext (n:Nat)(p:ag):List (ag):=((rg n).filter λt=>decide<|t∉p).map λt=>p++[t]
abbrev inj (n:Nat):Nat->List (ag)
 | 0=>[[]]
 | k+1=>(inj n k).flatMap<|ext n
theorem xW{n:Nat}:∀{k:Nat}{p:ag},p∈inj n k ↔ p.length=k/\p.Nodup/\∀t∈p,t∈rg n
 | 0,p=>by
  unfold inj;rw[bg];constructor
  ·rintro rfl;simp
  ·rintro⟨h,_⟩;exact dI.mp h
 | k+1,p=>by
  unfold inj;rw[fX];constructor
  ·rintro⟨q,g,hp⟩;obtain⟨t,f,rfl⟩:=bC.mp hp;obtain⟨h1,h2⟩:=bQ.mp f;obtain⟨a,b,c⟩:=xW.mp g;have h2:t∉q:=bJ h2;refine⟨by simp[a],?_,λx d=>?_⟩
   ·rw[b8];refine⟨b,by simp,λx d y hy z=>h2 ?_⟩;have:y=t:=by simpa using hy
    rw[<- this,<- z];exact d
   ·rcases bq.mp d with z|z
    ·exact c x z
    ·have:x=t:=by simpa using z
     rw[this];exact h1
  ·rintro⟨h1,h2,h3⟩
   rcases List.eq_nil_or_concat p with c|⟨q,t,c⟩
   ·rw[c]at h1;simp at h1
   ·rw[List.concat_eq_append]at c;subst c;rw[b8]at h2;refine⟨q,xW.mpr ⟨by simpa using h1,h2.1,λx d=>h3 x<|bM _ d⟩,bC.mpr ⟨t,bQ.mpr ⟨h3 t<|by simp,aX λz=>h2.2.2 t z t (by simp) rfl⟩,rfl⟩⟩
def Dt{n:Nat}{p:ag}:p∈inj n n ↔ p.Perm (rg n):=by
 rw[xW];constructor
 ·rintro⟨h1,h2,h3⟩;exact ze h2 h3 (by rw[h1,Wd.mY];exact aP _)
 ·intro d;exact⟨ln d,d.nodup_iff.mpr<|rj _ _,λt f=>d.mem_iff.mp f⟩
theorem J_:∀{a b:ag}(x y:ag),a.length=b.length->HT.lexLt a b=true->HT.lexLt (a++x) (b++y)=true
 | [],[],_,_,_,h=>by cases h
 | [],_::_,_,_,h,_=>by simp at h
 | _::_,[],_,_,h,_=>by simp at h
 | p::a,q::b,x,y,hl,h=>by
  show HT.lexLt (p::(a++x)) (q::(b++y))=true;rw[HT.pF]at h ⊢;by_cases c:p=q
  ·rw[aO c]at h ⊢;exact J_ x y (by simpa using hl) h
  ·rw[aM c]at h ⊢;exact h
theorem GV:∀(p:ag) {s t:Int},s<t->HT.lexLt (p++[s]) (p++[t])=true
 | [],s,t,h=>by
  show HT.lexLt [s] [t]=true;rw[HT.pF,aM (),aX h]
 | x::p,s,t,h=>by
  show HT.lexLt (x::(p++[s])) (x::(p++[t]))=true;rw[HT.pF,aO rfl];exact GV p h
theorem EY{n:Nat}:∀(k:Nat),(inj n k).Pairwise λa b=>HT.lexLt a b=true
 | 0=>cR _ _
 | k+1=>by
  unfold inj;rw[List.pairwise_flatMap];refine⟨λp hp=>?_,fL (λ{a b} ha hb hab x hx y hy=>?_)<|EY k⟩
  ·unfold ext;rw[cT];refine iN (λ{a b} hab=>GV p hab) ?_;exact(Nu.PY _ _).sublist fQ
  ·obtain⟨s,_,rfl⟩:=bC.mp hx;obtain⟨t,_,rfl⟩:=bC.mp hy;exact J_ [s] [t] (by rw[(xW.mp ha).1,(xW.mp hb).1]) hab
def ab2{a:ag}(h:HT.lexLt a b=true):E3 a b:=by
 show HT.lexLt b a=false
 cases c:HT.lexLt b a with
 | false=>rfl
 | true=>
  have:=Sx.Bj h c;rw[Sx.vQ]at this;cases this
def acp{n:Nat}{w:ag}{fs:List<|ag}(U:fs.Nodup)(Z:∀z,z∈fs ↔ z.Perm (rg n)/\Below u z/\Below z w)(q:ag->Bool)(J:∀z,z.Perm (rg n)->(q z=true ↔ Below u z/\Below z w)):mw fs=(inj n n).filter q:=by
 symm
 refine Bx ?_ ?_
 ·have nd:((inj n n).filter q).Nodup:=by
   refine iU fQ<|iN (λ{a b} h z=>?_)<|EY n;rw[z,Sx.vQ]at h;cases h
  refine(gA nd U).mpr λz=>?_;rw[Z,bQ,Dt];constructor
  ·rintro⟨h1,h2⟩;exact⟨h1,(J z h1).mp h2⟩
  ·rintro⟨h1,h2⟩;exact⟨h1,(J z h1).mpr h2⟩
 ·exact iU fQ<|iN ab2<|EY n
def Done.told{n:Nat}{w:ag}{es:List<|ag×Bool}(d:Done n u w es)(q:ag->Bool)(J:∀z,z.Perm (rg n)->(q z=true ↔ Below u z/\Below z w)):mw ((es.filter (·.2)).map (·.1))=(inj n n).filter q:=acp d.nodup d.mem q J
end Eu
namespace Ti
open PySem L2 Bl
open Wd (ex led)
open Fw (rg Va Hr)
inductive Mv:am->am->Prop
 | comm (P R:am) (a b:Nat) (h:a+2<=b\/b+2<=a):Mv (P++a::b::R) (P++b::a::R)
 | braid (P R:am) (a b:Nat) (h:a+1=b\/b+1=a):Mv (P++a::b::a::R) (P++b::a::b::R)
inductive Con:am->am->Prop
 | refl (u:am):Con u u
 | step {u v w:am} (h:Con u v) (m:Mv v w):Con u w
end Ti
namespace Rd
open PySem L2
open Ti (Mv Con)
meta abbrev up (v:am):ag:=v.map λk:Nat=>(k:Int)
theorem AQ:∀(N:Nat) (l:am),l.Nodup->(∀x∈l,x<N)->l.length<=N
 | 0,l,_,h=>by
  cases l with
  | nil=>exact aP _
  | cons x l=>exact absurd (h x<|aR ..)<|fh _
 | N+1,l,hn,h=>by
  by_cases c:N∈l
  ·have h1:=AQ N (l.erase N) (hn.erase N) λx d=>by
    have h1:=(List.Nodup.mem_erase_iff hn).mp d;have:=h x h1.2;have:=h1.1
    lia
   have:=gO c;have:=iJ c
   lia
  ·have:=AQ N l hn λx d=>by
    have:=h x d;have:x≠N:=λz=>c (z ▸ d)
    lia
   lia
meta abbrev En:=am×Option (am)
end Rd
namespace K54
open PySem L2 Am
abbrev prs (n:Int):ae:=(lE 1 n).flatMap λi=>(lE (i+1)<|n+1).map λj=>.tup [.int i,.int j]
def Jy{n:Int}{x:A}:x∈prs n ↔ ∃i j:Int,1<=i/\i<j/\j<=n/\x=.tup [.int i,.int j]:=by
 unfold prs;rw[fX];constructor
 ·rintro⟨i,hi,f⟩;obtain⟨j,d,rfl⟩:=bC.mp f;rw[qt]at hi d;exact⟨i,j,(),(),(),rfl⟩
 ·rintro⟨i,j,h1,h2,h3,rfl⟩;exact⟨i,qt.mpr ⟨h1,()⟩,bC.mpr ⟨j,qt.mpr ⟨(),()⟩,rfl⟩⟩
theorem GQ{α β:Type}{f:α->List β}{B:Nat}:∀(l:List α),(∀x∈l,(f x).length<=B)->(l.flatMap f).length<=l.length * B
 | [],_=>b7 _
 | x::l,h=>by
  rw[fB,aV,bH,jW,iy];have:=GQ l λy hy=>h y<|aS _ hy;have:=h x (aR ..)
  lia
def DW{n:Int}(h0:0<=n)(h1:n<=1000):(prs n).length<=16777216:=by
 have:=GQ (B:=1000) (f:=λi=>(lE (i+1)<|n+1).map λj=>A.tup [.int i,.int j]) (lE 1 n) λx d=>by
  rw[qt]at d;rw[aK,nR];lia
 rw[nR]at this;have h2:(n-1).toNat * 1000<=1000 * 1000:=cV _ ();unfold prs
 lia
theorem W6{i n lo hi:Int}:∀(k t:Nat) (x1:A),k+t=(hi-lo).toNat->∃x1',su (m_ lo hi) (k_ 1) DY (rW<|jY (jZ 0)<|jY (jZ 1)<|ki) k t [.int i,x1,.int n] S=.ok ((List.range' t k).map λq:Nat=>A.tup [.int i,.int<|lo+q],[.int i,x1',.int n]) S
 | 0,t,x1,_=>⟨x1,rfl⟩
 | k+1,t,x1,h=>by
  obtain⟨x1',e⟩:=W6 (S:=S) (i:=i) (n:=n) (lo:=lo) (hi:=hi) k (t+1) (.int<|lo+t) ();refine⟨x1',?_⟩;unfold su;have hg:(m_ lo hi).get t S=some (.int<|lo+t):=aO ();dsimp[kY,ao,hg,pX<|show([_,_]:ae).length<=16777216 by simp,e,gE,bL]
theorem OM{n:Int}(h0:0<=n)(h1:n<=1000):∀(k t:Nat) (x0 x1:A),k+t=(n-1).toNat->qT (m_ 1 n) (k_ 0) DY (uM (ko oH (jZ 0)<|eC<|.int 1)<|ko oH (jZ 2)<|eC<|.int 1) (k_ 1) DY (rW<|jY (jZ 0)<|jY (jZ 1)<|ki) k t [x0,x1,.int n] S=.ok ((List.range' t k).flatMap λq:Nat=>(lE (1+q+1)<|n+1).map λj=>A.tup [.int<|1+q,.int j]) S
 | 0,t,x0,x1,_=>rfl
 | k+1,t,x0,x1,h=>by
  have hg:(m_ 1 n).get t S=some (.int<|1+t):=aO ();obtain⟨d,e⟩:=W6 (S:=S) (i:=1+t) (n:=n) (lo:=1+t+1) (hi:=n+1) (m_ (1+t+1)<|n+1).k 0 x1 rfl;have f:((List.range' 0 (m_ (1+(t:Int)+1)<|n+1).k).map λq:Nat=>A.tup [.int<|1+t,.int<|1+t+1+q])=(lE (1+t+1)<|n+1).map λj=>A.tup [.int<|1+t,.int j]:=by
   unfold lE;rw[bF,cu];rfl
  rw[f]at e;have e2:=OM (S:=S) h0 h1 k (t+1) (.int<|1+t) d ();have hs:uM (ko oH (jZ 0)<|eC<|.int 1) (ko oH (jZ 2)<|eC<|.int 1) [.int<|1+t,x1,.int n] S=.ok (m_ (1+t+1)<|n+1) S:=
   Bm (S1:=S) (by dsimp[kY,ao]) (by dsimp[kY,ao]) (qK () ()) (qK () ())
  unfold qT;dsimp[kY,ao,hg,hs,e,e2,gE,fB]
def E8{S:j5}{n:Int}(h0:0<=n)(h1:n<=1000):lO [.int n] S=.ok (.ref S.length) (S++[.lst<|prs n]):=by
 have hs:uM (eC<|.int 1) (jZ 0) [.int n] S=.ok (m_ 1 n) S:=Bm (S1:=S) (by dsimp[kY,ao]) (by dsimp[kY,ao]) (qK () ())<|qK () ();have e:=OM (S:=S) h0 h1 (m_ 1 n).k 0 .unb .unb rfl;have hp:((List.range' 0 (m_ 1 n).k).flatMap λq:Nat=>(lE (1+q+1)<|n+1).map λj=>A.tup [.int<|1+q,.int j])=prs n:=by
  unfold prs lE;rw[jM,<- cu];rfl
 rw[hp]at e;unfold lO tF sZ HG;dsimp[kY,ao,lX,Nat.reduceAdd,Nat.reduceSub,hs,e,lG<|DW h0 h1]
abbrev wg (xs:ag)(q:A):Bool:=match q with
 | .tup [.int i,.int j]=>decide (xs.getD (i-1).toNat 0>xs.getD (j-1).toNat 0)
 | _=>false
def acn{S:j5}{n:Nat}{xs:ag}(U:xs.length=n)(h2:n<=20) :
  ∃(P:Nat) (S':j5),oO [.tup<|xs.map .int] S=.ok (.ref P) S'/\j4 S' P=some ((prs n).filter<|wg xs)/\nK S S'/\S.length<=P:=by
 have eq:=E8 (S:=S) (n:=(n:Int)) () ();have f:j4 (S++[O.lst<|prs n]) S.length=some (prs n):=ku;obtain⟨S',p,g2⟩:=qU (s:=mq S.length (prs n).length) (g:=wH 2<|oR (k_ 0)<|oR (k_ 1)<|wJ) (t:=wK<|ko Hi (ko qk (jZ 2)<|ko aSub (jZ 0)<|eC<|.int 1)<|ko qk (jZ 2)<|ko aSub (jZ 1)<|eC<|.int 1) (e:=rW<|jY (jZ 0)<|jY (jZ 1)<|ki)
  (P:=λS1=>S1=S++[O.lst<|prs n]) (T:=λd=>∃y z,d=[y,z,.tup<|xs.map .int])
  (λi=>(prs n).getD i .unb) (λi=>wg xs<|(prs n).getD i .unb) (λi=>(prs n).getD i .unb)
  (λi S1 hi k=>by
   have hi:i<(prs n).length:=hi;show(j4 S1 S.length).bind _=_;rw[k,f,eL,aI,aH hi];rfl)
  (λS1 k=>by
   show(match j4 S1 S.length with
    | some ys=>decide (ys.length<=(prs n).length)
    | none=>false)=true
   rw[k,f];simp)
  (λi d S1 hi ⟨y,z,hy⟩ k=>by
   have hi:i<(prs n).length:=hi;subst hy k;have C:(prs n).getD i .unb∈prs n:=by rw[aI,aH hi];exact dJ hi
   obtain⟨a,c,M,N,L,j⟩:=Jy.mp C;rw[j];have G:rF (xs.map A.int) (a-1)=some (.int<|xs.getD (a-1).toNat 0):=ixG () ();have K:rF (xs.map A.int) (c-1)=some (.int<|xs.getD (c-1).toNat 0):=ixG () ();refine⟨[.int a,.int c,.tup<|xs.map .int],S++[O.lst<|prs n],S++[O.lst<|prs n],by dsimp[kY,ao,mV<|show([_,_]:ae).length=2 from rfl],by dsimp[kY,ao,G,K];rfl,⟨_,_,rfl⟩,λ_=>rfl,λ_=>⟨_,by dsimp[kY,ao,pX<|show([_,_]:ae).length<=16777216 by simp],rfl⟩⟩)
  (prs n).length 0 (ng [none,none,some 0] [.tup<|xs.map .int]) (S++[O.lst<|prs n]) rfl ⟨_,_,rfl⟩ rfl
 subst g2;have m:=m8 (prs n) (wg xs) (λq=>q) .unb;rw[cu,map_id']at m;rw[m]at p;have B:=DW (n:=(n:Int)) () ();refine⟨_,(S++[O.lst<|prs n])++[.lst<|(prs n).filter<|wg xs],?_,ku,Kp.refl.lay.lay,by rw[aV];lia⟩;have J:lJ [none,none,some 0] (oM<|eFn lO<|jY (kK (f1 nM)<|jY (jZ 0)<|ki)<|ki) (wH 2<|oR (k_ 0)<|oR (k_ 1)<|wJ) (wK<|ko Hi (ko qk (jZ 2)<|ko aSub (jZ 0)<|eC<|.int 1)<|ko qk (jZ 2)<|ko aSub (jZ 1)<|eC<|.int 1) (rW<|jY (jZ 0)<|jY (jZ 1)<|ki) [.tup<|xs.map .int] S=.ok (.ref (S++[O.lst<|prs n]).length) ((S++[O.lst<|prs n])++[.lst<|(prs n).filter<|wg xs]):=by
  unfold lJ;rw[oA (S1:=S++[O.lst<|prs n]) (by dsimp[kY,ao,aK,U,eq]) f,R.nk];show R.n5 (oZ (mq S.length (prs n).length) _ _ _ (prs n).length 0 _ _) _=_;rw[p,R.mK,lG<|bI (cI _ _) B]
 unfold oO sE sA;dsimp[kY,ao,lX,Nat.reduceAdd,Nat.reduceSub,J]
abbrev Gy (i hi:Int):ae:=(lE (i+1) hi).map λj=>.tup [.int i,.int j]
def SW(n:Nat):prs n=(lE 1 (n:Int)).flatMap λi=>Gy i ((n:Int)+1):=rfl
open Bl
def Ov{xs:ag}{i:Nat}(h:i<=xs.length):(lE ((i:Int)+1)<|(xs.length:Int)+1).map (λj=>xs.getD (j-1).toNat 0)=xs.drop i:=by
 apply dj;intro p;rw[aQ,h_];by_cases c:i+p<xs.length
 ·have:(lE ((i:Int)+1)<|(xs.length:Int)+1)[p]?=some ((i:Int)+1+p):=by
   unfold lE;rw[aQ,cK ()];rfl
  rw[this];show some (xs.getD ((i:Int)+1+p-1).toNat 0)=_;rw[show((i:Int)+1+p-1).toNat=i+p by lia,<- Iv.ur c]
 ·rw[cj<|by rw[nR];lia,cj ()];rfl
def UG{xs:ag}{i:Nat}(h:i<xs.length):((Gy ((i:Int)+1)<|(xs.length:Int)+1).filter<|wg xs).length=(xs.drop<|i+1).countP λy=>decide (y<xs.getD i 0):=by
 rw[<- Ov (xs:=xs) (i:=i+1) (),List.countP_map,<- List.countP_eq_length_filter];unfold Gy;rw[List.countP_map,show(((i+1:Nat):Int))=(i:Int)+1 by lia];refine jA λj _=>?_;show wg xs (.tup [.int<|(i:Int)+1,.int j])=true ↔ decide (xs.getD (j-1).toNat 0<xs.getD i 0)=true;show decide (xs.getD ((i:Int)+1-1).toNat 0>xs.getD (j-1).toNat 0)=true ↔ _;rw[show((i:Int)+1-1).toNat=i by lia]
theorem Gr{xs:ag}:∀(k i:Nat),i+k=xs.length->(((List.range' i k).flatMap λq:Nat=>Gy ((q:Int)+1)<|(xs.length:Int)+1).filter<|wg xs).length=Iv.inv (xs.drop i)
 | 0,i,h=>by rw[List.drop_of_length_le ()];rfl
 | k+1,i,h=>by
  have hi:i<xs.length:=()
  rw[gE,fB,List.filter_append,aV,UG hi,Gr k (i+1) ()];have:xs.drop i=xs.getD i 0::xs.drop (i+1):=by
   rw[bU hi];congr 1;have:=Iv.ur hi;rw[aH hi]at this;exact bB this
  rw[this];rfl
def Zy{xs:ag}{n:Nat}(J:xs.length=n)(h1:1<=n):((prs n).filter<|wg xs).length=Iv.inv xs:=by
 have h:=Gr (xs:=xs) n 0 ();rw[List.drop_zero]at h;rw[<- h,SW,J];have e:(lE 1 (n:Int)).flatMap (λi=>Gy i<|(n:Int)+1)=(List.range' 0 n).flatMap λq:Nat=>Gy ((q:Int)+1) ((n:Int)+1):=by
  obtain⟨m,rfl⟩:∃m,n=m+1:=⟨n-1,()⟩;rw[List.range'_concat,ji];have z:Gy (((0+1 * m:Nat):Int)+1) (((m+1:Nat):Int)+1)=[]:=by
   unfold Gy lE;rw[show(((m+1:Nat):Int)+1-((((0+1 * m:Nat):Int)+1)+1)).toNat=0 by lia];rfl
  rw[fB,z];unfold lE;rw[show(((m+1:Nat):Int)-1).toNat=m by lia,jM,cu];dsimp[jJ,bR];congr 1
  funext q
  rw[Int.add_comm]
 rw[e]
def ZG{a:ag}{i j:Nat}(U:i<j)(J:j<a.length)(Z:a.length<=1000):∃S',kM [.tup<|a.map .int,.int<|(i:Int)+1,.int<|(j:Int)+1] S=.ok (.tup<|(Iv.sw a i j).map .int) S'/\nK S S':=by
 have p:rF (a.map A.int) (j:Int)=some (.int<|a.getD j 0):=ZJ rfl J;have k:rF (a.map A.int) (i:Int)=some (.int<|a.getD i 0):=ZJ rfl ();have m:B9 a.length (i:Int)=some i:=uK rfl ();have f:B9 a.length (j:Int)=some j:=uK rfl J;have q:j4 (S++[O.lst<|a.map .int]) S.length=some (a.map .int):=ku;have g:∀ys,j4 ((S++[O.lst<|a.map .int]).set S.length<|.lst ys) S.length=some ys:=λys=>oq (by simp);have d:((a.map A.int).set i<|.int<|a.getD j 0).set j (.int<|a.getD i 0)=(Iv.sw a i j).map .int:=by unfold Iv.sw;rw[gH,gH]
 unfold kM ni nq;dsimp[kY,ao,lX,Nat.reduceAdd,Nat.reduceSub,q,show(j:Int)+1-1=j by lia,show(i:Int)+1-1=i by lia,p,k,mV<|show 2<=sizeLine by decide,mV<|show 2=2 from rfl,aK,m,g,bW,f,d];rw[oq<|by simp];dsimp[kY,ao];exact⟨_,rfl,((Kp.refl.lay).set<|.inr<|aP _).set<|.inr<|aP _⟩
open Stp
meta abbrev lC (w:ag):A:=.tup<|w.map .int
abbrev pA (p:Nat×Nat):A:=.tup [.int<|(p.1:Int)+1,.int<|(p.2:Int)+1]
abbrev UA (n i:Nat):List (Nat×Nat):=(List.range' (i+1)<|n-(i+1)).map λj=>(i,j)
abbrev Zw (n:Nat):List (Nat×Nat):=(List.range n).flatMap<|UA n
def LJ{n:Nat}{p:Nat×Nat}(h:p∈Zw n):p.1<p.2/\p.2<n:=by
 obtain⟨i,hi,h⟩:=fX.mp h;obtain⟨j,d,rfl⟩:=bC.mp h;have:=cE.mp hi;rw[List.mem_range'_1]at d;exact⟨by show i<j;lia,by show j<n;lia⟩
def Wf{n:Nat}(h1:i<j)(h2:j<n):(i,j)∈Zw n:=
 fX.mpr ⟨i,cE.mpr (),bC.mpr ⟨j,List.mem_range'_1.mpr (),rfl⟩⟩
def Jl{n:Nat}(h1:1<=n):prs n=(Zw n).map pA:=by
 have e1:List.range n=List.range (n-1)++[n-1]:=by rw[<- List.range_succ,Nat.succ_eq_add_one,show n-1+1=n by lia]
 have e2:UA n (n-1)=[]:=by unfold UA;rw[show n-(n-1+1)=0 by lia];rfl
 unfold Zw;rw[e1,ji,fB,jJ,e2,bR,bR,List.map_flatMap];unfold prs;have e3:lE 1 (n:Int)=(List.range<|n-1).map λq:Nat=>(1:Int)+q:=by
  unfold lE;rw[show((n:Int)-1).toNat=n-1 by lia]
 rw[e3,jM];congr 1
 funext i
 unfold UA lE;rw[bF,bF,List.range'_eq_map_range,bF,show((n:Int)+1-(1+(i:Int)+1)).toNat=n-(i+1)by lia];refine cM λq _=>?_;show A.tup [.int<|1+(i:Int),.int<|1+(i:Int)+1+(q:Int)]=A.tup [.int<|(i:Int)+1,.int<|((i+1+q:Nat):Int)+1];rw[show(1:Int)+(i:Int)=(i:Int)+1 by lia,show((i:Int)+1+1+(q:Int))=(((i+1+q:Nat):Int)+1)by lia]
def aaE{a:ag}{i j:Nat}(J:i<j)(U:j<a.length):Eg (a.map A.int) (some<|(i:Int)+1) (some<|(j:Int)+1-1)=(mm a i j).map .int:=by
 unfold Eg mm;have l:(a.map A.int).length=a.length:=aK ..;have d:HT.pI (a.map A.int).length 0 (some<|(i:Int)+1)=i+1:=by
  rw[show(i:Int)+1=((i+1:Nat):Int)by lia,HT.Ea,l];lia
 have f:HT.pI (a.map A.int).length (a.map A.int).length (some<|(j:Int)+1-1)=j:=by
  rw[show(j:Int)+1-1=(j:Int)by lia,HT.Ea,l];lia
 rw[d,f,map_take,map_drop,show j-(i+1)=j-i-1 by lia]
def YI{n:Nat}{bs:List Bool}(h:j4 S n=some xs)(hb:A.Ue xs=some bs):Y5 (.ref n) S=.ok (.bl<|bs.any λb=>b) S:=by
 show opt (j4 S n) _=_;rw[h];show opt (A.Ue xs) _=_;rw[hb];rfl
theorem XA{α:Type}(f:α->Bool):∀(xs:List α),A.Ue (xs.map λx=>.bl<|f x)=some (xs.map f)
 | []=>rfl
 | x::xs=>by rw[bL,yD,XA f xs];rfl
def VV{a:ag}{i j:Nat}(J:i<j)(U:j<a.length)(Z:a.length<=20):pV [.tup<|a.map .int,.int<|(i:Int)+1,.int<|(j:Int)+1] S=.ok (.bl<|NL a i j) (S++[.lst<|(mm a i j).map λm=>.bl<|E2 (if a.getD j 0<a.getD i 0 then a.getD j 0 else a.getD i 0) (if a.getD j 0>a.getD i 0 then a.getD j 0 else a.getD i 0) m]):=by
 have p:rF (a.map A.int) (j:Int)=some (.int<|a.getD j 0):=ZJ rfl U;have k:rF (a.map A.int) (i:Int)=some (.int<|a.getD i 0):=ZJ rfl ();obtain⟨x,d⟩:∃x,x=(if a.getD j 0<a.getD i 0 then a.getD j 0 else a.getD i 0):=⟨_,rfl⟩;obtain⟨y,hy⟩:∃y,y=(if a.getD j 0>a.getD i 0 then a.getD j 0 else a.getD i 0):=⟨_,rfl⟩;have q:(mm a i j).length<=20:=by unfold mm;rw[bN,c8];lia
 have f:=RA (cap:=[some 3,some 4]) (src:=oM<|eSl (jZ 0) (CV<|jZ 1)<|CV<|ko aSub (jZ 2)<|eC<|.int 1) (e:=Sj Hu Hu (jZ 1) (jZ 0)<|jZ 2) (τ:=[.tup<|a.map .int,.int<|(i:Int)+1,.int<|(j:Int)+1,.int x,.int y]) (S:=S) (S1:=S) (xs:=(mm a i j).map .int)
  (Zg (by
   dsimp[kY,ao];have hg:¬(HT.pI (a.map A.int).length 0 (some<|(i:Int)+1)=0/\HT.pI (a.map A.int).length (a.map A.int).length (some<|(j:Int)+1-1)=(a.map A.int).length):=by
    rw[show(i:Int)+1=((i+1:Nat):Int)by lia,HT.Ea,aK]
    lia
   have hs:aSl (.tup<|a.map .int) (some<|(i:Int)+1) (some<|(j:Int)+1-1) S=.ok (.tup<|Eg (a.map .int) (some<|(i:Int)+1)<|some<|(j:Int)+1-1) S:=mV hg;rw[hs,aaE J U]))
  (λz=>match z with | .int m=>.bl (E2 x y m)|_=>.non) (λz g=>by
   obtain⟨m,_,rfl⟩:=bC.mp g;show Sj Hu Hu (jZ 1) (jZ 0) (jZ 2) [.int m,.int x,.int y] S=.ok (.bl<|E2 x y m) S;unfold E2;by_cases c:x<m
   ·rw[abQ (a:=.int x) (b:=.int m) (c:=.int y) rfl rfl (by dsimp[kY,aX c]) rfl,aX c,jF];dsimp[kY]
   ·rw[adI (a:=.int x) (b:=.int m) rfl rfl<|by dsimp[kY,bw c],bw c];rfl) (by rw[aK];lia)
 rw[bF,show((λz=>match z with | .int m=>A.bl (E2 x y m)|_=>.non) ∘ A.int:Int->A)=(λm=>A.bl<|E2 x y m)from rfl]at f;unfold pV yz yr;dsimp[kY,ao,lX,Nat.reduceAdd,Nat.reduceSub,show(j:Int)+1-1=j by lia,show(i:Int)+1-1=i by lia,p,k,<- d,<- hy,f];rw[YI ku<|XA (E2 x y)<|mm a i j];dsimp[kY,ao];unfold NL;rw[<- d,<- hy,any_map];rfl
end K54
namespace K54
open PySem L2 Am
open Stp
theorem Lg:∀{ls:List<|ag},(∀l∈ls,l≠[])->tsA (ls.map lC)=some ls
 | [],_=>rfl
 | l::ls,h=>by
  have d:=h l<|aR ..;have g:=Lg λk f=>h k<|aS _ f;show tsA (.tup (l.map .int)::ls.map lC)=_;unfold tsA;rw[ints_map]
  cases l with
  | nil=>exact absurd rfl d
  | cons k ks=>dsimp only;rw[g];rfl
def JN{S:j5}{n:Nat}{J:List<|ag}(h:j4 S n=some (J.map lC))(U:∀l∈J,l≠[]):yo (.ref n) S=.ok (.ref S.length) (S++[.lst<|(mw J).map lC]):=by
 cases J with
 | nil=>
  have e:isT (.ref n) S=false:=by
   show(match j4 S n with
    | some (.tup _::_)=>true
    | _=>false)=_
   rw[h];rfl
  unfold yo;rw[e];show opt (j4 S n) _=_;rw[h];rfl
 | cons l J=>
  have e:isT (.ref n) S=true:=by
   show(match j4 S n with
    | some (.tup _::_)=>true
    | _=>false)=_
   rw[h];rfl
  unfold yo;rw[e];show DJ n S=_;unfold DJ;rw[h,kL,Lg U,kL]
def abI{a:ag}(h:1<=a.length):Iv.sw a i j≠[]:=λz=>by
 have:=Iv.ZF a i j;rw[z,cP]at this
 lia
def IY{α β:Type}(J:List α)(p:α->Bool)(f:α->β)(d:α):((List.range J.length).filter λi=>p<|J.getD i d).map (λi=>f<|J.getD i d)=(J.filter p).map f:=by
 have e:J=(List.range J.length).map λi=>J.getD i d:=(range_getD J d).symm
 conv=>rhs;rw[e,gW,bF]
 rfl
abbrev stp (a:ag)(ps:List<|Nat×Nat):List (ag):=(ps.filter λp=>NL a p.1 p.2).map λp=>Iv.sw a p.1 p.2
def P7{S:j5}{a:ag}{P:Nat}{ps:List<|Nat×Nat}(hp:j4 S P=some (ps.map pA))(hps:∀p∈ps,p.1<p.2/\p.2<a.length)(h1:1<=a.length)(Z:a.length<=20)(U:ps.length<=16777216) :
  ∃(R:Nat) (S':j5),xH [lC a,.ref P] S=.ok (.ref R) S'/\j4 S' R=some ((mw<|stp a ps).map lC)/\nK S S'/\S.length<=R:=by
 have pm:∀i,i<ps.length->ps.getD i (0,0)∈ps:=λi hi=>by rw[aI,aH hi];exact dJ hi
 have f:(ps.map pA).length=ps.length:=aK ..;obtain⟨S',j,g2,K⟩:=qU (s:=mq P (ps.map pA).length) (g:=wH 2<|oR (k_ 0)<|oR (k_ 1)<|wJ) (t:=rL<|eFn pV<|jY (jZ 2)<|jY (jZ 0)<|jY (jZ 1)<|ki) (e:=eFn kM<|jY (jZ 2)<|jY (jZ 0)<|jY (jZ 1)<|ki)
  (P:=λS1=>j4 S1 P=some (ps.map pA)/\nK S S1) (T:=λd=>∃y z,d=[y,z,lC a])
  (λi=>pA<|ps.getD i (0,0)) (λi=>NL a (ps.getD i (0,0)).1 (ps.getD i (0,0)).2) (λi=>lC<|Iv.sw a (ps.getD i (0,0)).1 (ps.getD i (0,0)).2)
  (λi S1 hi k=>by
   have hi:i<ps.length:=by rw[<- f];exact hi
   show(j4 S1 P).bind _=_;rw[k.1,eL,aQ,aI,aH hi];rfl)
  (λS1 k=>by
   show(match j4 S1 P with
    | some ys=>decide (ys.length<=(ps.map pA).length)
    | none=>false)=true
   rw[k.1];simp)
  (λi d S1 hi ⟨y,z,hy⟩ k=>by
   have hi:i<ps.length:=by rw[<- f];exact hi
   subst hy;obtain⟨B,C⟩:=hps _<|pm i hi;obtain⟨p,G⟩:∃p,p=ps.getD i (0,0):=⟨_,rfl⟩;rw[<- G]at B C ⊢;have J:=VV (S:=S1) B C Z;have k1:nK S1 (S1++[.lst<|(mm a p.1 p.2).map λm=>.bl<|E2 (if a.getD p.2 0<a.getD p.1 0 then a.getD p.2 0 else a.getD p.1 0) (if a.getD p.2 0>a.getD p.1 0 then a.getD p.2 0 else a.getD p.1 0) m]):=Kp.refl.lay;obtain⟨S2,q⟩:∃S2,S2=S1++[.lst<|(mm a p.1 p.2).map λm=>.bl<|E2 (if a.getD p.2 0<a.getD p.1 0 then a.getD p.2 0 else a.getD p.1 0) (if a.getD p.2 0>a.getD p.1 0 then a.getD p.2 0 else a.getD p.1 0) m]:=⟨_,rfl⟩;rw[<- q]at J k1;obtain⟨S3,e3,k3⟩:=ZG (S:=S2) B C ();refine⟨[.int<|(p.1:Int)+1,.int<|(p.2:Int)+1,lC a],S1,S2,?_,?_,⟨_,_,rfl⟩,λ_=>⟨k1.lst _ _ (λz=>z) k.1,k.2.trans k1⟩,λ_=>⟨S3,?_,(k1.trans k3).lst _ _ (λz=>z) k.1,(k.2.trans k1).trans k3⟩⟩
   ·show wH 2 (oR (k_ 0)<|oR (k_ 1)<|wJ) (.tup [.int<|(p.1:Int)+1,.int<|(p.2:Int)+1]) _ _=_;dsimp[kY,mT,ao,mV<|show([_,_]:ae).length=2 from rfl]
   ·dsimp[kY,mT,ao,J]
   ·dsimp[kY,mT,ao,e3])
  (ps.map pA).length 0 (ng [none,none,some 0] [lC a,.ref P]) S rfl ⟨_,_,rfl⟩ ⟨hp,Kp.refl⟩
 rw[f,<- cu,IY ps (λp=>NL a p.1 p.2) (λp=>lC<|Iv.sw a p.1 p.2) (0,0)]at j;have e1:(ps.filter λp=>NL a p.1 p.2).map (λp=>lC<|Iv.sw a p.1 p.2)=(stp a ps).map lC:=by unfold stp;rw[bF];rfl
 rw[e1]at j;have L:((stp a ps).map lC).length<=16777216:=by
  unfold stp;rw[aK,aK];exact bI (cI _ _) U
 have N:lJ [none,none,some 0] (oM<|jZ 1) (wH 2<|oR (k_ 0)<|oR (k_ 1)<|wJ) (rL<|eFn pV<|jY (jZ 2)<|jY (jZ 0)<|jY (jZ 1)<|ki) (eFn kM<|jY (jZ 2)<|jY (jZ 0)<|jY (jZ 1)<|ki) [lC a,.ref P] S=.ok (.ref S'.length) (S'++[.lst<|(stp a ps).map lC]):=by
  unfold lJ;rw[oA (S1:=S) (by dsimp[kY,mT,ao]) hp,R.nk];show R.n5 (oZ (mq P (ps.map pA).length) _ _ _ (ps.map pA).length 0 _ _) _=_;rw[f,j,R.mK,lG L]
 have M:=JN (S:=S'++[.lst<|(stp a ps).map lC]) (n:=S'.length) ku λl Z=>by
  unfold stp at Z;obtain⟨p,_,rfl⟩:=bC.mp Z;exact abI h1
 refine⟨(S'++[O.lst<|(stp a ps).map lC]).length,(S'++[O.lst<|(stp a ps).map lC])++[.lst<|(mw<|stp a ps).map lC],?_,ku,K.lay.lay,by have:=K.len;rw[aV];lia⟩;unfold xH EE EO;dsimp[kY,mT,ao,lX,Nat.reduceAdd,Nat.reduceSub,N,M]
def UR{n:Nat}(h1:1<=n)(h:n<=20):(Zw n).length<=16777216:=by
 have:=DW (n:=(n:Int)) () ();rw[Jl h1,aK]at this;exact this
def VJ{n:Nat}(h1:1<=n)(q:A->Bool):(prs n).filter q=((Zw n).filter λp=>q<|pA p).map pA:=by
 rw[Jl h1,gW];rfl
abbrev ups (a:ag):List (Nat×Nat):=(Zw a.length).filter λp=>decide<|a.getD p.1 0<a.getD p.2 0
def N3{S:j5}{a:ag}(h1:1<=a.length)(Z:a.length<=20):∃(R:Nat) (S':j5),oF [lC a] S=.ok (.ref R) S'/\j4 S' R=some ((mw<|stp a<|ups a).map lC)/\nK S S'/\S.length<=R:=by
 have eq:=E8 (S:=S) (n:=(a.length:Int)) () ();have m:j4 (S++[O.lst<|prs a.length]) S.length=some (prs a.length):=ku;obtain⟨S',f,g2⟩:=qU (s:=mq S.length (prs a.length).length) (g:=wH 2<|oR (k_ 0)<|oR (k_ 1)<|wJ) (t:=wK<|ko Hu (ko qk (jZ 2)<|ko aSub (jZ 0)<|eC<|.int 1)<|ko qk (jZ 2)<|ko aSub (jZ 1)<|eC<|.int 1) (e:=rW<|jY (jZ 0)<|jY (jZ 1)<|ki)
  (P:=λS1=>S1=S++[O.lst<|prs a.length]) (T:=λd=>∃y z,d=[y,z,lC a])
  (λi=>(prs a.length).getD i .unb) (λi=>match (prs a.length).getD i .unb with | .tup [.int i,.int j]=>decide (a.getD (i-1).toNat 0<a.getD (j-1).toNat 0)|_=>false) (λi=>(prs a.length).getD i .unb)
  (λi S1 hi k=>by
   have hi:i<(prs a.length).length:=hi;show(j4 S1 S.length).bind _=_;rw[k,m,eL,aI,aH hi];rfl)
  (λS1 k=>by
   show(match j4 S1 S.length with
    | some ys=>decide (ys.length<=(prs a.length).length)
    | none=>false)=true
   rw[k,m];simp)
  (λi d S1 hi ⟨y,z,hy⟩ k=>by
   have hi:i<(prs a.length).length:=hi;subst hy k;have J:(prs a.length).getD i .unb∈prs a.length:=by rw[aI,aH hi];exact dJ hi
   obtain⟨u,c,W,Y,V,B⟩:=Jy.mp J;rw[B];have L:rF (a.map A.int) (u-1)=some (.int<|a.getD (u-1).toNat 0):=ixG () ();have U:rF (a.map A.int) (c-1)=some (.int<|a.getD (c-1).toNat 0):=ixG () ();refine⟨[.int u,.int c,lC a],S++[O.lst<|prs a.length],S++[O.lst<|prs a.length],by dsimp[kY,mT,ao,mV<|show([_,_]:ae).length=2 from rfl],by dsimp[kY,mT,ao,L,U],⟨_,_,rfl⟩,λ_=>rfl,λ_=>⟨_,by dsimp[kY,mT,ao,pX<|show([_,_]:ae).length<=16777216 by simp],rfl⟩⟩)
  (prs a.length).length 0 (ng [none,none,some 0] [lC a]) (S++[O.lst<|prs a.length]) rfl ⟨_,_,rfl⟩ rfl
 subst g2;rw[<- cu,IY (prs a.length) (λz=>match z with | .tup [.int i,.int j]=>decide (a.getD (i-1).toNat 0<a.getD (j-1).toNat 0)|_=>false) (λq=>q) .unb,map_id']at f;have G:(prs a.length).filter (λz=>match z with | .tup [.int i,.int j]=>decide (a.getD (i-1).toNat 0<a.getD (j-1).toNat 0)|_=>false)=(ups a).map pA:=by
  rw[VJ h1];have:(λp=>(λz=>match z with | .tup [.int i,.int j]=>decide (a.getD (i-1).toNat 0<a.getD (j-1).toNat 0)|_=>false) (pA p))=λp:Nat×Nat=>decide (a.getD p.1 0<a.getD p.2 0):=by
   funext p
   show decide (a.getD ((p.1:Int)+1-1).toNat 0<a.getD ((p.2:Int)+1-1).toNat 0)=_;rw[show((p.1:Int)+1-1).toNat=p.1 by lia,show((p.2:Int)+1-1).toNat=p.2 by lia]
  rw[this];rfl
 rw[G]at f;have C:(ups a).length<=16777216:=bI (cI _ _)<|UR h1 Z;have M:lJ [none,none,some 0] (oM<|eFn lO<|jY (kK (f1 nM)<|jY (jZ 0)<|ki)<|ki) (wH 2<|oR (k_ 0)<|oR (k_ 1)<|wJ) (wK<|ko Hu (ko qk (jZ 2)<|ko aSub (jZ 0)<|eC<|.int 1)<|ko qk (jZ 2)<|ko aSub (jZ 1)<|eC<|.int 1) (rW<|jY (jZ 0)<|jY (jZ 1)<|ki) [lC a] S=.ok (.ref (S++[O.lst<|prs a.length]).length) ((S++[O.lst<|prs a.length])++[.lst<|(ups a).map pA]):=by
  unfold lJ;rw[oA (S1:=S++[O.lst<|prs a.length]) (by dsimp[kY,mT,ao,aK,eq]) m,R.nk];show R.n5 (oZ (mq S.length (prs a.length).length) _ _ _ (prs a.length).length 0 _ _) _=_;rw[f,R.mK,lG<|by rw[aK];exact C]
 have k1:nK S ((S++[O.lst<|prs a.length])++[.lst<|(ups a).map pA]):=Kp.refl.lay.lay;have N:j4 ((S++[O.lst<|prs a.length])++[.lst<|(ups a).map pA]) (S++[O.lst<|prs a.length]).length=some ((ups a).map pA):=ku;obtain⟨R,S2,e2,g2,k2,K⟩:=P7 (a:=a) N (λp hp=>LJ (bQ.mp hp).1) h1 Z C;refine⟨R,S2,?_,g2,k1.trans k2,bI k1.len K⟩;unfold oF sF sN;dsimp[kY,mT,ao,lX,Nat.reduceAdd,Nat.reduceSub,M,e2]
end K54
namespace K54
open PySem L2 Am
open Bl
def Rt{L:Nat}{ms:ag}(J:j4 S L=some (ms.map .int))(hp:∃m∈ms,0<m)(U:ms.length<=1000):∃j:Nat,lU [.ref L] S=.ok (.int<|(j:Int)+1) S/\(∃m,ms[j]?=some m/\0<m)/\∀(k:Nat) (m:Int),k<j->ms[k]?=some m->m<=0:=by
 unfold lU nW n9;dsimp[kY,mT,ao,lX,Nat.reduceAdd,Nat.reduceSub];refine xY (λτ B=>B=S/\∃p:Nat,p<ms.length/\τ=[.ref L,.int<|(p:Int)+1]/\∀(k:Nat) (m:Int),k<p->ms[k]?=some m->m<=0)
  (λτ _=>match τ with
   | [_,.int i]=>(ms.length+1)-i.toNat
   | _=>0)
  (λr=>∃j:Nat,RS.end (RS.seq r _)=.ok (.int<|(j:Int)+1) S/\(∃m,ms[j]?=some m/\0<m)/\∀(k:Nat) (m:Int),k<j->ms[k]?=some m->m<=0) ?_ 1000000 _ _ ⟨rfl,0,?_,rfl,λk m q=>absurd q<|fh _⟩ ?_
 ·rintro τ B ⟨rfl,p,g,rfl,d⟩;have ha:rF (ms.map A.int) ((p:Int)+1-1)=some (.int ms[p]):=xJ (k:=p) ()<|aH g;unfold pK pR;dsimp[kY,mT,ao,J,ha];by_cases h0:ms[p]<=0
  ·right;refine⟨B,by rw[aX h0],.inl ⟨_,_,rfl,⟨rfl,p+1,?_,dG (λz=>[A.ref L,A.int z]) (),λk m q f=>?_⟩,?_⟩⟩
   ·obtain⟨m,f,C⟩:=hp;obtain⟨k,q,e⟩:=i_.mp f;have:¬k<=p:=λG=>by
     rcases Nat.lt_or_ge k p with h|h
     ·have:=d k m h (by rw[aH q,e])
      lia
     ·have:k=p:=()
      subst this
      lia
    lia
   ·rcases Nat.lt_or_ge k p with h|h
    ·exact d k m h f
    ·have:k=p:=()
     subst this;rw[aH g]at f
     cases f
     exact h0
   ·show ms.length+1-((p:Int)+1+1).toNat<ms.length+1-((p:Int)+1).toNat
    lia
  ·left;refine⟨B,by rw[bw h0],p,by dsimp[kY,mT,ao],⟨ms[p],aH g,()⟩,d⟩
 ·obtain⟨m,f,_⟩:=hp;exact iJ f
 ·show ms.length+1-(1:Int).toNat<1000000
  lia
def G6{f:A->A->j5->R A}{d:Int}(hf:∀(m:Int) S,f (.int m) (.int 1) S=.ok (.int<|m+d) S){src:Ic}{L:Nat}{ms:ag}{x:Int}{Post:RS->Prop}(U:0<=x)(hx:x<=ms.length)
  (J:src [a0,a1,.ref L,a3,a4] S=.ok (m_ 0 x) S) (Z:j4 S L=some (ms.map .int)) (fin:∀a4' S',j4 S' L=some ((oN x.toNat d ms).map .int)->Kp (·=L) S S'->Post (.nx [a0,a1,.ref L,a3,a4'] S')) :
  Post (nF src (k_ 4) (yl (jZ 2) (jZ 4) (eC<|.int 1) f) [a0,a1,.ref L,a3,a4] S):=by
 refine zO (lo:=0) (hi:=x) J (λi τ S'=>∃a4',τ=[a0,a1,.ref L,a3,a4']/\j4 S' L=some ((oN i d ms).map .int)/\Kp (·=L) S S') Post ⟨a4,rfl,Z,Kp.refl⟩ ?_ ?_
 ·rintro i τ S' hi ⟨a4',rfl,g,k⟩;left;have j:i<ms.length:=()
  have e1:((oN i d ms).map A.int)[((0:Int)+(i:Int)).toNat]?=some (.int ms[i]):=by
   rw[show((0:Int)+(i:Int)).toNat=i by lia,aQ,wo,aH j];simp
  have e2:B9 (oN i d ms).length (0+(i:Int))=some i:=uK () (by rw[yS];exact j);have p:=nY g;dsimp[kY,mT,ao,g,mV<|show(0:Int)<=0+(i:Int)by lia,e1,hf,aK,e2];refine⟨_,_,rfl,_,rfl,?_,k.set<|.inl rfl⟩;rw[oq p,<- Bs i d ms ms[i] (aH j),gH]
 ·rintro τ S' ⟨a4',rfl,g,k⟩;exact fin a4' S' (by rw[Int.sub_zero]at g;exact g) k
abbrev Wy (xs ys:ag)(i j:Nat):Prop:=cnt (ys.take i) j<cnt (xs.take i) j/\(∀f d:Nat,f<i->1<=d->d<=xs.length->cnt (xs.take f) d<=cnt (ys.take f) d)/\∀d:Nat,1<=d->d<j->cnt (xs.take i) d<=cnt (ys.take i) d
def ZK{xs ys:ag}{n:Nat}(px:xs.Perm<|lE 1<|(n:Int)+1)(py:ys.Perm<|lE 1<|(n:Int)+1)(h1:1<=n)(h2:n<=20):∃S',((CC [.tup<|xs.map .int,.tup<|ys.map .int] S=.ok .non S'/\Below xs ys) \/
  ∃i j:Nat,CC [.tup<|xs.map .int,.tup<|ys.map .int] S=.ok (.tup [.int i,.int j]) S'/\1<=i/\i<=n/\1<=j/\j<=n/\Wy xs ys i j)/\nK S S':=by
 have lx:xs.length=n:=by have:=FF px ();lia
 have ly:ys.length=n:=by have:=FF py ();lia
 unfold CC Tv Q7;dsimp[kY,mT,ao,lX,Nat.reduceAdd,Nat.reduceSub,uJ (S:=S)<|lx.trans ly.symm,aK,lx];rw[QL (k:=n) ku ()];dsimp[kY,mT,ao];have K:(S++[O.lst [.int 0]]).length=S.length+1:=by simp
 rw[K];refine zO (lo:=0) (hi:=(n:Int)) (S1:=S++[O.lst [.int 0]]++[O.lst<|List.replicate n<|.int 0]) ?_
  (λt τ S'=>∃a3 a4,τ=[.tup<|xs.map .int,.tup<|ys.map .int,.ref<|S.length+1,a3,a4]/\j4 S' (S.length+1)=some ((tX n xs ys t).map .int)/\nK S S'/\∀B g:Nat,B<=t->1<=g->g<=n->cnt (xs.take B) g<=cnt (ys.take B) g)
  (λr=>∃S',((RS.end (RS.seq r _)=.ok .non S'/\Below xs ys)\/∃i j:Nat,RS.end (RS.seq r _)=.ok (.tup [.int i,.int j]) S'/\1<=i/\i<=n/\1<=j/\j<=n/\Wy xs ys i j)/\nK S S') ⟨.unb,.unb,rfl,?_,Kp.refl.lay.lay,?_⟩ ?_ ?_
 ·refine tV ?_<|qK () ();dsimp[kY,mT,ao,aK,lx]
 ·rw[UY,List.map_replicate,<- K];exact ku
 ·intro B g hi _ _;have:B=0:=()
  subst this;simp[cnt]
 ·rintro t τ S' ht ⟨a3,a4,rfl,hL,T,J⟩;have ht':t<n:=()
  have Y:t<xs.length:=()
  have hy:t<ys.length:=()
  have mx:=GN px<|dJ Y;have my:=GN py<|dJ hy;have ax:rF (xs.map A.int) (0+(t:Int))=some (.int xs[t]):=xJ (k:=t) ()<|aH Y;have ay:rF (ys.map A.int) (0+(t:Int))=some (.int ys[t]):=xJ (k:=t) ()<|aH hy;unfold Jh;dsimp[kY,mT,ao];obtain⟨p,S2,e2,Z,V⟩:=G6 (f:=FY) (d:=1) (ms:=tX n xs ys t) (x:=xs[t]) (src:=Mb) (a0:=.tup<|xs.map .int) (a1:=.tup<|ys.map .int) (a3:=.int<|0+(t:Int)) (a4:=a4) (Post:=λr=>∃p S2,r=.nx [.tup<|xs.map .int,.tup<|ys.map .int,.ref<|S.length+1,.int<|0+(t:Int),p] S2/\j4 S2 (S.length+1)=some ((oN xs[t].toNat 1 (tX n xs ys t)).map .int)/\Kp (·=S.length+1) S' S2) (λ_ _=>rfl) () (by rw[pW];lia)
   (tV (by dsimp[kY,mT,ao,ax])<|qK () ()) hL (λp S2 h1 h2=>⟨p,S2,rfl,h1,h2⟩)
  obtain⟨L,S3,e3,G,U⟩:=G6 (f:=aSub) (d:=-1) (ms:=oN xs[t].toNat 1 (tX n xs ys t)) (x:=ys[t]) (src:=JQ) (a0:=.tup<|xs.map .int) (a1:=.tup<|ys.map .int) (a3:=.int<|0+(t:Int)) (a4:=p) (Post:=λr=>∃L S3,r=.nx [.tup<|xs.map .int,.tup<|ys.map .int,.ref<|S.length+1,.int<|0+(t:Int),L] S3/\j4 S3 (S.length+1)=some ((oN ys[t].toNat (-1) (oN xs[t].toNat 1 (tX n xs ys t))).map .int)/\Kp (·=S.length+1) S2 S3) (λ_ _=>rfl) () (by rw[yS,pW];lia)
   (tV (by dsimp[kY,mT,ao,ay])<|qK () ()) Z (λp S2 h1 h2=>⟨p,S2,rfl,h1,h2⟩)
  rw[HY Y hy]at G;have P:nK S S3:=(T.old V λn hn _=>()).old U λn hn _=>()
  obtain⟨m,em,m1,m2⟩:=QY G (by intro z;have:=dG List.length z;rw[pW]at this;simp at this;lia);dsimp[show LU=yl (jZ 2) (jZ 4) (eC<|.int 1) FY from rfl,show La=yl (jZ 2) (jZ 4) (eC<|.int 1) aSub from rfl,e2,e3,kY,ao,em];by_cases W:0<m
  ·right;rw[aX W];obtain⟨j,ej,⟨mj,M,hj2⟩,hj3⟩:=Rt G ⟨m,m1,W⟩ (by rw[pW];lia);dsimp[kY,mT,ao,ej,pX<|show([_,_]:ae).length<=16777216 by simp];have hjn:j<n:=by
    have:=(aJ.mp M).1
    rwa [pW]at this
   refine⟨_,_,rfl,S3,.inr ⟨t+1,j+1,?_,(),(),(),(),?_,?_,?_⟩,P⟩
   ·have e5:(0:Int)+(t:Int)+1=((t+1:Nat):Int):=()
    have e6:(j:Int)+1=((j+1:Nat):Int):=()
    rw[e5,e6]
   ·rw[t6 hjn]at M
    cases M
    have:((j+1:Nat):Int)=(j:Int)+1:=()
    rw[this]
    lia
   ·intro B g hi' C N;exact J B g () C ()
   ·intro g C N;have:=hj3 (g-1) _ ()<|t6 ();rw[show(((g-1:Nat):Int)+1)=(g:Int)by lia]at this
    lia
  ·left;rw[bw W];dsimp[kY,mT,ao];refine⟨_,_,rfl,_,_,rfl,G,P,λB g hi' C N=>?_⟩;by_cases hi:B<=t
   ·exact J B g hi C N
   ·have:B=t+1:=()
    subst this;have:=m2 _<|aW<|t6 (n:=n) (xs:=xs) (ys:=ys) (t:=t+1) (j:=g-1) ();rw[show(((g-1:Nat):Int)+1)=(g:Int)by lia]at this
    lia
 ·rintro τ S' ⟨a3,a4,rfl,hL,T,J⟩;refine⟨S',.inl ⟨by dsimp[kY,mT,ao],?_⟩,T⟩;refine(MV px py).mp λi q hi hq=>?_;have:=J (i+1) (q+1) () () ();exact this
def FL{xs ys:ag}{n:Nat}(J:xs.Perm<|lE 1<|(n:Int)+1)(py:ys.Perm<|lE 1<|(n:Int)+1)(h1:1<=n)(h2:n<=20):∃(k:Bool) (S':j5),n8 [.tup<|xs.map .int,.tup<|ys.map .int] S=.ok (.bl k) S'/\(k=true ↔ Below xs ys)/\nK S S':=by
 obtain⟨S',h|⟨i,j,e,f,p,g,m,h,_⟩,d⟩:=ZK (S:=S) J py h1 h2
 ·refine⟨true,S',?_,⟨λ_=>h.2,λ_=>rfl⟩,d⟩;unfold n8 uc uB;dsimp[kY,mT,ao,lX,Nat.reduceAdd,Nat.reduceSub,h.1]
 ·refine⟨false,S',?_,⟨λz=>absurd z br,λz=>?_⟩,d⟩
  ·unfold n8 uc uB;dsimp[kY,mT,ao,lX,Nat.reduceAdd,Nat.reduceSub,e]
  ·have:=z i j
   lia
end K54
namespace K54
open PySem L2 Am
open Bl
open Stp
open Fw (rg)
section
variable {S:j5}
def qR:kG (S++[.dct xs]) S.length=some xs:=rJ<|by simp
def zM{o:O}{n:Nat}(h:kG S n=some xs):kG (S++[o]) n=some xs:=by
 have h':=m9 h;exact rJ<|by rw[bE (aJ.mp h').1];exact h'
def ET{n:Nat}(h:kG S n=some xs):n<S.length:=(aJ.mp<|m9 h).1
def zV{n:Nat}(h:n<S.length):kG (S.set n<|.dct ys) n=some ys:=rJ<|bP h
def BX{n:Nat}(h:n≠m):kG (S.set n o) m=kG S m:=by unfold kG;rw[bV h]
def Fc{n:Nat}(h:n≠m):j4 (S.set n o) m=j4 S m:=by unfold j4;rw[bV h]
end
meta abbrev Eb:=List<|ag×Bool
abbrev kb (es:Eb):List (ag×A):=es.map λe=>(e.1,.bl e.2)
theorem DT:∀{es:Eb}{w:ag},(l_ (kb es) w).isSome=decide (w∈es.map (·.1))
 | [],w=>rfl
 | e::es,w=>by
  show(l_ ((e.1,.bl e.2)::kb es) w).isSome=_;by_cases c:e.1=w
  ·rw[yW c,aX<|by rw[<- c];simp];rfl
  ·rw[zc c,DT,gI];constructor
   ·exact λz=>aS _ z
   ·intro z
    rcases bG.mp z with z|z
    ·exact absurd z.symm c
    ·exact z
theorem FD:∀{es:Eb}{w:ag}{b:Bool},w∉es.map (·.1)->l_ (kb<|es++[(w,b)]) w=some (.bl b)
 | [],w,b,_=>yW rfl
 | e::es,w,b,h=>by
  show l_ ((e.1,.bl e.2)::kb (es++[(w,b)])) w=_;rw[zc λz=>h<|by rw[<- z];simp];exact FD λz=>h<|aS _ z
def UK{es:Eb}{w:ag}(h:w∉es.map (·.1)):putD (kb es) w (.bl b)=kb (es++[(w,b)]):=by
 unfold putD;rw[DT,bw h,aM br];unfold kb;rw[bS];rfl
def yc(w:ag):A.ints (w.map .int)=some w:=ints_map w
def aaF{D:Nat}{es:Eb}{w:ag}(h:kG S D=some (kb es)):M6 true (lC w) (.ref D) S=.ok (.bl<|!decide (w∈es.map (·.1))) S:=by
 show opt (kG S D) _=_;rw[h,kL];show opt (A.ints<|w.map .int) _=_;rw[yc,kL,<- DT];rfl
def ac4{D:Nat}{w:ag}{v:A}(h:kG S D=some (kb es))(J:l_ (kb es) w=some v):zC (.ref D) (lC w) S=.ok v S:=by
 show opt (kG S D) _=_;rw[h,kL];show opt (A.ints<|w.map .int) _=_;rw[yc,kL,J,kL]
def ac2{n:Nat}(hn:n<=9){ks:List<|ag}(nd:ks.Nodup)(h:∀k∈ks,k.Perm<|rg n):ks.length<=362880:=by
 have f:∀k∈ks,Nu.rank k<Nu.wN n/\Nu.unr n (rg n) (Nu.rank k)=k:=λk d=>Nu.LF n (rg n) k (Wd.mY n) (Nu.PY _ _)<|h k d;have h1:(ks.map Nu.rank).Nodup:=by
  unfold List.Nodup;rw[cT];exact fL (λ{a b} ha hb hab z=>hab<|by rw[<- (f a ha).2,<- (f b hb).2,z]) nd
 have:=Rd.AQ (Nu.wN n) _ h1 λx g=>by
  obtain⟨k,d,rfl⟩:=bC.mp g;exact(f k d).1
 rw[aK]at this;exact bI this<|bI (Nu.Px hn) ⋯
abbrev Cl (n:Nat)(z:ag)(es:Eb):Prop:=∀i j,i<j->j<n->z.getD i 0<z.getD j 0->NL z i j=true->Iv.sw z i j∈es.map (·.1)
structure Lk (n:Nat)(u y:ag)(es:Eb)(ws:List (ag))(v:Option (ag)):Prop where
 nd:(es.map (·.1)).Nodup
 pm:∀e∈es,e.1.Perm (rg n)
 wt:∀w∈ws,(w,true)∈es
 up:∀e∈es,Below u e.1
 fl:∀e∈es,(e.2=true ↔ Below e.1 y)
 st:u∈es.map (·.1)
 cl:∀e∈es,e.2=true->e.1∈ws\/some e.1=v\/Cl n e.1 es
def Lk.few{n:Nat}{es:Eb}{v:Option<|ag}(h:Lk n u y es ws v)(hn:n<=9):es.length<=362880:=by
 have:=ac2 hn h.nd λk d=>by
  obtain⟨e,f,rfl⟩:=bC.mp d;exact h.pm e f
 rwa [aK]at this
def YR{n:Nat}{a:ag}(U:a.Perm<|rg n)(J:i<j)(Z:j<n)(h:a.getD i 0<a.getD j 0):Below a (Iv.sw a i j):=by
 have d:a.length=n:=by rw[U.length_eq,Wd.mY]
 unfold Iv.sw;rw[Eu.nj<|show i<a.length by lia,Eu.nj<|show j<a.length by lia]at h ⊢;exact zk () () J h
def Cl.more{n:Nat}{x:ag×Bool}(h:Cl n z es):Cl n z (es++[x]):=λi j a b c d=>by
 rw[bS];exact bM _<|h i j a b c d
def Lk.more{n:Nat}{x:ag}{es:Eb}{v:Option<|ag}{k:Bool}(h:Lk n u y es ws v)(J:x∉es.map (·.1))(U:x.Perm<|rg n)(Z:Below u x)(hk:k=true ↔ Below x y):Lk n u y (es++[(x,k)]) (if k=true then ws++[x]else ws) v where
 nd:=by
  rw[bS,b8];refine⟨h.nd,by simp,λa ha b hb f=>J ?_⟩;have:b=x:=by simpa using hb
  rw[<- this,<- f];exact ha
 pm:=λe d=>by
  rcases bq.mp d with z|z
  ·exact h.pm e z
  ·have:e=(x,k):=by simpa using z
   rw[this];exact U
 wt:=λw hw=>by
  cases k with
  | false=>exact bM _ (h.wt w hw)
  | true=>
   rcases bq.mp hw with z|z
   ·exact bM _ (h.wt w z)
   ·have:w=x:=by simpa using z
    rw[this];exact bA _<|by simp
 up:=λe d=>by
  rcases bq.mp d with z|z
  ·exact h.up e z
  ·have:e=(x,k):=by simpa using z
   rw[this];exact Z
 fl:=λe d=>by
  rcases bq.mp d with z|z
  ·exact h.fl e z
  ·have:e=(x,k):=by simpa using z
   rw[this];exact hk
 st:=by rw[bS];exact bM _ h.st
 cl:=λe d h2=>by
  rcases bq.mp d with z|z
  ·rcases h.cl e z h2 with q|q|q
   ·left
    cases k with
    | false=>exact q
    | true=>exact bM _ q
   ·exact .inr (.inl q)
   ·exact .inr<|.inr q.more
  ·have:e=(x,k):=by simpa using z
   subst this;have h2:k=true:=h2;subst h2;left;exact bA _<|by simp
def Lr{n:Nat}{a:ag}(J:a.length=n){l:ag}:l∈mw (stp a<|ups a) ↔ ∃i j,i<j/\j<n/\a.getD i 0<a.getD j 0/\NL a i j=true/\l=Iv.sw a i j:=by
 rw[(lA _).mem_iff];unfold stp ups;rw[bC];constructor
 ·rintro⟨p,hp,rfl⟩;obtain⟨h1,h2⟩:=bQ.mp hp;obtain⟨h3,d⟩:=bQ.mp h1;have:=LJ h3;exact⟨p.1,p.2,this.1,(),bJ d,h2,rfl⟩
 ·rintro⟨i,j,h1,h2,h3,d,rfl⟩;exact⟨(i,j),bQ.mpr ⟨bQ.mpr ⟨Wf h1 (),aX h3⟩,d⟩,rfl⟩
def looked{S0:j5}{n D:Nat}{es:Eb}{ws:List<|ag}{L:List<|ag}{v oth:ag}(hn:n<=9)(h1:1<=n)(po:oth.Perm<|rg n)(hD:kG S D=some (kb es))(hW:j4 S W=some (ws.map lC))(hM:j4 S M=some (L.map lC))(hL:∀l∈L,l.Perm (rg n)/\Below u l)(lk:Lk n u oth es ws<|some v)
  (hDS:S0.length<=D) (hWS:S0.length<=W) (hDW:D≠W) (hDM:D≠M) (hWM:W≠M) (hwe:ws.length<=es.length) (kp:nK S0 S) {a0 a4 a5:A} (hsrc:r6 [a0,lC oth,.ref D,.ref W,a4,a5] T=.ok (mq M (L.map lC).length) S) :
  ∃(es':Eb) (ws':List<|ag) (b5:A) (S':j5),nF r6 (k_ 5) vP [a0,lC oth,.ref D,.ref W,a4,a5] T=.nx [a0,lC oth,.ref D,.ref W,a4,b5] S'/\kG S' D=some (kb es')/\j4 S' W=some (ws'.map lC)/\Lk n u oth es' ws' (some v)/\(∀l∈L,l∈es'.map (·.1))/\es.length<=es'.length/\ws'.length+es.length<=ws.length+es'.length/\nK S0 S':=by
 refine qe (n:=M) (xs:=L.map lC) (S1:=S) hsrc
  (λi τ S'=>∃(es':Eb) (ws':List<|ag) (b5:A),τ=[a0,lC oth,.ref D,.ref W,a4,b5]/\kG S' D=some (kb es')/\j4 S' W=some (ws'.map lC)/\j4 S' M=some (L.map lC)/\Lk n u oth es' ws' (some v)/\(∀l∈L.take i,l∈es'.map (·.1))/\es.length<=es'.length/\ws'.length+es.length<=ws.length+es'.length/\nK S0 S')
  (λr=>∃(es':Eb) (ws':List<|ag) (b5:A) (S':j5),r=.nx [a0,lC oth,.ref D,.ref W,a4,b5] S'/\kG S' D=some (kb es')/\j4 S' W=some (ws'.map lC)/\Lk n u oth es' ws' (some v)/\(∀l∈L,l∈es'.map (·.1))/\es.length<=es'.length/\ws'.length+es.length<=ws.length+es'.length/\nK S0 S')
  ⟨es,ws,_,rfl,hD,hW,hM,lk,λl C=>absurd C<|by simp,aP _,aP _,kp⟩ (λi τ S' hh=>by obtain⟨_,_,_,_,_,_,z,_⟩:=hh;exact z) ?_ ?_
 ·rintro i z τ S' hz ⟨es',ws',b5,rfl,d,p,G,j,f,J,g,m⟩;rw[aQ]at hz;obtain⟨x,hx,rfl⟩:=bh.mp hz;obtain⟨px,ux⟩:=hL x<|aW hx;have ht:L.take (i+1)=L.take i++[x]:=by
   obtain⟨hi,e⟩:=aJ.mp hx;rw[dP hi,e]
  refine⟨[a0,lC oth,.ref D,.ref W,a4,lC x],S',rfl,.inl ?_⟩;unfold vP;by_cases c:x∈es'.map (·.1)
  ·dsimp[kY,mT,ao,aaF d,aX c,c7];refine⟨_,_,rfl,es',ws',_,rfl,d,p,G,j,λl C=>?_,J,g,m⟩;rw[ht]at C
   rcases bq.mp C with z|z
   ·exact f l z
   ·have:l=x:=by simpa using z
    rw[this];exact c
  ·obtain⟨k,U,e1,hk,V⟩:=FL (S:=S') (n:=n) px po h1 ();have O:=V.dct _ _ (λz=>z) d;have Y:=V.lst _ _ (λz=>z) p;have Z:=V.lst _ _ (λz=>z) G;have fw:=j.few hn;have lkb:(kb es').length=es'.length:=aK ..;have sd:AA (.ref D) (lC x) (.bl k) U=.ok Unit.unit (U.set D<|.dct<|kb<|es'++[(x,k)]):=by
    show opt (kG U D) _=_;rw[O,kL];show opt (A.ints<|x.map .int) _=_;rw[yc,kL,aaX<|by rw[lkb,dh];lia,UK c]
   have gw:HF (jZ 2) (jZ 5) (.bl k) [a0,lC oth,.ref D,.ref W,a4,lC x] U=.ok [a0,lC oth,.ref D,.ref W,a4,lC x] (U.set D<|.dct<|kb<|es'++[(x,k)]):=by
    show(AA (.ref D) (lC x) (.bl k) U).bind _=_;rw[sd];rfl
   have lD:=ET O;have B:kG (U.set D<|.dct<|kb<|es'++[(x,k)]) D=some (kb<|es'++[(x,k)]):=zV lD;have K:j4 (U.set D<|.dct<|kb<|es'++[(x,k)]) W=some (ws'.map lC):=by rw[Fc hDW];exact Y
   have N:j4 (U.set D<|.dct<|kb<|es'++[(x,k)]) M=some (L.map lC):=by rw[Fc hDM];exact Z
   have ix:=ac4 B<|FD c;have k2:nK S0 (U.set D<|.dct<|kb<|es'++[(x,k)]):=(m.trans V).Fe<|.inr hDS;have P:=j.more c px ux hk;have le2:(es'++[(x,k)]).length=es'.length+1:=by simp
   have q:∀l∈L.take (i+1),l∈(es'++[(x,k)]).map (·.1):=λl C=>by
    rw[ht]at C;rw[bS]
    rcases bq.mp C with z|z
    ·exact bM _ (f l z)
    ·have:l=x:=by simpa using z
     rw[this];exact bA _<|by simp
   have e1:n8 [lC x,lC oth] S'=.ok (.bl k) U:=e1
   cases k with
   | false=>
    dsimp[kY,mT,ao,aaF d,bw c,c6,e1,gw,ix];exact⟨_,_,rfl,_,ws',_,rfl,B,K,N,P,q,(),(),k2⟩
   | true=>
    have lW:=nY K;have ew:ws'.map lC++[lC x]=(ws'++[x]).map lC:=by rw[bS];rfl
    dsimp[kY,mT,ao,aaF d,bw c,c6,e1,gw,ix,K,CN<|show(ws'.map lC).length<16777216 by rw[aK];lia,ew];refine⟨_,_,rfl,_,ws'++[x],_,rfl,?_,oq lW,?_,P,q,(),?_,k2.set<|.inr hWS⟩
    ·rw[BX hDW.symm];exact B
    ·rw[p8 hWM];exact N
    ·rw[aV,le2];show _+1+_<=_;lia
 ·rintro τ S' ⟨es',ws',b5,rfl,d,p,G,j,f,J,g,m⟩;rw[aK,dM]at f;exact⟨es',ws',b5,S',rfl,d,p,j,f,J,g,m⟩
end K54
namespace K54
open PySem L2 Am
open Bl
open Stp
open Fw (rg)
def WZ{n:Nat}{xs:ae}(h:j4 S n=some xs):A.U8 (.ref n) S=some (!xs.isEmpty):=by
 show(j4 S n).map _=_;rw[h];rfl
def Mz{n:Nat}{x:ag}(J:x.Perm<|rg n)(h6:n<=6):oG [lC x,lC y,.int 6,.int 9,.int 4] S=.ok .non S:=by
 have d:=mJ J;unfold oG sC sR;dsimp[kY,mT,ao,lX,Nat.reduceAdd,Nat.reduceSub,aK,d,aX<|show(n:Int)<=6 by lia]
def Uj{S:j5}{n D:Nat}{es:Eb}{v:Option<|ag}(U:kG S D=some (kb es))(lk:Lk n u y es ws v)(h1:1<=n)(hn:n<=9) :
  ∃(V:Nat) (S':j5),RS.end (RS.seq (.nx [a0,a1,.ref D,a3,a4,a5] S)<|lY<|kK (f1 yo)<|jY (lJ [none,none] (MK<|jZ 2) (wH 2<|oR (k_ 0)<|oR (k_ 1)<|wJ) (rL<|jZ 1)<|jZ 0)<|ki)=.ok (.ref V) S'/\j4 S' V=some ((mw<|(es.filter (·.2)).map (·.1)).map lC)/\S'=S.set D (.ins "" [])++[.lst<|(es.filter (·.2)).map λe=>lC e.1]++[.lst<|(mw<|(es.filter (·.2)).map (·.1)).map lC]/\S.length<=V:=by
 have hs:MK (jZ 2) [a0,a1,.ref D,a3,a4,a5] S=.ok (p5<|(kb es).map M4) (S.set D<|.ins "" []):=by
  show opt (kG S D) _=_;rw[U,kL]
 have f:((kb es).map M4).length=es.length:=by unfold kb;rw[aK,aK]
 have K:=lk.few hn;obtain⟨T,q,g2⟩:=qU (s:=p5<|(kb es).map M4) (g:=wH 2<|oR (k_ 0)<|oR (k_ 1)<|wJ) (t:=rL<|jZ 1) (e:=jZ 0)
  (P:=λS1=>S1=S.set D (.ins "" [])) (T:=λτ=>∃y z,τ=[y,z]) (λi=>M4 ((es.getD i ([],false)).1,.bl (es.getD i ([],false)).2)) (λi=>(es.getD i ([],false)).2) (λi=>lC (es.getD i ([],false)).1)
  (λi S1 hi _=>by
   have hi:i<((kb es).map M4).length:=hi;rw[f]at hi;show((kb es).map M4)[i]?=_;unfold kb;rw[bF,aQ,aI,aH hi];rfl)
  (λS1 _=>rfl)
  (λi τ S1 hi ⟨y,z,hy⟩ k=>by
   subst hy k;refine⟨[lC (es.getD i ([],false)).1,.bl (es.getD i ([],false)).2],S.set D<|.ins "" [],S.set D<|.ins "" [],?_,by dsimp[kY,mT,ao],⟨_,_,rfl⟩,λ_=>rfl,λ_=>⟨_,by dsimp[kY,ao],rfl⟩⟩;unfold M4;dsimp[kY,mT,ao,mV<|show([_,_]:ae).length=2 from rfl])
  es.length 0 (ng [none,none] [a0,a1,.ref D,a3,a4,a5]) (S.set D<|.ins "" []) (by show es.length+0=((kb es).map M4).length;rw[f];rfl) ⟨_,_,rfl⟩ rfl
 subst g2;have p:=IY es (λe=>e.2) (λe=>lC e.1) ([],false);rw[cu]at p;rw[p]at q;obtain⟨fs,d⟩:∃fs:List<|ag,fs=(es.filter (·.2)).map (·.1):=⟨_,rfl⟩;have j:((es.filter (·.2)).map λe=>lC e.1)=fs.map lC:=by rw[d,bF];rfl
 have m:∀l∈fs,l≠[]:=λl C=>by
  rw[d]at C;obtain⟨e,J,rfl⟩:=bC.mp C;have:=mJ<|lk.pm e (bQ.mp J).1;intro z;rw[z]at this;simp at this
  lia
 have G:lJ [none,none] (MK<|jZ 2) (wH 2<|oR (k_ 0)<|oR (k_ 1)<|wJ) (rL<|jZ 1) (jZ 0) [a0,a1,.ref D,a3,a4,a5] S=.ok (.ref (S.set D<|.ins "" []).length) (S.set D (.ins "" [])++[.lst<|fs.map lC]):=by
  unfold lJ;rw[hs,R.nk];show R.n5 (oZ (p5<|(kb es).map M4) _ _ _ ((kb es).map M4).length 0 _ _) _=_;rw[f,q,R.mK,lG<|by rw[aK];exact bI (cI _ _) (),j]
 have B:=JN (S:=S.set D (.ins "" [])++[.lst<|fs.map lC]) (n:=(S.set D<|.ins "" []).length) ku m;dsimp[kY,mT,ao,G,B];rw[d]at B ⊢;refine⟨_,_,rfl,ku,by rw[j,d],?_⟩;rw[aV,bW];lia
def Hw{S:j5}{n:Nat}{x y:ag}(px:x.Perm<|rg n)(py:y.Perm<|rg n)(h1:1<=n)(h6:n<=6)(q:ag->Bool)(hq:∀z,z.Perm (rg n)->(q z=true ↔ Below x z/\Below z y)):∃(V:Nat) (S':j5),qY [lC x,lC y] S=.ok (.ref V) S'/\j4 S' V=some (((Eu.inj n n).filter q).map lC)/\nK S S'/\S.length<=V:=by
 have hn:n<=9:=()
 have h2:n<=20:=()
 have lx:=mJ px;have ly:=mJ py;have ep:=uJ (S:=S) (a:=x) (b:=y) ();have e1:=Mz (S:=S) (y:=y) px h6;obtain⟨k,S2,e2,hk,k2⟩:=FL (S:=S) (n:=n) px py h1 h2;have m:=k2
 cases k with
 | false=>
  unfold qY v9 v8;dsimp[kY,mT,ao,lX,Nat.reduceAdd,Nat.reduceSub,ep,e1,e2,c6];have e0:(Eu.inj n n).filter q=[]:=List.filter_eq_nil_iff.mpr λz hz hqz=>by
   obtain⟨z1,z2⟩:=(hq z<|Eu.Dt.mp hz).mp hqz;exact absurd (hk.mpr<|z1.trans z2) br
  rw[e0];exact⟨_,_,rfl,ku,m.lay,m.len⟩
 | true=>
  have ed:QX (jZ 0) (eC<|.bl true) [lC x,lC y,.unb,.unb,.unb,.unb] S2=.ok (.ref S2.length) (S2++[.dct<|kb [(x,true)]]):=by
   show opt (A.ints<|x.map .int) _=_;rw[yc,kL];rfl
  have l1:(S2++[O.dct<|kb [(x,true)]]).length=S2.length+1:=by simp
  have key:=xY (t:=vn) (c:=u5)
   (λτ T=>∃(a4 a5:A) (es:Eb) (C:List<|ag),τ=[lC x,lC y,.ref S2.length,.ref<|S2.length+1,a4,a5]/\kG T S2.length=some (kb es)/\j4 T (S2.length+1)=some (C.map lC)/\Lk n x y es C none/\C.length<=es.length/\nK S2 T)
   (λ_ T=>2 * (362880-((kG T S2.length).getD []).length)+((j4 T<|S2.length+1).getD []).length)
   (λr=>∃(V:Nat) (S':j5),RS.end (RS.seq r<|lY<|kK (f1 yo)<|jY (lJ [none,none] (MK<|jZ 2) (wH 2<|oR (k_ 0)<|oR (k_ 1)<|wJ) (rL<|jZ 1)<|jZ 0)<|ki)=.ok (.ref V) S'/\j4 S' V=some (((Eu.inj n n).filter q).map lC)/\nK S S'/\S.length<=V) ?_ 1000000
  ·unfold qY v9 v8;dsimp[kY,mT,ao,lX,Nat.reduceAdd,Nat.reduceSub,ep,e1,e2,c7,ed,l1];have G:kG (S2++[O.dct<|kb [(x,true)]]++[O.lst [lC x]]) S2.length=some (kb [(x,true)]):=zM qR;have K:j4 (S2++[O.dct<|kb [(x,true)]]++[O.lst [lC x]]) (S2.length+1)=some [lC x]:=by rw[<- l1];exact ku
   refine key _ _ ⟨_,_,[(x,true)],[x],rfl,G,K,⟨by simp,λe f=>?_,λw hw=>?_,λe f=>?_,λe f=>?_,by simp,λe f _=>?_⟩,aP _,Kp.refl.lay.lay⟩ ?_
   ·have:e=(x,true):=by simpa using f
    rw[this];exact px
   ·have:w=x:=by simpa using hw
    rw[this];simp
   ·have:e=(x,true):=by simpa using f
    rw[this];exact Below.refl _
   ·have:e=(x,true):=by simpa using f
    rw[this];exact hk
   ·have:e=(x,true):=by simpa using f
    rw[this];left;simp
   ·rw[G,K];show 2 * (362880-1)+1<1000000;decide
  ·rintro τ T ⟨a4,a5,es,C,rfl,hD,B,lk,N,kp⟩;have fw:=lk.few hn;unfold vn;have lk2:(kb es).length=es.length:=aK ..
   rcases List.eq_nil_or_concat C with c|⟨vs,v,c⟩
   ·left;subst c;obtain⟨V,T2,e3,h3,hT2,hV⟩:=Uj (a0:=lC x) (a1:=lC y) (a3:=.ref<|S2.length+1) (a4:=a4) (a5:=a5) hD lk h1 hn;have dn:Eu.Done n x y es:=⟨lk.nd,lk.pm,lk.up,lk.fl,lk.st,λe f h2=>by
     rcases lk.cl e f h2 with z|z|z
     ·cases z
     ·cases z
     ·exact z⟩
    rw[dn.told q hq]at h3;have l2:=m.len;have lT:=kp.len;refine⟨T,by dsimp[kY,mT,ao,WZ B];rfl,V,T2,e3,h3,?_,()⟩;rw[hT2];exact m.trans<|((kp.Fe<|.inr<|aP _).lay).lay
   ·right;rw[List.concat_eq_append]at c;subst c;have tr:A.U8 (.ref<|S2.length+1) T=some true:=by
     rw[WZ B]
     cases vs<;>rfl
    refine⟨T,by dsimp[kY,mT,ao,tr],.inl ?_⟩;have ev:=lk.wt v (by simp);have pv:v.Perm (rg n):=lk.pm _ ev;have uv:Below x v:=lk.up _ ev;have lv:=mJ pv;have W:ZT (.ref<|S2.length+1) [] T=.ok (lC v) (T.set (S2.length+1)<|.lst<|vs.map lC):=by
     show opt (j4 T<|S2.length+1) _=_;rw[B,kL,bS];show opt ((vs.map lC++[lC v])[(vs.map lC++[lC v]).length-1]?) _=_;rw[aV,show(vs.map lC).length+[lC v].length-1=(vs.map lC).length by simp,gu<|aP _,gG];show R.ok (lC v) (T.set (S2.length+1)<|.lst (vs.map lC++[lC v]).dropLast)=_;rw[List.dropLast_concat]
    have lW:=nY B;have Y:kG (T.set (S2.length+1)<|.lst<|vs.map lC) S2.length=some (kb es):=by rw[BX ()];exact hD
    obtain⟨M,U,e4,hM,k4,sM⟩:=N3 (S:=T.set (S2.length+1)<|.lst<|vs.map lC) (a:=v) () ();have hDU:=k4.dct _ _ (λz=>z) Y;have hWU:=k4.lst _ _ (λz=>z)<|oq (ys:=vs.map lC) lW;rw[bW]at sM;have L:r6 [lC x,lC y,.ref S2.length,.ref<|S2.length+1,lC v,a5] (T.set (S2.length+1)<|.lst<|vs.map lC)=.ok (mq M ((mw<|stp v<|ups v).map lC).length) U:=
     oA (by dsimp[kY,mT,ao,e4]) hM
    have kU:nK S2 U:=(kp.set<|.inr ()).trans k4;rw[aV]at N;have hwe':vs.length+1<=es.length:=N;have lk0:Lk n x y es vs (some v):=⟨lk.nd,lk.pm,λw hw=>lk.wt w<|bM _ hw,lk.up,lk.fl,lk.st,λe f h2=>by
     rcases lk.cl e f h2 with z|z|z
     ·rcases bq.mp z with z|z
      ·exact .inl z
      ·have:e.1=v:=by simpa using z
       rw[this];exact .inr<|.inl rfl
     ·cases z
     ·exact .inr<|.inr z⟩
    obtain⟨g,p,b5,S',e5,J,P,d,Z,hle,hle2,kp'⟩:=looked (S0:=S2) hn h1 py hDU hWU hM (λl hl=>by
     obtain⟨i,j,c1,c2,c3,c4,rfl⟩:=(Lr lv).mp hl;exact⟨(Stp.UC c1 ()).trans pv,uv.trans<|YR pv c1 c2 c3⟩) lk0 (aP _) () () () () () kU L
    have lkn:Lk n x y g p none:=⟨d.nd,d.pm,d.wt,d.up,d.fl,d.st,λe f h2=>by
     rcases d.cl e f h2 with z|z|z
     ·exact .inl z
     ·have z:e.1=v:=bB z;right;right;intro i j c1 c2 c3 c4;rw[z]at c3 c4 ⊢;exact Z _ ((Lr lv).mpr ⟨i,j,c1,c2,c3,c4,rfl⟩)
     ·exact .inr<|.inr z⟩
    unfold u5;dsimp[kY,mT,ao,B,W,e5];refine⟨_,_,rfl,⟨_,_,g,p,rfl,J,P,lkn,(),kp'⟩,?_⟩;have fw':=d.few hn;have lk3:(kb g).length=g.length:=aK ..;dsimp[J,P,hD,B,gD,aK,aV,lk2,lk3];show 2 * (362880-g.length)+p.length<2 * (362880-es.length)+(vs.length+1)
    lia
end K54
namespace Eu
open PySem L2 Bl Am
open Fw (rg)
def mono{n:Nat}{z:ag}(J:z.Perm<|rg n):∀(m:Nat) (y:ag),n * n-Iv.inv y=m->y.Perm (rg n)->Below y z->Iv.inv y<=Iv.inv z/\(Iv.inv y=Iv.inv z->y=z):=by
 intro m
 induction m using Nat.strongRecOn with
 | _ m k=>
  intro y p py hb;by_cases c:y=z
  ·subst c;exact⟨aP _,λ_=>rfl⟩
  ·obtain⟨i,j,h1,h2,h3,B,g,h6,f⟩:=asc py J hb c;have d:=Iv.Ep<|Iv.sw y i j;rw[ln f,h6]at d;have:=(k (n * n-Iv.inv (Iv.sw y i j)) () _ rfl f g).1;exact⟨(),λq=>()⟩
structure Cb (n:Nat)(x y:ag)(k:Nat)(la fs:List (ag)):Prop where
 ly:∀z∈la,z.Perm (rg n)/\Below x z/\Iv.inv z=Iv.inv x+k
 fo:∀z,z.Perm (rg n)->Below x z->Below z y->Iv.inv z=Iv.inv x+k->z∈la
 fd:∀f,f∈fs ↔ f.Perm (rg n)/\Below x f/\Below f y/\Iv.inv f<Iv.inv x+k
 nl:la.Nodup
 nf:fs.Nodup
end Eu
namespace Cw
open PySem L2 Bl
open Wd (ex sw)
open Fw (rg)
abbrev rs (n:Nat):am:=(lE 1 (n:Int)).map Int.toNat
abbrev sm (n:Nat)(f:Nat->Nat):Nat:=((rs n).map f).sum
end Cw
namespace Eu
open PySem L2 Bl Am
open Wd (ex led qz)
open Fw (rg)
structure Lo (n:Nat)(a:ag)(ks:List (ag)):Prop where
 nd:ks.Nodup
 mm:∀z,z∈ks ↔ z.Perm (rg n)/\Below z a
end Eu
namespace K54
open PySem L2 Am
open Wd (ex led qz)
open Fw (rg)
open Eu (Lo)
abbrev B0 (m:Nat)(ks:List<|ag):ag:=(List.range<|m+1).map λj=>((ks.countP λz=>Iv.inv z == j:Nat):Int)
def zG(m:Nat)(ks:List<|ag):(B0 m ks).length=m+1:=by unfold B0;rw[aK,cF]
def ac5{N:Nat}(J:N<=1000)(T:j5):ve (.rng 1<|(N:Int)+1) T=.ok (lC<|rg N) T:=IQ<|GF (show(-1000000:Int)<=1 by decide) ⋯ (show -1000000<=(N:Int)+1 by lia) () ()
end K54
namespace K54
open PySem L2 Am
open Wd (ex led qz)
open Fw (rg)
open Eu (Lo inj)
open Bl
def Ur{ks:List<|ag}(h:j<=m):(B0 m ks).getD j 0=((ks.countP λz=>Iv.inv z == j:Nat):Int):=by
 unfold B0;rw[aI,aQ,cK ()];rfl
def P8{l:ag}(h:Iv.inv l<=m):(B0 m ks).set (Iv.inv l) ((B0 m ks).getD (Iv.inv l) 0+1)=B0 m (ks++[l]):=by
 rw[Ur h];refine dj λj=>?_;by_cases f:j<m+1
 ·have g:∀d,(B0 m d)[j]?=some ((d.countP λz=>Iv.inv z == j:Nat):Int):=λd=>by unfold B0;rw[aQ,cK f];rfl
  rw[g,jz,zG,List.countP_append,cX,jR];by_cases e:Iv.inv l=j
  ·subst e;rw[aO rfl,aO f,aO<|by simp];congr 1
  ·rw[aM e,g,aM<|by simpa using e];rfl
 ·rw[cj<|by rw[bW,zG];lia,cj<|by rw[zG];lia]
abbrev qd (n:Nat)(a z:ag):Bool:=@decide (Below (rg n) z/\Below z a)<|Classical.propDecidable _
def SI{n:Nat}{a:ag}:qd n a z=true ↔ Below (rg n) z/\Below z a:=@ju _<|Classical.propDecidable _
def Qv{n:Nat}{z:ag}(J:z.Perm<|rg n):Below (rg n) z:=by
 obtain⟨h1,h2⟩:=He.abX J;have:=Wd.BD h1;rw[h2]at this;exact this
def Rj{n:Nat}{a:ag}:Lo n a ((inj n n).filter<|qd n a) where
 nd:=by
  refine iU fQ<|iN (λ{a b} h z=>?_)<|Eu.EY n;rw[z,Sx.vQ]at h;cases h
 mm:=λz=>by
  rw[bQ,Eu.Dt,SI];exact⟨λh=>⟨h.1,h.2.2⟩,λh=>⟨h.1,Qv h.1,h.2⟩⟩
def Rc{n:Nat}(hn:n<=20):oK [.int n] S=.ok (lC<|rg n) S:=by
 unfold oK tQ sJ;dsimp[kY,mT,ao,lX,Nat.reduceAdd,Nat.reduceSub,ac5<|show n<=1000 by lia]
def zF{n:Nat}{x:ag}(J:x.Perm<|rg n)(h1:1<=n)(h2:n<=20):∃S',nH [lC x] S=.ok (.int (Iv.inv x:Nat)) S'/\nK S S':=by
 obtain⟨P,S1,e1,d,k1,_⟩:=acn (S:=S) (mJ J) h2;unfold nH Aw AR;dsimp[kY,mT,ao,lX,Nat.reduceAdd,Nat.reduceSub,e1,d,Zy (mJ J) h1];exact⟨_,rfl,k1⟩
def Az{S:j5}{n:Nat}{a:ag}(Z:a.Perm<|rg n)(h1:1<=n)(hn:n<=6):∃(D:Nat) (S':j5),uC [lC a] S=.ok (.ref D) S'/\j4 S' D=some ((B0 (Iv.inv a)<|(inj n n).filter<|qd n a).map .int)/\nK S S'/\S.length<=D:=by
 have B:=mJ Z;have iv:=Iv.Ep a;have Y:a.length * a.length<=36:=by rw[B];exact jv hn hn
 obtain⟨S1,e1,k1⟩:=zF (S:=S++[O.lst [.int 0]]) Z h1 ();have h0:j4 S1 S.length=some [.int 0]:=k1.lst _ _ (λz=>z) ku;have K:wG (.ref S.length) (.int<|(Iv.inv a:Nat)+1) S1=.ok (.ref S1.length) (S1++[O.lst<|(B0 (Iv.inv a) []).map .int]):=by
  have:=QL (k:=Iv.inv a+1) h0 ();have e:(B0 (Iv.inv a) []).map A.int=List.replicate (Iv.inv a+1) (.int 0):=by
   unfold B0;rw[bF];refine List.eq_replicate_iff.mpr ⟨by simp,λx g=>?_⟩;obtain⟨q,_,rfl⟩:=bC.mp g;rfl
  rw[e];exact this
 obtain⟨V,S2,e2,G,k2,L⟩:=Hw (S:=S1++[O.lst<|(B0 (Iv.inv a) []).map .int]) (fV<|rg n) Z h1 hn (qd n a) λz _=>SI;have j:j4 S2 S1.length=some ((B0 (Iv.inv a) []).map .int):=k2.lst _ _ (λz=>z) ku;have P:=k1.len;rw[aV,iQ]at P;rw[aV,iQ]at L;unfold uC Ad zL;dsimp[kY,mT,ao,lX,Nat.reduceAdd,Nat.reduceSub,aK,B,bw<|show ¬(6:Int)<n by lia,lG<|show([.int 0]:ae).length<=16777216 by simp,e1,K];refine qe (n:=V) (xs:=((inj n n).filter<|qd n a).map lC) (S1:=S2) (show CM _ _=_ from oA (by dsimp[kY,mT,ao,aK,B,Rc<|show n<=20 by lia,e2]) G)
  (λi τ T=>(∃p,τ=[lC a,.ref S1.length,p])/\j4 T V=some (((inj n n).filter<|qd n a).map lC)/\j4 T S1.length=some ((B0 (Iv.inv a)<|((inj n n).filter<|qd n a).take i).map .int)/\nK S T)
  (λr=>∃(D:Nat) (S':j5),RS.end (RS.seq r _)=.ok (.ref D) S'/\j4 S' D=some ((B0 (Iv.inv a)<|(inj n n).filter<|qd n a).map .int)/\nK S S'/\S.length<=D)
  ⟨⟨_,rfl⟩,G,j,(((Kp.refl.lay).trans k1).lay).trans k2⟩ (λi τ T h=>h.2.1) ?_ ?_
 ·rintro i x τ T g ⟨⟨p,rfl⟩,J,f,kp⟩;rw[aQ]at g;obtain⟨l,C,rfl⟩:=bh.mp g;obtain⟨hi,el⟩:=aJ.mp C;obtain⟨pl,bl⟩:=(Rj.mm l).mp<|aW C;have M:=(Eu.mono Z _ l rfl pl bl).1;refine⟨[lC a,.ref S1.length,lC l],T,rfl,.inl ?_⟩;obtain⟨T1,e3,k3⟩:=zF (S:=T) pl h1 ();have d:=k3.lst _ _ (λz=>z) f;have m:=k3.lst _ _ (λz=>z) J;have W:=zG (Iv.inv a)<|((inj n n).filter<|qd n a).take i;have N:((B0 (Iv.inv a)<|((inj n n).filter<|qd n a).take i).map A.int)[((Iv.inv l:Nat):Int).toNat]?=some (.int<|(B0 (Iv.inv a)<|((inj n n).filter<|qd n a).take i).getD (Iv.inv l) 0):=by
   rw[di,aQ,aI,aH ()];rfl
  have U:B9 ((B0 (Iv.inv a)<|((inj n n).filter<|qd n a).take i).map A.int).length ((Iv.inv l:Nat):Int)=some (Iv.inv l):=uK rfl (by rw[aK];lia);unfold Cz;dsimp[kY,mT,ao,e3,d,mV<|show(0:Int)<=((Iv.inv l:Nat):Int)by lia,N,U];have lt:=nY d;refine⟨_,_,rfl,⟨_,rfl⟩,by rw[p8 ()];exact m,?_,(kp.trans k3).set<|.inr ()⟩;rw[oq lt,dP hi,el,<- P8 M,gH]
 ·rintro τ T ⟨⟨p,rfl⟩,J,f,kp⟩;rw[aK,dM]at f;dsimp[kY,mT,ao];exact⟨_,_,rfl,f,kp,()⟩
end K54
namespace K54
open PySem L2 Am
open Po (Pl)
open Su (Es En)
abbrev wu (m J:Nat)(t:ag)(q:Int×Int):Option (ag):=
 if 0<=((J:Int)+m-q.1) / 2/\((J:Int)+m-q.1) / 2<t.length then some (t.set (((J:Int)+m-q.1) / 2).toNat<|t.getD (((J:Int)+m-q.1) / 2).toNat 0+q.2)else none
abbrev wq (m J:Nat):ag->Pl->Option (ag)
 | t,[]=>some t
 | t,q::p=>(wu m J t q).bind λd=>wq m J d p
abbrev wS (m:Nat):ag->Su.Ps->Option (ag)
 | t,[]=>some t
 | t,e::l=>(wq m (Iv.inv e.1) t e.2).bind λd=>wS m d l
abbrev wok (w:ag):Bool:=match wS (Iv.inv w) (List.replicate (Iv.inv w+1) 0) (Kl.K w)with
 | some (x::_)=>x == 1
 | _=>false
def ad5:∀w∈He.arr 4 (Fw.rg 4),wok w=true:=by decide +kernel
def Qc{V r J:Nat}{t t':ag}{p:Pl}(U:j4 S r=some (Po.pl p))(Z:j4 S V=some (t.map .int))(ne:r≠V)(hw:wq m J t p=some t') :
  ∃(z7 z8:A) (S':j5),nF vd (wH 2<|oR (k_ 7)<|oR (k_ 8) wJ) vO [a0,a1,a2,.ref V,a4,.ref r,.int<|(J:Int)+m,y7,y8] S=.nx [a0,a1,a2,.ref V,a4,.ref r,.int<|(J:Int)+m,z7,z8] S'/\j4 S' V=some (t'.map .int)/\Kp (·=V) S S':=by
 refine qe (n:=r) (xs:=Po.pl p) (S1:=S) (show vd _ _=_ from oA (by dsimp[kY,ao]) U)
  (λi τ T=>∃(z7 z8:A) (u:ag),τ=[a0,a1,a2,.ref V,a4,.ref r,.int<|(J:Int)+m,z7,z8]/\j4 T V=some (u.map .int)/\wq m J u (p.drop i)=some t'/\Kp (·=V) S T)
  (λR=>∃(z7 z8:A) (S':j5),R=.nx [a0,a1,a2,.ref V,a4,.ref r,.int<|(J:Int)+m,z7,z8] S'/\j4 S' V=some (t'.map .int)/\Kp (·=V) S S')
  ⟨_,_,t,rfl,Z,hw,Kp.refl⟩ (λi τ T h=>?_) ?_ ?_
 ·obtain⟨_,_,_,_,_,_,kp⟩:=h;exact kp.lst _ _ ne U
 ·rintro i z τ T g ⟨z7,z8,u,rfl,f,d,kp⟩;unfold Po.pl at g;rw[aQ]at g;obtain⟨q,C,rfl⟩:=bh.mp g;obtain⟨hi,eq⟩:=aJ.mp C;rw[bU hi,eq]at d;obtain⟨B,h1,h2⟩:=cZ.mp d;refine⟨[a0,a1,a2,.ref V,a4,.ref r,.int<|(J:Int)+m,.int q.1,.int q.2],T,rfl,.inl ?_⟩;unfold wu at h1;split at h1
  ·rename_i c;have j:(u.map A.int)[(((J:Int)+m-q.1) / 2).toNat]?=some (.int<|u.getD (((J:Int)+m-q.1) / 2).toNat 0):=by
    rw[aQ,aI,aH ()];rfl
   have G:B9 (u.map A.int).length (((J:Int)+m-q.1) / 2)=some (((J:Int)+m-q.1) / 2).toNat:=uK () (by rw[aK];lia);have k:=Io (S:=T) (i:=(J:Int)+m-q.1) (show(0:Int)<2 by decide) ⋯;unfold vO;dsimp[kY,mT,ao,k,f,mV c.1,j,G];refine⟨_,_,rfl,_,_,B,rfl,?_,h2,kp.set<|.inl rfl⟩;rw[oq<|nY f,<- bB h1,gH]
  ·cases h1
 ·rintro τ T ⟨z7,z8,u,rfl,f,d,kp⟩;have:(Po.pl p).length=p.length:=aK ..;rw[this,List.drop_length]at d;exact⟨z7,z8,T,rfl,by rw[f,bB d],kp⟩
def U6{N:Nat}{o:ag}(U:N<5)(J:o.Perm<|Fw.rg N):∃(r:Nat) (S':j5) (rs:Es),pC [lC o] S=.ok (.ref r) S'/\Sm S' r rs/\Su.sm rs=Kl.K o/\nK S S':=by
 have lo:=mJ J;have j:Iv.inv o<8:=by
  have:=Kl.Eo o;rw[lo]at this;have h2:N * (N-1)<=4 * 3:=jv () ()
  lia
 have f:o8 [lC o] S=.ok .non S:=by
  unfold o8 uD uf;have:decide ((o.length:Int)>5)=false:=bw ();dsimp[kY,mT,ao,lX,Nat.reduceAdd,Nat.reduceSub,aK,this]
 have k1:nK S (S++[O.dct []]):=Kp.refl.lay;have g:kG (S++[O.dct []]) S.length=some []:=Su.qR;obtain⟨r,S2,q,rs,k,p,m,e2,k2⟩:=KY (d:=S.length) U 8 (S++[O.dct []]) [] o j J ⟨g,Su.Gd.nil,(nofun),(nofun)⟩;refine⟨r,S2,rs,?_,m,e2,k1.old k2 λn ln _ z=>()⟩;unfold pC uI uw;dsimp[kY,mT,ao,lX,Nat.reduceAdd,Nat.reduceSub,f,Su.x_,show uL=nJ 8 from rfl,k]
def Hv{a:ag}(pa:a.Perm<|Fw.rg 4):∃(V:Nat) (xs:ae) (S':j5),p7 [lC a] S=.ok (.ref V) S'/\j4 S' V=some (.int 1::xs)/\nK S S':=by
 have la:=mJ pa;have d:=ad5 a<|Kl.Sw pa;obtain⟨r,S1,rs,e1,q,Y,k1⟩:=U6 (S:=S) (show 4<5 by decide) pa;obtain⟨S2,e2,k2⟩:=zF (S:=S1) pa ⋯ ⋯;have i12:2 * Iv.inv a<=4 * 3:=by have:=Kl.Eo a;rw[la]at this;exact this
 obtain⟨S3,g,k3,l3⟩:=Vr S2 [.int 0];obtain⟨P,N,U,l4⟩:=Vr S3<|(List.replicate (Iv.inv a+1) (0:Int)).map .int;have f:wG (.ref S2.length) (.int<|(Iv.inv a:Nat)+1) S3=.ok (.ref S3.length) P:=by
  have:=QL (k:=Iv.inv a+1) l3 ();rw[N,List.map_replicate];exact this
 have L:=k3.trans U;have G:=q.kp<|k2.trans L;have lr:r<S3.length:=by have:=nY (q.kp<|k2.trans k3).l;exact this
 have J:(rs.map Su.ent).length=rs.length:=aK ..;unfold wok at d;rw[<- Y]at d;obtain⟨x,xs,ew,hx⟩:∃x xs,wS (Iv.inv a) (List.replicate (Iv.inv a+1) 0) (Su.sm rs)=some (x::xs)/\x=1:=by
  cases hw:wS (Iv.inv a) (List.replicate (Iv.inv a+1) 0) (Su.sm rs)with
  | none=>rw[hw]at d;cases d
  | some l=>
   cases l with
   | nil=>rw[hw]at d;cases d
   | cons x xs=>rw[hw]at d;exact⟨x,xs,rfl,eq_of_beq d⟩
 subst hx;unfold p7 wm vW;have l0:newL [.int 0] S2=.ok (.ref S2.length) S3:=by rw[g];exact lG (show([.int 0]:ae).length<=16777216 by simp)
 dsimp[kY,mT,ao,lX,Nat.reduceAdd,Nat.reduceSub,e1,e2,l0,pX<|show([.int 0]:ae).length<=16777216 by simp,<- g,f];refine qe (n:=r) (xs:=rs.map Su.ent) (S1:=P) (show zj _ _=_ from oA (by dsimp[kY,ao]) G.l)
  (λi τ T=>∃(C O B y7 y8:A) (u:ag),τ=[lC a,.ref r,.int (Iv.inv a:Nat),.ref S3.length,C,O,B,y7,y8]/\j4 T S3.length=some (u.map .int)/\wS (Iv.inv a) u ((Su.sm rs).drop i)=some (1::xs)/\Kp (·=S3.length) P T)
  (λR=>∃(V:Nat) (xs:ae) (S':j5),RS.end (RS.seq R _)=.ok (.ref V) S'/\j4 S' V=some (.int 1::xs)/\nK S S')
  ⟨_,_,_,_,_,_,rfl,l4,ew,Kp.refl⟩ (λi τ T h=>?_) ?_ ?_
 ·obtain⟨_,_,_,_,_,_,_,_,_,kp⟩:=h;exact kp.lst _ _ () G.l
 ·rintro i z τ T W ⟨C,O,B,y7,y8,u,rfl,p,j,kp⟩;rw[aQ]at W;obtain⟨e,Z,rfl⟩:=bh.mp W;have f:=aW Z;have me:(e.1,e.2.2)∈Kl.K a:=qG Y f;obtain⟨hi,eq⟩:=aJ.mp Z;have m:i<(Su.sm rs).length:=by rw[Su.y9];exact hi
  have ei:(Su.sm rs)[i]=(e.1,e.2.2):=(eK (λe:En=>(e.1,e.2.2)) (h:=m)).trans (by rw[eq]);rw[bU m,ei]at j;obtain⟨u',h1,h2⟩:=cZ.mp j;obtain⟨T1,e3,k5⟩:=zF (S:=T) (Kl.O1 ⋯ pa _ me).1 ⋯ ⋯;have hr:=kp.lst _ _ (show ¬e.2.1=S3.length from λz=>by have:=nY<|(q.kp<|k2.trans k3).a e f;lia)<|G.a e f;obtain⟨z7,z8,T2,e4,M,k6⟩:=Qc (S:=T1) (a0:=lC a) (a1:=.ref r) (a2:=.int (Iv.inv a:Nat)) (a4:=lC e.1) (y7:=y7) (y8:=y8) (k5.lst _ _ (λz=>z) hr) (k5.lst _ _ (λz=>z) p) (show e.2.1≠S3.length from λz=>by have:=nY<|(q.kp<|k2.trans k3).a e f;lia) h1;refine⟨[lC a,.ref r,.int (Iv.inv a:Nat),.ref S3.length,lC e.1,.ref e.2.1,B,y7,y8],T,rfl,.inl ⟨[lC a,.ref r,.int (Iv.inv a:Nat),.ref S3.length,lC e.1,.ref e.2.1,.int<|(Iv.inv e.1:Nat)+(Iv.inv a:Nat),z7,z8],T2,?_,_,_,_,_,_,u',rfl,M,h2,(kp.trans k5.of0).trans k6⟩⟩;unfold zl;dsimp[kY,mT,ao,e3,↓e4]
 ·rintro τ T ⟨C,O,B,y7,y8,u,rfl,p,j,kp⟩;rw[J,<- Su.y9,List.drop_length]at j;rw[bB j]at p;dsimp[kY,ao];have ls:=((k1.trans k2).trans k3).len;exact⟨_,_,_,rfl,p,((k1.trans k2).trans k3).old (U.of0.trans kp) λn ln _ z=>()⟩
end K54
namespace K54
open PySem L2 Am
def Di{s:Src}{xs:ae}{src:Ic}{t:Te}{e:Ex}(hs:src τ S=.ok s S1)(U:s.k=xs.length)(b:Nat->Prop)(hg:∀T,Kp b S1 T->∀i:Nat,i<xs.length->s.get i T=xs[i]?)(J:∀T,Kp b S1 T->s.fin T=true)(p:A->Bool)(f:A->A)
  (step:∀x∈xs,∀T,Kp b S1 T->∃T1,t (x::ng cap τ) T=.ok (p x) T1/\Kp b T T1/\(p x=true->∃T2,e (x::ng cap τ) T1=.ok (f x) T2/\Kp b T1 T2)) (Z:xs.length<=16777216) :
  ∃S',lJ (none::cap) src (k_ 0) t e τ S=.ok (.ref S'.length) (S'++[.lst<|(xs.filter p).map f])/\Kp b S1 S':=by
 have j:∀i,i<xs.length->xs.getD i .unb∈xs:=λi hi=>by
  rw[aI,aH hi];exact dJ hi
 obtain⟨S',h1,h2⟩:=qU (s:=s) (g:=k_ 0) (t:=t) (e:=e) (P:=λT=>Kp b S1 T) (T:=λd=>∃y,d=y::ng cap τ) (λi=>xs.getD i .unb) (λi=>p<|xs.getD i .unb) (λi=>f<|xs.getD i .unb) (λi T hi h=>by
   rw[U]at hi;rw[hg T h i hi,aI,aH hi];rfl) J
  (λi d T hi hy h=>by
   obtain⟨y,rfl⟩:=hy;rw[U]at hi;obtain⟨T1,e1,k1,q⟩:=step _ (j i hi) T h;refine⟨xs.getD i .unb::ng cap τ,T,T1,rfl,e1,⟨_,rfl⟩,λ_=>h.trans k1,λhp=>?_⟩;obtain⟨T2,e2,k2⟩:=q hp;exact⟨T2,e2,(h.trans k1).trans k2⟩) s.k 0 (ng (none::cap) τ) S1 rfl ⟨_,rfl⟩ Kp.refl
 refine⟨S',?_,h2⟩;unfold lJ;rw[hs,R.nk,h1,R.mK,U,<- cu,m8 xs p f .unb];refine lG ?_;rw[aK];exact bI (cI _ _) Z
def ZZ{a c:Bool}:UB (I0 [("NoPair",a),("NoWord",b),("TooMany",c)]) (.exn "TooMany") S=.ok (.bl c) S:=by
 have e:I0 [("NoPair",a),("NoWord",b),("TooMany",c)] "TooMany" = some c:=by
  show List.lookup ("TooMany" : Str) [("NoPair",a),("NoWord",b),("TooMany",c)]=some c;rw[dR,show(("TooMany" : Str) == "NoPair")=false from by decide +kernel,dR,show(("TooMany" : Str) == "NoWord")=false from by decide +kernel,dR,b9]
 unfold UB;dsimp[e,kL]
def Ky{n:Nat}{x:Str}:RS.try i n (y::z::x::cs) d (.ex x S)=Uh i (d ((List.replicate n .unb).set i<|.exn x) S):=aO<|.tail _<|.tail _<|.head _
abbrev isI:A->Int
 | .int i=>i
 | _=>0
abbrev W3:ae:=[.str<|PySem.Str.ofString "NoWord",.str<|PySem.Str.ofString "NoNumber",.str<|PySem.Str.ofString "NoPair",.str<|PySem.Str.ofString "TooMany",.str<|PySem.Str.ofString "NoTables",.str<|PySem.Str.ofString "NoText",.str<|PySem.Str.ofString "NoRow",.str<|PySem.Str.ofString "NoName"]
abbrev nmd:ae:=[.bl false,.bl false,.bl false,.bl true,.bl false,.bl false,.bl false,.bl false]
def K8:∃S',mS [.exn "TooMany"] S=.ok (.str<|PySem.Str.ofString "TooMany") S'/\nK S S':=by
 obtain⟨S1,j⟩:∃S1,S1=S++[O.lst [.bl false,.bl false,.bl false,.bl true]]:=⟨_,rfl⟩;have n1:newL [A.bl false,.bl false,.bl false,.bl true] S=.ok (.ref S.length) S1:=by rw[j];exact pX (show 4<=16777216 by decide)
 have k1:nK S S1:=by rw[j];exact Kp.refl.lay
 have Y:j4 S1 S.length=some [.bl false,.bl false,.bl false,.bl true]:=by rw[j];exact ku
 obtain⟨S2,d⟩:∃S2,S2=S1++[O.lst [.bl false,.bl false,.bl false,.bl false]]:=⟨_,rfl⟩;have L:newL [A.bl false,.bl false,.bl false,.bl false] S1=.ok (.ref S1.length) S2:=by rw[d];exact pX (show 4<=16777216 by decide)
 have k2:nK S1 S2:=by rw[d];exact Kp.refl.lay
 have V:j4 S2 S1.length=some [.bl false,.bl false,.bl false,.bl false]:=by rw[d];exact ku
 obtain⟨S3,k,k3,N⟩:=Vr S2 nmd;have a3:oH (.ref S.length) (.ref S1.length) S2=.ok (.ref S2.length) S3:=by rw[k];exact XC (k2.lst _ _ (λz=>z) Y) V (show 4+4<=16777216 by decide)
 obtain⟨g,f⟩:∃g,g=S3++[O.lst W3]:=⟨_,rfl⟩;have K:newL W3 S3=.ok (.ref S3.length) g:=by rw[f];exact pX (show 8<=16777216 by decide)
 unfold W3 at K;have J:nK S3 g:=by rw[f];exact Kp.refl.lay
 have Z:j4 g S3.length=some W3:=by rw[f];exact ku
 have p:=J.lst _ _ (λz=>z) N;obtain⟨B,C,k5⟩:=Di (cap:=[some 2,some 1]) (t:=rL<|ko qk (jZ 2)<|jZ 0) (e:=ko qk (jZ 1)<|jZ 0) (τ:=[.exn "TooMany",.ref S2.length,.ref S3.length,.unb]) (S:=g) (S1:=g) (src:=rH<|eC<|.int 8) (s:=m_ 0 8) (xs:=(List.range 8).map λm:Nat=>A.int (m:Int)) (tV (by dsimp[kY,mT,ao])<|qK ⋯ ⋯) ⋯ (λ_=>False) (λT _ i hi=>by
   rw[aK,cF]at hi;show(if i<((8:Int)-0).toNat then some (A.int<|0+i)else none)=_;rw[aO (),aQ,cK hi,c_];rfl) (λ_ _=>rfl) (λx=>decide<|isI x=3) (λx=>W3.getD (isI x).toNat .non) (λx P T q=>by
   obtain⟨m,G,rfl⟩:=bC.mp P;have G:=cE.mp G;have M:=q.lst _ _ (λz=>z) p;have W:=q.lst _ _ (λz=>z) Z;have hn:rF nmd (m:Int)=some (.bl<|decide<|(m:Int)=3):=by
    have:m=0\/m=1\/m=2\/m=3\/m=4\/m=5\/m=6\/m=7:=()
    rcases this with rfl|rfl|rfl|rfl|rfl|rfl|rfl|rfl<;>rfl
   have hw:rF W3 (m:Int)=some (W3.getD m .non):=by
    have:m=0\/m=1\/m=2\/m=3\/m=4\/m=5\/m=6\/m=7:=()
    rcases this with rfl|rfl|rfl|rfl|rfl|rfl|rfl|rfl<;>rfl
   refine⟨T,?_,Kp.refl,λ_=>⟨T,?_,Kp.refl⟩⟩
   ·show rL (ko qk (jZ 2)<|jZ 0) [.int m,.ref S3.length,.ref S2.length] T=_;dsimp[kY,mT,ao,M,hn];rfl
   ·show ko qk (jZ 1) (jZ 0) [.int m,.ref S3.length,.ref S2.length] T=_;dsimp[kY,mT,ao,W,hw];rfl) ⋯
 have el:((((List.range 8).map λm:Nat=>A.int (m:Int)).filter λx=>decide<|isI x=3).map λx=>W3.getD (isI x).toNat .non)=[.str<|PySem.Str.ofString "TooMany"]:=rfl;rw[el]at C;have l6:j4 (B++[O.lst [A.str<|PySem.Str.ofString "TooMany"]]) B.length=some [.str<|PySem.Str.ofString "TooMany"]:=ku;refine⟨_,?_,(((((k1.trans k2).trans k3).trans J).trans k5).lay (o:=.lst [.str<|PySem.Str.ofString "TooMany"]))⟩;have U:((((0+1:Nat)):Int) == 1)=true:=rfl;unfold mS sO sG;dsimp[kY,mT,ao,lX,Nat.reduceAdd,Nat.reduceSub,ZZ,n1,L,a3,K,↓C,l6,zu,bH,cP,U,c7,show(((1:Nat):Int) == 1)=true from rfl]
def Py{a:ag}(h:6<a.length)(h2:a.length<=20):uC [lC a] S=.ex "TooMany" S:=by
 unfold uC Ad zL;dsimp[kY,mT,ao,lX,Nat.reduceAdd,Nat.reduceSub,aK,aX<|show(a.length:Int)>6 by lia,WD<|show a.length<18446744073709551616 by lia]
def ZY{a:ag}(h:5<a.length)(h2:a.length<=20):p7 [lC a] S=.ex "TooMany" S:=by
 have e:o8 [lC a] S=.ex "TooMany" S:=by
  unfold o8 uD uf;dsimp[kY,mT,ao,lX,Nat.reduceAdd,Nat.reduceSub,aK,aX<|show(a.length:Int)>5 by lia,WD<|show a.length<18446744073709551616 by lia]
 have k:pC [lC a] S=.ex "TooMany" S:=by
  unfold pC uI uw;dsimp[kY,mT,ao,lX,Nat.reduceAdd,Nat.reduceSub,e]
 unfold p7 wm vW;dsimp[kY,mT,ao,lX,Nat.reduceAdd,Nat.reduceSub,k]
def YC{n:Nat}{z:ag}(J:z.Perm<|Fw.rg n):Iv.inv z=0 ↔ z=Fw.rg n:=by
 constructor
 ·intro h;refine Fw.WV J λk d=>?_;have h2:=d.2.2;refine eY λq=>?_;have f:z.length=n:=by rw[J.length_eq,Wd.mY]
  have:=(Kl.NS J d.1 (by have:=d.2.1;lia)<|aX ()).iv
  lia
 ·intro h;rw[h];exact Fw.aau n
def aa2{n:Nat}{a:ag}(J:a.Perm<|Fw.rg n):(B0 (Iv.inv a)<|(Eu.inj n n).filter<|qd n a).head?=some 1:=by
 have l:=Rj (n:=n) (a:=a);have c:((Eu.inj n n).filter<|qd n a).countP (λz=>Iv.inv z == 0)=1:=by
  have e:((Eu.inj n n).filter<|qd n a).countP (λz=>Iv.inv z == 0)=((Eu.inj n n).filter<|qd n a).count (Fw.rg n):=by
   unfold List.count;refine jA λz d=>?_;have:=YC ((l.mm z).mp d).1;dsimp[jo];exact this
  rw[e,l.nd.count,aO<|(l.mm _).mpr ⟨.refl _,Qv J⟩]
 unfold B0;rw[List.head?_map,List.head?_range,aM (),dQ,c];rfl
meta abbrev TM:A:=.str<|PySem.Str.ofString "TooMany"
def TX{n:Nat}{a:ag}(J:a.Perm<|Fw.rg n)(h1:1<=n)(h2:n<=20):∃S',m5 [lC a] S=.ok (if n>6 then TM else .int 1) S'/\nK S S':=by
 have g:=mJ J;unfold m5 p6 p_;by_cases c:n>6
 ·obtain⟨S1,e1,k1⟩:=K8 (S:=S);rw[aO c];refine⟨S1,?_,k1⟩;dsimp[kY,mT,ao,lX,Nat.reduceAdd,Nat.reduceSub,Py (S:=S) (show 6<a.length by lia) (),Ky,List.replicate,e1]
 ·obtain⟨D,S1,e1,d,k1,_⟩:=Az (S:=S) J h1 ();rw[aM c];refine⟨S1,?_,k1⟩;obtain⟨t,f⟩:=List.head?_eq_some_iff.mp<|aa2 J;rw[f,bL]at d;dsimp[kY,mT,ao,lX,Nat.reduceAdd,Nat.reduceSub,e1,d,zu]
def Q6{n:Nat}{a:ag}(J:a.Perm<|Fw.rg n)(h:n=4\/6<=n)(h2:n<=20):∃S',mH [lC a] S=.ok (if n>5 then TM else .int 1) S'/\nK S S':=by
 have g:=mJ J;unfold mH pB o_;by_cases c:n>5
 ·obtain⟨S1,e1,k1⟩:=K8 (S:=S);rw[aO c];refine⟨S1,?_,k1⟩;dsimp[kY,mT,ao,lX,Nat.reduceAdd,Nat.reduceSub,ZY (S:=S) (show 5<a.length by lia) (),Ky,List.replicate,e1]
 ·have d:n=4:=()
  subst d;obtain⟨D,xs,S1,e1,f,k1⟩:=Hv (S:=S) J;rw[aM c];refine⟨S1,?_,k1⟩;dsimp[kY,mT,ao,lX,Nat.reduceAdd,Nat.reduceSub,e1,f,zu]
meta abbrev nls:ae:=[.int 6,.int 7,.int 8,.int 6,.int 20,.int 7,.int 12,.int 4]
def adK{d:Int}(h0:0<=d)(h1:d<8):∃n:Nat,rF nls d=some (.int n)/\(n=4\/6<=n)/\n<=20:=by
 have:d=0\/d=1\/d=2\/d=3\/d=4\/d=5\/d=6\/d=7:=()
 rcases this with rfl|rfl|rfl|rfl|rfl|rfl|rfl|rfl<;>exact⟨_,rfl,by decide,by decide⟩
def ZV:rF [.int 1,TM] (if b then 1 else 0)=some (if b=true then TM else .int 1):=by
 cases b<;>rfl
def Vc:Hh true (if b=true then TM else .int 1) (if b=true then TM else .int 1) S=.ok (.bl false) S:=by
 cases b
 ·rfl
 ·exact Zc (k:=true)<|by show some (PySem.Str.ofString "TooMany" == PySem.Str.ofString "TooMany")=_;rw[b9]
def Y4(ns:ag)(hl:ns.length<=63):∃S',CD [.frz<|ns.map .int] []=.ok (.bl true) S':=by
 unfold CD Ri Qg;dsimp[kY,mT,ao,lX,Nat.reduceAdd,Nat.reduceSub];obtain⟨M,hM,m1⟩:∃M:Int,(if (if (5:Int)<(ns.length:Int)then(5:Int)else(ns.length:Int))>2 then(if (5:Int)<(ns.length:Int)then(5:Int)else(ns.length:Int))else 2)=M/\M<=5:=⟨_,rfl,by split<;>split<;>lia⟩;refine zO (lo:=0) (hi:=M) (S1:=[]) (show Lw _ _=_ from tV (by dsimp[kY,mT,ao,aK,hM])<|qK () ())
  (λi τ T=>∃G J B,τ=[.frz<|ns.map .int,G,J,B])
  (λZ=>∃S',RS.end (RS.seq Z<|lY<|eC<|.bl true)=.ok (.bl true) S') ⟨_,_,_,rfl⟩ ?_ ?_
 ·rintro i τ T hi ⟨G,J,B,rfl⟩;left;obtain⟨c,Y⟩:=Uz (S:=T) (ns:=ns) (k:=0+(i:Int)) ();obtain⟨T1,e1,K,k1⟩:=V9 (S:=T) (c:=c) (k:=1+(0+(i:Int))) () ();have bl:T.length<T1.length:=by obtain⟨_,_,e,_⟩:=K;exact nY e
  have n1:newL nls T1=.ok (.ref T1.length) (T1++[O.lst nls]):=lG (show 8<=16777216 by decide);have L:nK T1 (T1++[O.lst nls]):=Kp.refl.lay;obtain⟨q,T2,e2,q0,W,P,k2⟩:=digit (m:=8) (K.kp L λz=>z) ⋯ ⋯;have g2:j4 T2 T1.length=some nls:=k2.lst _ _ (by show ¬T1.length=T.length;lia) ku;obtain⟨n,en,n0,g⟩:=adK q0 W;obtain⟨a,T3,e3,C,b3,k3⟩:=Tp (n:=(n:Int)) P () ();have V:=mJ C;obtain⟨T4,p,k4⟩:=TX (S:=T3) C () g;obtain⟨N,j,k5⟩:=Q6 (S:=T4++[O.lst [.int 1,TM]]) C n0 g;have n4:∀U:j5,newL [.int 1,TM] U=.ok (.ref U.length) (U++[O.lst [.int 1,TM]]):=λU=>lG (show 2<=16777216 by decide);have l4:∀U:j5,j4 (U++[O.lst [.int 1,TM]]) U.length=some [.int 1,TM]:=λU=>ku;have i6:(if n>6 then TM else A.int 1)=if decide ((n:Int)>6)=true then TM else .int 1:=by
   by_cases c:n>6
   ·rw[aO c,aO<|aX ()]
   ·rw[aM c,aM<|by simpa using (show(n:Int)<=6 by lia)]
  have i5:(if n>5 then TM else A.int 1)=if decide ((n:Int)>5)=true then TM else .int 1:=by
   by_cases c:n>5
   ·rw[aO c,aO<|aX ()]
   ·rw[aM c,aM<|by simpa using (show(n:Int)<=5 by lia)]
  rw[i6]at p;rw[i5]at j;refine⟨[.frz<|ns.map .int,.int<|0+(i:Int),.ref T.length,lC a],N++[O.lst [.int 1,TM]],?_,_,_,_,rfl⟩;unfold LS;generalize hb6:decide ((n:Int)>6)=b6 at p;generalize hb5:decide ((n:Int)>5)=b5 at j;have d:decide ((6:Int)<n)=b6:=hb6;have f:decide ((5:Int)<n)=b5:=hb5;dsimp[kY,mT,ao,Y,e1,n1,e2,g2,en,e3,p,aK,V,d,ZV,Vc,j,f]
 ·rintro τ T ⟨G,J,B,rfl⟩;exact⟨T,by dsimp[kY,mT,ao]⟩
end K54
namespace K54
open PySem L2 Am
def all_mk{l:PySem.W.OpenLaw}{w:ah}{K:au}{h:aq}{mg:Str->bd}{fa:ak}(X:K.In h)(G:h.Ns mainGlobals mg)(hfa:mg "law" = some (.ref fa))
  (a1:Df K "is_whole" xx)
  (a2:Df K "plain_order" sL)
  (a3:Df K "need_pair" vf)
  (a4:Df K "is_exchange" sQ)
  (a5:Df K "exchanged_places" o4)
  (a6:Df K "exchanged" vg)
  (a7:Df K "place_pairs" sV)
  (a8:Df K "wrong_pairs" sH)
  (a9:Df K "length" A2)
  (a10:Df K "falls" Dw)
  (a11:Df K "first_above_nought" nU)
  (a12:Df K "bar" NO)
  (a13:Df K "is_below" wV)
  (a14:Df K "need_bounds" tB)
  (a15:Df K "is_step" yJ)
  (a16:Df K "steps" EN)
  (a17:Df K "steps_above" sX)
  (a18:Df K "between" yN)
  (a19:Df K "as_polynomial" qI)
  (a20:Df K "plus" Ij)
  (a21:Df K "times" Dl)
  (a22:Df K "put_before" uy)
  (a23:Df K "as_sum" Be)
  (a24:Df K "need_like" vh)
  (a25:Df K "added" EC)
  (a26:Df K "scaled" AB)
  (a27:Df K "by_exchange" tR)
  (a28:Df K "need_few" xq)
  (a29:Df K "number_at_one" qH)
  (a30:Df K "kept_by_fall" rz)
  (a31:Df K "found_kept" qS)
  (a32:Df K "kept_sum" xh)
  (a33:Df K "count" D5)
  (a34:Df K "weighed" yH)
  (a35:Df K "_law_cell" xE)
  (a36:Df K "_law_bag" yY)
  (a37:Df K "_law_mixed" vA)
  (a38:Df K "_law_digit" vK)
  (a39:Df K "_law_order" uZ)
  (a40:Df K "_law_word_of" tM)
  (a41:Df K "_law_count_said" pZ)
  (a42:Df K "_law_weighed_said" oX)
  (a43:Df K "law" Oi)
  (aeo:PySem.W.nsIn K mainGlobals "isinstance" = some none)
  (aep:PySem.W.nsIn K mainGlobals "bool" = some none)
  (aeq:PySem.W.nsIn K mainGlobals "int" = some none)
  (aer:PySem.W.nsIn K mainGlobals "tuple" = some none)
  (aes:PySem.W.nsIn K mainGlobals "range" = some none)
  (aet:PySem.W.nsIn K mainGlobals "len" = some none)
  (aeu:PySem.W.nsIn K mainGlobals "list" = some none)
  (aev:PySem.W.nsIn K mainGlobals "max" = some none)
  (aew:PySem.W.nsIn K mainGlobals "min" = some none)
  (aex:PySem.W.nsIn K mainGlobals "any" = some none)
  (aey:PySem.W.nsIn K mainGlobals "sorted" = some none)
  (aez:PySem.W.nsIn K mainGlobals "dict" = some none)
  (aeA:PySem.W.nsIn K mainGlobals "abs" = some none)
  (aeB:PySem.W.nsIn K mainGlobals "ValueError" = some none)
  {aei:Tok} (aeC:PySem.W.nsIn K mainGlobals "MOST_CLIMBED_PAIRS" = some (some<|.int 4 aei))
  {aej:Tok} (aeD:PySem.W.nsIn K mainGlobals "MOST_CLIMBED_THINGS" = some (some<|.int 9 aej))
  {aek:Tok} (aeE:PySem.W.nsIn K mainGlobals "MOST_THINGS_chains" = some (some<|.int 6 aek))
  {ael:Tok} (aeF:PySem.W.nsIn K mainGlobals "MOST_THINGS_kept" = some (some<|.int 5 ael))
  {aem:Tok} (aeG:PySem.W.nsIn K mainGlobals "MOST_THINGS_counts" = some (some<|.int 6 aem))
  {lM:ak} (aeH:PySem.W.nsIn K mainGlobals "AT_A_FALL" = some (some<|.ref lM)) (lP:klP K lM=some [((-1:Int),(1:Int)),((1:Int),(-1:Int))])
  {U az aD av ck er g7 eu ef:ak} (u0:PySem.W.nsIn K mainGlobals "UnderError" = some (some<|.ref U)) (u1:L2.mroIn K U=some VE)
  (aaG:ExcK K U "NoPair" az)
  (aaJ:ExcK K U "NoWord" aD)
  (aan:ExcK K U "TooMany" av)
  (n_NoNumber:PySem.W.nsIn K mainGlobals "NoNumber" = some (some<|.ref ck))
  (n_NoName:PySem.W.nsIn K mainGlobals "NoName" = some (some<|.ref er))
  (n_NoRow:PySem.W.nsIn K mainGlobals "NoRow" = some (some<|.ref g7))
  (n_NoText:PySem.W.nsIn K mainGlobals "NoText" = some (some<|.ref eu))
  (n_NoTables:PySem.W.nsIn K mainGlobals "NoTables" = some (some<|.ref ef))
  (fy:kitOne K (.ref av) (.ref av)=some true)
  (gi:kitOne K (.ref aD) (.ref av)=some false)
  (gj:kitOne K (.ref az) (.ref av)=some false)
  (gm:kitOne K (.ref av) (.ref az)=some false)
  (g8:kitOne K (.ref aD) (.ref az)=some false)
  (g9:kitOne K (.ref az) (.ref az)=some true)
  (eH:kitOne K (.ref av) (.ref ck)=some false)
  (fD:kitOne K (.ref aD) (.ref ck)=some false)
  (fT:kitOne K (.ref az) (.ref ck)=some false)
  (gn:kitOne K (.ref av) (.ref aD)=some false)
  (ic:kitOne K (.ref aD) (.ref aD)=some true)
  (i8:kitOne K (.ref az) (.ref aD)=some false)
  (gx:kitOne K (.ref av) (.ref er)=some false)
  (j0:kitOne K (.ref aD) (.ref er)=some false)
  (kE:kitOne K (.ref az) (.ref er)=some false)
  (kT:kitOne K (.ref av) (.ref g7)=some false)
  (lz:kitOne K (.ref aD) (.ref g7)=some false)
  (lF:kitOne K (.ref az) (.ref g7)=some false)
  (gy:kitOne K (.ref av) (.ref eu)=some false)
  (k7:kitOne K (.ref aD) (.ref eu)=some false)
  (lu:kitOne K (.ref az) (.ref eu)=some false)
  (fk:kitOne K (.ref av) (.ref ef)=some false)
  (fU:kitOne K (.ref aD) (.ref ef)=some false)
  (gg:kitOne K (.ref az) (.ref ef)=some false)
  : ∃fd:FuncData,(∀(s:aC) (v:af),BindsTo s fd ⟨[v],[]⟩ [("_law_script",v)])/\∀base:aq,K.In base->base.Ns mainGlobals mg->FnOk l.prog w K mg base t8 25 fa fd ["_law_script"] (uN K 1 CD):=by
 obtain⟨f,fd,a,F⟩:=a43;have e:=hfa.symm.trans (cC X G a)
 cases e
 have adw:=cC X G aan.n;have adH:=cC X G aaG.n;have adL:=cC X G n_NoNumber;have adR:=cC X G aaJ.n;have adU:=cC X G n_NoName;have adW:=cC X G n_NoRow;have adY:=cC X G n_NoText;have ad0:=cC X G n_NoTables;have V:=b_ X G aeo;have acG:=b_ X G aep;have T:=b_ X G aeq;have L:=b_ X G aer;have k:=b_ X G aes;have d:=b_ X G aet;have M:=b_ X G aeu;have B:=b_ X G aev;have O:=b_ X G aew;have acM:=b_ X G aex;have m:=b_ X G aey;have P:=b_ X G aez;have adu:=b_ X G aeA;have ad_:=b_ X G aeB;have acP:∃t,mg "MOST_CLIMBED_PAIRS" = some (.int 4 t):=⟨aei,cC X G aeC⟩;have acQ:∃t,mg "MOST_CLIMBED_THINGS" = some (.int 9 t):=⟨aej,cC X G aeD⟩;have acR:∃t,mg "MOST_THINGS_chains" = some (.int 6 t):=⟨aek,cC X G aeE⟩;have acW:∃t,mg "MOST_THINGS_kept" = some (.int 5 t):=⟨ael,cC X G aeF⟩;have adh:∃t,mg "MOST_THINGS_counts" = some (.int 6 t):=⟨aem,cC X G aeG⟩;have j:∃a,mg "AT_A_FALL" = some (.ref a)/\klP K a=some [((-1:Int),(1:Int)),((1:Int),(-1:Int))]:=⟨lM,cC X G aeH,lP⟩;refine⟨fd,λs v=>(by obtain⟨_,_,_,_,_,_,_,_,_,rfl,_,_⟩:=F.ex;exact .of_eq rfl),λbase _ _=>?_⟩;have E:En l.prog w K mg base:=⟨h,X,G⟩;have acH:=a1.kA E (λF=>Gg F V acG T)<|CI λ_ _ _ _ _ _ _=>rfl;have adk:=a2.kA E (λF=>BE F L k)<|CI λ_ _ _ _ _ _ _=>rfl;have q:=a3.kX E (λF=>DM F aaG d)<|EV λ_ _ _ _ _ _ _ _=>rfl;have acI:=a4.kA E (λF=>Bv F acH)<|EV λ_ _ _ _ _ _ _ _=>rfl;have Y:=a5.kA E (λF=>wF F M L)<|us3 λ_ _ _ _ _ _ _ _ _=>rfl;have abF:=a6.kX E (λF=>DG F aaJ d acI Y)<|EV λ_ _ _ _ _ _ _ _=>rfl;have abk:=a7.kA E (λF=>Bp F k)<|CI λ_ _ _ _ _ _ _=>rfl;have acJ:=a8.kA E (λF=>Bw F d abk)<|CI λ_ _ _ _ _ _ _=>rfl;have N:=a9.kA E (λF=>MH F d acJ)<|CI λ_ _ _ _ _ _ _=>rfl;have C:=a10.kA E (λF=>SQ F k d)<|CI λ_ _ _ _ _ _ _=>rfl;have acK:=a11.kA E (λF=>uP F)<|CI λ_ _ _ _ _ _ _=>rfl;have acL:=a12.kX E (λF=>aal F d k B q acK)<|EV λ_ _ _ _ _ _ _ _=>rfl;have acd:=a13.kX E (λF=>GU F acL)<|EV λ_ _ _ _ _ _ _ _=>rfl;have acS:=a14.kX E (λF=>Bk F aan d N)<|us5 λ_ _ _ _ _ _ _ _ _ _ _=>rfl;have acN:=a15.kA E (λF=>IL F O B acM)<|us3 λ_ _ _ _ _ _ _ _ _=>rfl;have acO:=a16.kA E (λF=>Rk F m acN Y)<|EV λ_ _ _ _ _ _ _ _=>rfl;have acT:=a17.kA E (λF=>Ax F d acO abk)<|CI λ_ _ _ _ _ _ _=>rfl;have adi:=a18.kX E (λF=>HZ F m acP acQ acR q acS acd acT)<|EV λ_ _ _ _ _ _ _ _=>rfl;have Z:=a19.kA E (λF=>zb F m)<|CI λ_ _ _ _ _ _ _=>rfl;have acU:=a20.kA E (λF=>VG F P Z)<|EV λ_ _ _ _ _ _ _ _=>rfl;have abt:=a21.kA E (λF=>SK F Z)<|EV λ_ _ _ _ _ _ _ _=>rfl;have p:=a22.kA E (λF=>Cc F acU)<|us3 λ_ _ _ _ _ _ _ _ _=>rfl;have J:=a23.kA E (λF=>MP F m)<|CI λ_ _ _ _ _ _ _=>rfl;have acV:=a24.kX E (λF=>D4 F q)<|EV λ_ _ _ _ _ _ _ _=>rfl;have acq:=a25.kX E (λF=>PJ F acV p J)<|EV λ_ _ _ _ _ _ _ _=>rfl;have acE:=a26.kA E (λF=>Nt F p abt J)<|EV λ_ _ _ _ _ _ _ _=>rfl;have acX:=a27.kX E (λF=>A3 F M j p abF C abt J)<|EV λ_ _ _ _ _ _ _ _=>rfl;have ac1:=a28.kX E (λF=>Gm F aan d acW)<|CI λ_ _ _ _ _ _ _=>rfl;have acY:=a29.kA E (λF=>yx F P)<|CI λ_ _ _ _ _ _ _=>rfl;have g:∀{Fs:ae->j5->R A} {kr:Nat},yp l.prog w K mg base (5+2 * kr) "found_kept" mP Fs->yp l.prog w K mg base (5+2 * kr+1) "kept_by_fall" nZ (lI lQ<|lR Fs):=λG=>a30.kX E (λF=>zD F abF acq acE acX acY C G)<|us3 λ_ _ _ _ _ _ _ _ _=>rfl;have adb:=a31.rX E (λF hm hk hb=>vM F C g hm hk hb 8)<|EV λ_ _ _ _ _ _ _ _=>rfl;have adq:=a32.kX E (λF=>G_ F ac1 adb)<|CI λ_ _ _ _ _ _ _=>rfl;have aea:=a33.kX E (λF=>Ry F aan d adh N adi adk)<|CI λ_ _ _ _ _ _ _=>rfl;have aeb:=a34.kX E (λF=>IP F adq N)<|CI λ_ _ _ _ _ _ _=>rfl;have aed:=a35.kA E (λF=>GO F d)<|EV λ_ _ _ _ _ _ _ _=>rfl;have aec:=a36.kA E (λF=>Hl F adu)<|EV λ_ _ _ _ _ _ _ _=>rfl;have acF:=a37.kA E (λF=>ES F)<|CI λ_ _ _ _ _ _ _=>rfl;have abH:=a38.kA E (λF=>Dz F k acF)<|EV λ_ _ _ _ _ _ _ _=>rfl;have aee:=a39.kA E (λF=>Dj F M k d L abH)<|EV λ_ _ _ _ _ _ _ _=>rfl;have ab5:=a40.kH E (λF=>BG F aan aaJ aaG adw adH adL adR adU adW adY ad0 fy gi gj gm g8 g9 eH fD fT gn ic i8 gx j0 kE kT lz lF gy k7 lu fk fU gg V k ad_ d)<|CI λ_ _ _ _ _ _ _=>rfl;have aef:=a41.kA E (λF=>yf F u0 u1 aan aaJ aaG aea ab5)<|CI λ_ _ _ _ _ _ _=>rfl;have aeg:=a42.kA E (λF=>wI F u0 u1 aan aaJ aaG aeb ab5)<|CI λ_ _ _ _ _ _ _=>rfl;exact ZU F k B O d T aec aed aee abH aef aeg
def walk{l:PySem.W.OpenLaw}{q:aj}{Z:(Str->bd)->aq->Prop}{U:ah->aq->Prop}{d:DefRec}{K:Params->au}(hn:l.most=some 63)(J:d.params.defaults=[])
  (hY:∀(w:ah) (h:aq),U w h->(K w.params).In h)
  (F:∀(w:ah) (mg:Str->bd) (fa:ak) (h:aq),(K w.params).In h->h.Ns mainGlobals mg->mg d.name=some (.ref fa) ->
   ∃fd:FuncData,(∀(s:aC) (u:af),BindsTo s fd ⟨[u],[]⟩ [("_law_script",u)])/\∀base:aq,(K w.params).In base->base.Ns mainGlobals mg->FnOk l.prog w (K w.params) mg base t8 25 fa fd ["_law_script"] (uN (K w.params) 1 CD)) :
  PySem.W.WalkO q loose Z U l.row.toRowW d [] (λf vs=>PySem.call f vs):=
 L2.Wk (n:=63) (k:=25) (x := "_law_script") (CX:=λ_=>t8) (sp:=λw=>uN (K w.params) 1 CD) hn ⋯ J ⟨rfl,by decide,by decide,rfl⟩ hY F (λ_ H a ns g j hS=>MN j hS<|Y4 ns g) λ_ _ _ _ _ z=>z
end K54
open PySem PySem.W PyProof.Rows
namespace PySem.W.Fast
local macro_rules|`(command|universe $x*)=>do return Lean.mkNullNode (←x.mapM λx=>`(command|def $x:ident:=Nat))
universe tw11395192964088899778 tw7789851853855965617 tw9644825644811367225 tw13738253373401928784 tw4423908228512300749 tw9137450471359947829 tw15638340707410931153 tw5433546900248704330 tw8240217436652084005 tw3770696791634926330 tw1431240750342563586 tw5241033634518575339 tw15155424657162594080 tw424652777347872727 tw13102899059627696046 tw16537449385526470813 tw12152530368014842206 tw8828980608996278604 tw1520347830414914588 tw17047731946083364440 tw9136251359795231459 tw14733309409666562088 tw9016309951566154546 tw13076531362721635294 tw16379480809090634868 tw11538058700292319507 tw14324232392858142108 tw6047855618118573102 tw8406589948863643443 tw11182658681188288873
end PySem.W.Fast
set_option maxRecDepth 100000 in
set_option maxHeartbeats 0 in
theorem PySem.Challenge.cw_undercells_k54_counts_refused_holds : PySem.Challenge.rw_undercells_k54_counts_refused.Holds := by
 w_on;o_law;k_head;(case hw=>w_witness2)
 k_fill
 refine K54.walk (l:=PySem.Challenge.rw_undercells_k54_counts_refused) rfl rfl (fun w h Y=>PySem.W.kIn_of Y) ?F
 case F=>
  intro w mg fa h KX G hmg;refine' K54.all_mk KX G hmg ?_ ?_ ?_ ?_ ?_ ?_ ?_ ?_ ?_ ?_ ?_ ?_ ?_ ?_ ?_ ?_ ?_ ?_ ?_ ?_ ?_ ?_ ?_ ?_ ?_ ?_ ?_ ?_ ?_ ?_ ?_ ?_ ?_ ?_ ?_ ?_ ?_ ?_ ?_ ?_ ?_ ?_ ?_ ?_ ?_ ?_ ?_ ?_ ?_ ?_ ?_ ?_ ?_ ?_ ?_ ?_ ?_ ?_ ?_ ?_ ?_ ?_ ?_ ?_ ?_ ?_ ⟨(show nsIn _ _ _=_ from ?_),?_,?_,⟨?_,?_,?_,?_,?_⟩,?_,?_⟩ ⟨(show nsIn _ _ _=_ from ?_),?_,?_,⟨?_,?_,?_,?_,?_⟩,?_,?_⟩ ⟨(show nsIn _ _ _=_ from ?_),?_,?_,⟨?_,?_,?_,?_,?_⟩,?_,?_⟩ ?_ ?_ ?_ ?_ ?_ ?_ ?_ ?_ ?_ ?_ ?_ ?_ ?_ ?_ ?_ ?_ ?_ ?_ ?_ ?_ ?_ ?_ ?_ ?_ ?_ ?_ ?_ ?_ ?_
  any_goals first|refine' .of ?_ ?_ ?_ ?_|skip
  any_goals first|k_is|kernel_rfl
