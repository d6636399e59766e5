import PyProof.Rows.All
import Wide.All
import OpenK.AllK
import Wide.FinOn
import Lean
import PyProof.EqAt
import PyProof.EqKinds
import PyProof.TupleCall
import PySem.Challenge.RW_undercells_k67_left_hearths
set_option autoImplicit true
set_option relaxedAutoImplicit true
set_option Elab.async false
set_option linter.all false
set_option maxRecDepth 100000
set_option compiler.extract_closed false
set_option maxHeartbeats 4000000
local macro_rules|`($a<|>$b)=>`(autoParam $a $b)
local macro_rules|`(command|abbrev $n:declId $s:optDeclSig $v:declVal)=>`(command|noncomputable def $n:declId $s:optDeclSig $v:declVal)|`(command|meta abbrev $n:declId $s:optDeclSig $v:declVal)=>`(command|@[reducible]noncomputable def $n:declId $s:optDeclSig $v:declVal)
local macro_rules|`(∅)=>`(by decide +kernel)
local macro_rules|`(⋯)=>`(by decide)
local macro_rules|`(tactic|dsimp[$l,*])=>`(tactic|simp only[$l,*])|`(tactic|dsimp[$l,*]$o:location)=>`(tactic|simp only[$l,*]$o:location)
local macro_rules(kind:=Lean.Parser.Term.structInst)|`({})=>`({cls:=.type "list",data:=.seq ([]:List PySem.Value).toArray})
set_option hygiene false
local macro_rules|`(tactic|z_go)=>`(tactic|obtain⟨ρ,S,τ,R,r,h⟩:=h9)
local macro_rules|`(tactic|x_go)=>`(tactic|obtain⟨ρ,S,a,b,R,va,vb,h⟩:=h9)
local macro_rules|`(tactic|w_up)=>`(tactic|refine⟨ρ,S,τ,R,r,jX (j5 h) .refl λo S1 h1 ρ1 H1 x e1 R1 v1=>⟨ρ1,S1,τ,R1,r.ext e1,jX (j5 h1) e1 λi S2 h2 ρ2 H2 y e2 R2 v2=>?_⟩⟩)
local macro_rules|`(tactic|fin2)=>`(tactic|intro X hP hw hK hc i pins s σ H E I hf st hg)
local macro_rules|`(tactic|k_ne)=>`(tactic|refine⟨ρ2,S2,o,i,a,R2,v1.ext e2,v2,va.ext (e1.trans e2),jX (j5 h2) (e1.trans e2) λ_ S3 h3 ρ3 H3 e3 R3=>?_⟩)
local macro_rules|`(tactic|kt_k)=>`(tactic|intro pins s σ H xs us Q I r h)
local macro_rules|`(tactic|kd_p)=>`(tactic|obtain⟨w,rfl,ρ,S,x,R,hv,h⟩:=Lv h0)
local macro_rules|`(tactic|gn_on)=>`(tactic|intro pins s σ H Q I h)
local macro_rules|`(tactic|gp_on)=>`(tactic|refine⟨ρ,S,τ,R,r,jX (j5 h) .refl λx S1 h1 ρ1 H1 v e1 R1 v1=>?_⟩)
local macro_rules|`(tactic|kj_on)=>`(tactic|obtain⟨xs,hn,h⟩:=jY h)
local macro_rules|`(tactic|kcf_m)=>`(tactic|obtain⟨u,rfl,rx⟩:=vals1 r)
local macro_rules|`(tactic|kcj_m)=>`(tactic|exact Kp.refl.lay)
local macro_rules|`(tactic|kpc_g)=>`(tactic|exact h3 ρ3 H3 σ ((e1.trans e2).trans e3) R3 (r.ext ((e1.trans e2).trans e3)))
local macro_rules|`(tactic|kpf_c)=>`(tactic|intro pins s σ H x y v u Q I rx ry h)
local macro_rules|`(tactic|ksr_p)=>`(tactic|obtain⟨f0,f1,f2,f3,f4,f5⟩:=hf it (by simp))
local macro_rules|`(tactic|kst_p)=>`(tactic|exact⟨ρ2,S2,x,as,R2,v1.ext e2,v2,jX h2 (e1.trans e2) λ_ _ z=>z.ext (e1.trans e2)⟩)
local macro_rules|`(tactic|kln_w)=>`(tactic|refine⟨R.nd,by simp,λa ha b hb e=>?_⟩)
local macro_rules|`(tactic|kl_no)=>`(tactic|refine aG (m:=checkCount "sorted" 1 1 _) (aM ?_))
local macro_rules|`(tactic|mg_lt)=>`(tactic|have hfree:∀y∈scope.names,y.2=.free->∃c,X.env.cells.lookup y.1=some c:=λy hy e=>I.ok.has _ (S.fr y hy e))
local macro_rules|`(tactic|cb_eq)=>`(tactic|obtain⟨ρ,S,o,as,R,vo,va,h⟩:=h9)
local macro_rules|`(tactic|o_rec)=>`(tactic|obtain⟨kvs,hn,h⟩:=jY h)
local macro_rules|`(tactic|f_are)=>`(tactic|obtain⟨ρ,S,τ,R,r,h⟩:=h)
set_option hygiene true
local macro_rules|`(())=>`(by lia)
@[reducible]def ag:=List Int
@[reducible]def am:=List Nat
@[reducible]def ar:=List PySem.Str
@[reducible]def ba:=List PySem.Value
@[reducible]def bb:=List PySem.Addr
@[reducible]def bd:=Option PySem.Value
@[reducible]def bi:=Option Bool
@[reducible]def bj:=Option Nat
@[reducible]def bn:=List<|PySem.Addr×PySem.Obj
def aG:=@PySem.wpAny_bind
def aH:=@List.length_map
def aI:=@List.getElem?_eq_getElem
def aJ:=@List.getElem?_eq_some_iff
def aK:=@List.getD_eq_getElem?_getD
def aL:=@List.mem_cons_self
def aM:=@PySem.wpAny_pure
def aN:=@Nat.le_refl
def aO:=@List.mem_cons_of_mem
def aP:=@Option.map_eq_some_iff
def aQ:=@PySem.Heap.get?_push_of_some
def aR:=@List.getElem?_map
def aS:=@List.mem_singleton
def aV:=@if_neg
def aW:=@if_pos
def aX:=@List.size_toArray
def aY:=@List.map_map
def aZ:=@List.mem_of_getElem?
def a_:=@PySem.Heap.lt_size
def bf:=@decide_eq_true
def bg:=@Option.some.inj
def bh:=@List.length_append
def bq:=@List.mem_map
def br:=@PySem.Heap.get?_push_size
def bu:=@List.getElem?_append_left
def bw:=@Bool.false_ne_true
def bz:=@decide_eq_false
def bA:=@List.getElem?_set_self
def bB:=@List.length_cons
def bC:=@List.map_cons
def bD:=@Nat.ne_of_lt
def bE:=@List.map_append
def bF:=@Nat.zero_le
def bG:=@List.mem_cons
def bH:=@List.mem_append
def bI:=@Bool.false_eq_true
def bJ:=@List.getElem?_set_ne
def bK:=@Nat.le_trans
def bL:=@List.forall_mem_cons
def bM:=@List.mem_append_right
def bN:=@Option.bind_eq_some_iff
def bO:=@List.map_congr_left
def bP:=@PySem.PassesOwn.never
def bQ:=@Nat.lt_of_lt_of_le
def bR:=@List.length_range
def bT:=@List.nodup_cons
def bU:=@List.find?_cons
def bV:=@of_decide_eq_true
def bW:=@List.pairwise_cons
def bX:=@List.length_set
def bY:=@Bool.not_true
def bZ:=@List.pairwise_iff_getElem
def b7:=@List.take_add_one
def b8:=@PySem.W.mg_none_of
def b9:=@List.length_take
def b_:=@List.nodup_append
def cg:=@List.take_length
def cj:=@List.mem_filter
def cu:=@List.append_nil
def cy:=@List.mem_range
def cz:=@Nat.zero_add
def cA:=@List.mem_iff_getElem
def cB:=@PySem.wpAny_call_entry
def cC:=@PySem.wpAny_newObj_type
def cD:=@PyProof.Rows.wpS_bind
def cE:=@Array.getElem?_toList
def cF:=@List.mem_of_find?_eq_some
def cG:=@List.getElem_inj
def cH:=@if_false
def cI:=@List.pairwise_map
def cJ:=@PySem.F.slot_list_append
def cK:=@PySem.F.type_list_append
def cL:=@List.mem_map_of_mem
def cM:=@PySem.F.slot_dict_valueiterator_next
def cN:=@Option.bind_some
def cO:=@Ne.symm
def cP:=@PySem.wpAny_truthy_bool
def cQ:=@List.append_assoc
def cR:=@Int.toNat_natCast
def cT:=@Array.getElem?_eq_getElem
def cU:=@PySem.F.slot_dict_keyiterator_next
def cV:=@congrArg
def cW:=@PySem.W.kia_one
def cX:=@PySem.wpAny_loadPart'
def cY:=@PySem.wpAny_holding
def cZ:=@beq_self_eq_true
def c5:=@beq_eq_false_iff_ne
def c6:=@PySem.mem_of_lookup
def c7:=@PySem.F.slot_dict_get
def c8:=@List.length_filter_le
def c9:=@List.pairwise_singleton
def c_:=@PySem.Heap.size_push
def dc:=@List.nodup_nil
def dg:=@Bool.not_false
def dh:=@Option.getD_some
def di:=@List.getElem_mem
def dm:=@Int.zero_add
def dw:=@PySem.Calls.call_function_entry
def dz:=@List.replicate_succ
def dB:=@Option.isSome_map
def dD:=@List.getElem?_eq_none
def dF:=@Option.isSome_iff_exists
def dG:=@List.prefix_append
def dH:=@List.getElem_range
def dI:=@Nat.lt_succ_self
def dJ:=@PySem.wpAny_callSpecial?_slot
def dM:=@List.all_eq_true
def dN:=@PyProof.Rows.wpS_pure
def dO:=@List.prefix_refl
def dP:=@Nat.lt_succ_of_lt
def dQ:=@Array.getElem?_eq_none
def dR:=@List.ext_getElem?
def dS:=@Option.map_map
def dU:=@Bool.and_eq_true
def dW:=@List.getElem_map
def dX:=@Nat.le_of_lt
def dY:=@PySem.AutoSeq1.wpAny_loadPart'
def dZ:=@List.Perm.eq_of_pairwise
def d7:=@PySem.Around.under_plainId
def d8:=@PySem.wpAny_typeNameOfWhole_keyiter
def d9:=@PySem.wpAny_typeNameOfWhole_valiter
def d_:=@List.flatten_cons
def eg:=@List.foldl_append
def ez:=@List.length_nil
def eB:=@Nat.not_lt_zero
def eF:=@Array.length_toList
def eG:=@PySem.Heap.SameBut.update
def eK:=@List.getElem?_range
def eL:=@List.filter_eq_self
def eN:=@PyProof.Rows.callWith_type1
def eO:=@PySem.Calls.callWith_builtin
def eS:=@PySem.sizeLine_eq
def eT:=@List.lookup_cons
def eU:=@PySem.call_meets
def eV:=@PySem.F.slot_tuple_iterator_next
def eW:=@PySem.Obj.data_mapFields
def eX:=@PySem.tupleKind_room_in1
def eY:=@of_decide_eq_false
def eZ:=@List.Perm.refl
def e_:=@Nat.lt_of_le_of_lt
def fh:=@PySem.F.type_dict_get
def fj:=@PySem.wpAny_passesOwn
def fm:=@List.foldl_cons
def fq:=@if_true
def fu:=@PySem.wpAny_dictEntries
def fB:=@PySem.wpAny_typeNameOf_keyiter
def fC:=@List.idxOf_lt_length_iff
def fF:=@PySem.wpAny_forIn_list
def fG:=@List.length_eq_zero_iff
def fH:=@PySem.F.plainAttrs_dict
def fJ:=@List.find?_map
def fK:=@Nat.one_mul
def fL:=@PySem.wpAny_mono
def fM:=@PySem.W.cellsFrom_some
def fN:=@List.map_nil
def fO:=@Int.add_zero
def fP:=@List.find?_eq_none
def fQ:=@PySem.codeAny_builtin
def fR:=@PySem.wpAny_dictEpoch
def fS:=@Option.map_some
def fV:=@List.find?_some
def fW:=@Nat.lt_irrefl
def fX:=@PySem.wpAny_standAt
def fY:=@List.any_cons
def fZ:=@List.sum_cons
def f6:=@PySem.Heap.get?_update_self
def f7:=@List.getElem?_toArray
def f9:=@List.flatMap_cons
def f_:=@List.range_eq_range'
def gb:=@PySem.wpAny_setField
def gc:=@PySem.wpAny_rule
def gf:=@List.getElem_toArray
def gg:=@PySem.wpAny_fieldsOf
def gh:=@Array.getElem?_eq_none_iff
def gp:=@PySem.F.slot_list_lt
def gq:=@PySem.F.args_dict_valueiterator_next_1
def gr:=@List.take_zero
def gu:=@PySem.wpAny_isInstance
def gv:=@List.filter_cons
def gw:=@PySem.F.entry_dict_valueiterator_next
def gz:=@List.any_eq_true
def gA:=@List.mem_flatMap
def gB:=@decide_eq_decide
def gC:=@PySem.F.args_dict_keyiterator_next_1
def gD:=@PySem.W.kdu_collect
def gE:=@List.flatMap_append
def gF:=@PySem.F.args_tuple_add_2
def gG:=@Bool.false_or
def gH:=@PySem.F.entry_dict_keyiterator_next
def gI:=@PySem.F.slot_list_getattribute
def gJ:=@PySem.wpAny_specialOf
def gK:=@List.filter_map
def gM:=@PySem.wpAny_pyIter_tuple
def gP:=@Int.emod_lt_of_pos
def gQ:=@PySem.F.entry_tuple_add
def gR:=@PySem.F.args_dict_get_3
def gS:=@PySem.F.plainAttrs_list
def gT:=@List.findIdx?_eq_some_iff_getElem
def gU:=@PySem.wpAny_pyIter_list
def gW:=@PySem.F.slot_tuple_add
def gY:=@List.reverse_cons
def gZ:=@PySem.wpAny_typeOf
def g_:=@List.pairwise_lt_range
def h_:=@PySem.wpAny_seqItems
def ie:=@PySem.F.entry_dict_get
def ig:=@PySem.F.slot_tuple_hash
def ir:=@Array.toList_push
def iu:=@PyProof.Rows.wpS_forRange
def iy:=@PySem.Heap.get?_push_ne
def iz:=@PyProof.Rows.plain_sorted
def iA:=@PyProof.Rows.entry_sorted
def iB:=@PyProof.Rows.args_sorted1
def iC:=@decide_eq_true_eq
def iD:=@List.eraseIdxIfInBounds_toArray
def iE:=@List.eraseIdx_eq_take_drop_succ
def iF:=@PySem.Obj.isFreed_of_fields
def iG:=@PySem.isSubtype_tuple_tuple
def iH:=@PySem.wpAny_isOneOf_keyiter
def iI:=@PySem.wpAny_notOrdered_dict
def iJ:=@PySem.wpAny_isOneOf_valiter
def iK:=@List.take_append_drop
def iL:=@List.set_append_right
def iM:=@List.range'_succ
def iN:=@PySem.Heap.size_update
def iO:=@PySem.Paired.length
def iP:=@PySem.plainId_quiet
def iQ:=@PySem.wpAny_attempt
def iR:=@Int.add_assoc
def iS:=@List.mem_append_left
def iT:=@PySem.Calls.evalArgs_plain
def iU:=@List.getElem?_of_mem
def iV:=@PyProof.Rows.kind_sorted
def iW:=@PySem.F.slot_dict_values_iter
def iX:=@Bool.or_eq_false_iff
def iY:=@Nat.mul_le_mul_right
def iZ:=@PySem.wpAny_execs_nil
def i9:=@PySem.F.slot_tuple_eq
def i_:=@Int.emod_nonneg
def ja:=@List.filterMap_cons
def jb:=@Nat.succ_mul
def jc:=@PySem.wpAny_Call_Name_kw
def jd:=@List.getElem?_append_right
def je:=@PySem.SeqAt.EqAt.int_int
def jf:=@List.zip_cons_cons
def jh:=@Option.isSome_some
def ji:=@List.forIn_nil
def jj:=@PySem.wpAny_tupleItemsOf
def jk:=@Array.forIn_toList
def jl:=@List.perm_ext_iff_of_nodup
def jm:=@List.getElem_idxOf
def jn:=@PySem.wpAny_field
def jo:=@PySem.Obj.cls_mapFields
def jq:=@List.find?_isSome
def jt:=@List.map_id
def ju:=@List.isEmpty_cons
def jv:=@List.all_cons
def jw:=@PySem.wpAny_newList
def jx:=@PySem.W.mg_of
def jy:=@Nat.succ_le_succ
def jz:=@List.cons_append
def jA:=@List.flatMap_nil
def jB:=@List.countP_cons
def jC:=@List.isEmpty_nil
def jD:=@Nat.le_add_right
def jE:=@Nat.ne_of_gt
def jF:=@PySem.codeAny_mono
def jG:=@Nat.lt_trans
def jH:=@List.all_map
def jI:=@Int.mul_zero
def jJ:=@List.map_set
def jK:=@List.of_mem_zip
def jL:=@List.forIn_cons
def jM:=@List.map_const'
def jN:=@Array.size_zip
def jO:=@List.foldl_map
def jP:=@Nat.mul_le_mul
@[reducible]def af:=PySem.Value
@[reducible]def ah:=PySem.World
@[reducible]def aj:=PySem.Program
@[reducible]def ak:=PySem.Addr
@[reducible]def aq:=PySem.Heap
@[reducible]def au:=PySem.W.Frag
@[reducible]def aA:=PySem.Around
@[reducible]def aC:=PySem.Shared
@[reducible]def aE:=PySem.Expr
@[reducible]def aF:=PySem.Stmt
def anI{a b:Prop}(h:a)(k:b):a/\b:=⟨h,k⟩
open Array (size_map)
open List (any_map map_id')
open Nat (add_mul lt_or_ge mul_comm not_lt)
open Option (isSome_none)
namespace L2
open PySem PySem.Spec PyProof.Rows
meta abbrev Key:=Sum Int Str
abbrev Cs:Key->af->Bool
 | .inl k,v=>Value.isInt k v
 | .inr x,v=>Value.isStrOf x v
abbrev acK (w:ah):Key->Int
 | .inl k=>hashInt k
 | .inr x=>hashStr w x
def mK:∀{k:Key}{v:af},Cs k v=true->(∃i t,k=Sum.inl i/\v=Value.int i t)\/(∃x t,k=Sum.inr x/\v=Value.str x t)
 | .inl i,v,h=>by
  obtain⟨t,e⟩:=Value.isInt_shape (k:=i) (v:=v) h;exact .inl ⟨i,t,rfl,e⟩
 | .inr x,v,h=>by
  obtain⟨t,e⟩:=Value.isStrOf_shape (x:=x) (v:=v) h;exact .inr ⟨x,t,rfl,e⟩
def Mc(i:Int)(t:Tok):Cs (.inl i) (.int i t)=true:=by simp[Cs,Value.isInt]
def MC(x:Str)(t:Tok):Cs (.inr x) (.str x t)=true:=by simp[Cs,Value.isStrOf]
def Zt(a b:Int):decide ((Sum.inl a:Key)=Sum.inl b)=(a == b):=by
 by_cases e:a=b
 ·subst e;simp
 ·have h:¬(Sum.inl a:Key)=Sum.inl b:=λq=>e<|Sum.inl.inj q;rw[bz h];exact(c5.mpr e).symm
def Xp(a b:Str):decide ((Sum.inr a:Key)=Sum.inr b)=decide (a=b):=by
 by_cases e:a=b
 ·subst e;simp
 ·have h:¬(Sum.inr a:Key)=Sum.inr b:=λq=>e<|Sum.inr.inj q;rw[bz h,bz e]
def WS(a:Int)(b:Str):decide ((Sum.inl a:Key)=Sum.inr b)=false:=bz λq=>nomatch q
def Z2(a:Str)(b:Int):decide ((Sum.inr a:Key)=Sum.inl b)=false:=bz λq=>nomatch q
abbrev kZ (prog:aj)(w:ah):PySem.KeyKind prog w Key where
 is:=Cs
 hash:=acK w
 inj:=λv a b ha hb=>by
  rcases mK ha with⟨i,t,rfl,rfl⟩|⟨x,t,rfl,rfl⟩
  ·rcases mK hb with⟨j,u,rfl,e⟩|⟨y,u,rfl,e⟩
   ·injection e with e1 _;rw[e1]
   ·exact nomatch e
  ·rcases mK hb with⟨j,u,rfl,e⟩|⟨y,u,rfl,e⟩
   ·exact nomatch e
   ·injection e with e1 _;rw[e1]
 byValue:=λk v h=>by
  rcases mK h with⟨i,t,rfl,rfl⟩|⟨x,t,rfl,rfl⟩<;>rfl
 pyHash:=λhv h=>by
  rcases mK hv with⟨i,t,rfl,rfl⟩|⟨x,t,rfl,rfl⟩
  ·exact wpAny_pyHash_int h
  ·exact wpAny_pyHash_str h
 eqBool:=λd hv h=>by
  rcases mK d with⟨i,t,rfl,rfl⟩|⟨x,t,rfl,rfl⟩
  ·rcases mK hv with⟨j,u,rfl,rfl⟩|⟨y,u,rfl,rfl⟩
   ·rw[Zt]at h;exact wpAny_eqBool_int h
   ·rw[WS]at h;exact SeqAt.EqAt.int_str i t y u _ _ _ _ h
  ·rcases mK hv with⟨j,u,rfl,rfl⟩|⟨y,u,rfl,rfl⟩
   ·rw[Z2]at h;exact SeqAt.EqAt.str_int x t j u _ _ _ _ h
   ·rw[Xp]at h;exact wpAny_eqBool_str h
 «strs»:=λk x t v h=>by
  rcases mK h with⟨i,u,rfl,e⟩|⟨y,u,rfl,e⟩
  ·exact nomatch e
  ·injection e with e1 _
   subst e1
   cases v<;>rfl
def E2(prog:aj)(w:ah)(i:Int)(t:Tok):(kZ prog w).is (.inl i) (.int i t)=true:=Mc i t
def GD(prog:aj)(w:ah)(x:Str)(t:Tok):(kZ prog w).is (.inr x) (.str x t)=true:=MC x t
inductive V where
 | non|bl (b:Bool)|int (i:Int)|str (x:Str)|byt (b:Array UInt8)|flt (b:UInt64)|ref (a:ak)|ty (n:String)
 deriving DecidableEq
abbrev RelV:V->af->Prop
 | .non,u=>u=Value.none
 | .bl b,u=>u=Value.bool b
 | .int i,u=>∃t,u=Value.int i t
 | .str x,u=>∃t,u=Value.str x t
 | .byt b,u=>∃t,u=Value.bytes b t
 | .flt b,u=>∃t,u=Value.float b t
 | .ref a,u=>u=Value.ref a
 | .ty n,u=>u=Value.type n
meta abbrev Vals:List V->ba->Prop:=Paired RelV
def Vals.length{xs:List V}{us:ba}(r:Vals xs us):xs.length=us.length:=iO r
theorem Vals.get:∀{xs:List V}{us:ba}{i:Nat}{x:V},Vals xs us->xs[i]?=some x->∃u,us[i]?=some u/\RelV x u
 | _,_,_,_,.nil,e=>by simp at e
 | _,_,0,_,.cons r _,e=>by simp at e;subst e;exact⟨_,rfl,r⟩
 | _,_,i+1,x,.cons _ t,e=>by
  obtain⟨u,h1,h2⟩:=Vals.get (i:=i) (x:=x) t (by simpa using e);exact⟨u,by simpa using h1,h2⟩
theorem Vals.set{x:V}(r:RelV x u):∀{xs:List V}{us:ba}(i:Nat),Vals xs us->Vals (xs.set i x) (us.set i u)
 | _,_,_,.nil=>.nil
 | _,_,0,.cons _ t=>.cons r t
 | _,_,i+1,.cons q t=>.cons q<|Vals.set r i t
theorem Vals.append:∀{xs ys:List V}{us ws:ba},Vals xs us->Vals ys ws->Vals (xs++ys) (us++ws)
 | _,_,_,_,.nil,s=>s
 | _,_,_,_,.cons r t,s=>.cons r<|Vals.append t s
abbrev yV:Option V->bd->Prop
 | some v,some u=>RelV v u
 | none,none=>True
 | _,_=>False
abbrev KV {κ:Type}:List (κ×V)->List (κ×af)->Prop:=Paired λ(p:κ×V) (q:κ×af)=>p.1=q.1/\RelV p.2 q.2
abbrev kV:Key->V
 | .inl i=>.int i
 | .inr x=>.str x
inductive HO where
 | lst (xs:List V)
 | tup (xs:List V)
 | dK (kvs:List<|Key×V)|dT (kvs:List<|List Key×V)
 | set (S:Int->Bool) (n:Nat)
 | ins (C dx:ak) (fs:List<|Str×V)
 | own (x:ak)
 | xd (fs:List<|Str×V)
 | met (f x:ak)
 | rng (lo hi:Int)
 | frz (o:Obj) (u:HO)
 | tbl (ps:Array af)
 | ext (φ:aq->Prop)
meta abbrev Hp:=ak->Option HO
abbrev upd (H:Hp)(a:ak)(o:HO):Hp:=λb=>if b=a then some o else H b
def kK{H:Hp}{a:ak}:upd H a o a=some o:=by unfold upd;rw[aW rfl]
def jZ{H:Hp}{a:ak}(h:b≠a):upd H a o b=H b:=by unfold upd;rw[aV h]
def Iw{H:Hp}{a:ak}(h:H a=some o)(h':H b=some u)(d:o≠u):a≠b:=by
 intro e;subst e;rw[h]at h';exact d<|bg h'
def kg{H:Hp}{a:ak}(h:H a=some o)(h':H b=none):a≠b:=by
 intro e;subst e;rw[h]at h';cases h'
abbrev rR (h:aq)(a:ak)(items:Array af):Prop:=∃o,h.get? a=some o/\o.cls=.type "tuple" /\ o.dict=none/\∃n,o.data=.seq items n
def rR.tup{a:ak}:rR h a items->IsTup h a items:=λ⟨o,e,c,_,n,d⟩=>⟨o,e,c,n,d⟩
def rR.new(h:aq)(items:Array af):rR (h.push { cls:=.type "tuple",data:=.seq items }) h.objs.size items:=⟨_,br _ rfl,rfl,rfl,_,rfl⟩
def rR.lt{h:aq}{a:ak}(x:rR h a items):a<h.objs.size:=let⟨_,ho,_⟩:=x;a_ ho
section
variable (P:aj) (w:ah)
abbrev lE (H:Hp)(h:aq)(a:ak):HO->Prop
 | .lst xs=>xs.length<=sizeLine/\∃(d:ba) (n:Nat),Vals xs d/\h.get? a=some { cls:=.type "list",data:=.seq d.toArray n }
 | .tup xs=>xs.length<=sizeLine/\∃d:ba,Vals xs d/\rR h a d.toArray
 | .dK kvs=>kvs.length<=sizeLine/\(a == sysModules)=false/\∃k,KV kvs k/\h.DictOf (kZ P w) a k
 | .dT kvs=>kvs.length<=sizeLine/\(a == sysModules)=false/\∃xs:List<|List Key×ak×af,
   Paired (λ(p:List Key×V) (q:List Key×ak×af)=>p.1=q.1/\H q.2.1=some (.tup<|p.1.map kV)/\RelV p.2 q.2.2) kvs xs /\
   ∃o es ep,h.get? a=some o/\o.ExactDict/\o.data=.dict es ep/\es.toList=xs.map (entryOfKey<|tupleKind<|kZ P w)/\(xs.map (·.1)).Nodup
 | .set S n=>h.SetOf (intKind P w) a S n
 | .ins C dx fs=>H dx=some (.own a)/\fs.length<=1000/\dx≠a/\h.get? a=some (PySem.W.instObj C dx) /\
   ∃g,h.Ns1 dx g/\(∀f,yV (fs.lookup f)<|g f)/\PySem.Within g (fs.map (·.1))
 | .own _=>∃o,h.get? a=some o
 | .xd fs=>∃g,h.Ns1 a g/\∀f,yV (fs.lookup f) (g f)
 | .rng lo B=>∃t u v,h.get? a=some { cls:=.type "range",data:=.fields #[.int lo t,.int B u,.int 1 v]}
 | .frz o u=>h.get? a=some o/\lE H h a u
 | .tbl ps=>h.get? a=some { cls:=.none,data:=.fields ps }
 | .met f x=>h.get? a=some (PySem.W.methodObj (.ref f)<|.ref x)
 | .ext j=>j h/\(∃o,h.get? a=some o)/\∀h1 h2:aq,j h1->(∀o,h1.get? a=some o->h2.get? a=some o)->j h2
abbrev xD (H:Hp)(h:aq):Prop:=∀a o,H a=some o->lE P w H h a o
end
section
variable {P:aj}{w:ah}{H H':Hp}{h h':aq}{a:ak}{o:HO}
def lE.lt(x:lE P w H h a o):a<h.objs.size:=by
 cases o with
 | lst xs=>obtain⟨_,_,_,_,e⟩:=x;exact a_ e
 | tup xs=>obtain⟨_,_,_,p⟩:=x;exact rR.lt p
 | dK kvs=>obtain⟨_,_,_,_,o,_,_,e,_⟩:=x;exact a_ e
 | dT kvs=>obtain⟨_,_,_,_,o,_,_,e,_⟩:=x;exact a_ e
 | set S n=>obtain⟨o,_,_,_,e,_⟩:=x;exact a_ e
 | ins C dx fs=>obtain⟨_,_,_,e,_⟩:=x;exact a_ e
 | own y=>obtain⟨_,e⟩:=x;exact a_ e
 | xd fs=>obtain⟨_,⟨_,_,_,e,_⟩,_⟩:=x;exact a_ e
 | rng lo d=>obtain⟨_,_,_,e⟩:=x;exact a_ e
 | frz ob u=>obtain⟨e,_⟩:=x;exact a_ e
 | tbl ps=>exact a_ (show h.get? a=some _ from x)
 | met f y=>exact a_ (show h.get? a=some _ from x)
 | ext g=>obtain⟨_,⟨_,e⟩,_⟩:=x;exact a_ e
theorem Paired.Xd{α β:Type}{F G:α->β->Prop}:∀{l₁:List α}{l₂:List β},Paired F l₁ l₂->(∀a b,F a b->G a b)->Paired G l₁ l₂
 | _,_,.nil,_=>.nil
 | _,_,.cons r t,f=>.cons (f _ _ r)<|Paired.Xd t f
def lE.stay(x:lE P w H h a o)(k:∀b u,(b=a\/H b=some (.own a))->h.get? b=some u->h'.get? b=some u)
  (ho:∀b,H b=some (.own a)->H' b=some (.own a)) (ht:∀b xs,H b=some (.tup xs)->H' b=some (.tup xs)):lE P w H' h' a o:=by
 induction o with
 | lst xs=>obtain⟨z,g,n,r,e⟩:=x;exact⟨z,g,n,r,k _ _ (.inl rfl) e⟩
 | tup xs=>obtain⟨z,g,r,ob,e,c⟩:=x;exact⟨z,g,r,ob,k _ _ (.inl rfl) e,c⟩
 | dK kvs=>obtain⟨z,y,F,r,ob,es,ep,e,c⟩:=x;exact⟨z,y,F,r,ob,es,ep,k _ _ (.inl rfl) e,c⟩
 | dT kvs=>
  obtain⟨z,y,xs,r,ob,es,ep,e,c⟩:=x;exact⟨z,y,xs,Paired.Xd r λp q z=>⟨z.1,ht _ _ z.2.1,z.2.2⟩,ob,es,ep,k _ _ (.inl rfl) e,c⟩
 | set S n=>obtain⟨ob,es,ep,t,e,c⟩:=x;exact⟨ob,es,ep,t,k _ _ (.inl rfl) e,c⟩
 | ins C dx fs=>
  obtain⟨d,z,ne,e,B,⟨j,es,ep,e2,c⟩,r⟩:=x;exact⟨ho _ d,z,ne,k _ _ (.inl rfl) e,B,⟨j,es,ep,k _ _ (.inr d) e2,c⟩,r⟩
 | own y=>obtain⟨ob,e⟩:=x;exact⟨ob,k _ _ (.inl rfl) e⟩
 | xd fs=>obtain⟨B,⟨j,es,ep,e,c⟩,r⟩:=x;exact⟨B,⟨j,es,ep,k _ _ (.inl rfl) e,c⟩,r⟩
 | rng lo G=>obtain⟨t,u,v,e⟩:=x;exact⟨t,u,v,k _ _ (.inl rfl) e⟩
 | frz ob u D=>obtain⟨e,q⟩:=x;exact⟨k _ _ (.inl rfl) e,D q⟩
 | tbl ps=>
  have e:h.get? a=some { cls:=.none,data:=.fields ps }:=x
  skip
  exact k a _ (.inl rfl) e
 | met f y=>
  have e:h.get? a=some (PySem.W.methodObj (.ref f)<|.ref y):=x
  skip
  exact k a _ (.inl rfl) e
 | ext J=>obtain⟨p,⟨o,e⟩,st⟩:=x;exact⟨st _ _ p λo q=>k _ _ (.inl rfl) q,⟨o,k _ _ (.inl rfl) e⟩,st⟩
def xD.lt(x:xD P w H h)(e:H a=some o):a<h.objs.size:=(x a o e).lt
def xD.fresh(x:xD P w H h)(e:h.objs.size<=a):H a=none:=by
 cases q:H a with
 | none=>rfl
 | some u=>exact absurd (bQ (x.lt q) e)<|fW _
def xD.kept(x:xD P w H h)(k:∀b u,h.get? b=some u->h'.get? b=some u):xD P w H h':=λa o e=>
 (x a o e).stay (λb u _ q=>k b u q) (λ_ q=>q) λ_ _ q=>q
def xD.laid(x:xD P w H h)(k:∀b u,h.get? b=some u->h'.get? b=some u)(hp:h.objs.size<=a)(new:lE P w (upd H a o) h' a o):xD P w (upd H a o) h':=λb u e=>by
 have hn:=x.fresh hp;by_cases hb:b=a
 ·subst hb;rw[kK]at e;cases e;exact new
 ·rw[jZ hb]at e;exact(x b u e).stay (λc v _ q=>k c v q) (λc q=>by rw[jZ<|kg q hn];exact q) λc xs q=>by rw[jZ<|kg q hn];exact q
end
abbrev Rd (H:Hp)(a:ak)(u:HO):Prop:=H a=some u\/∃o,H a=some (.frz o u)
def Rd.ok{P:aj}{w:ah}{H:Hp}{a:ak}(r:Rd H a u)(x:xD P w H h):lE P w H h a u:=by
 rcases r with r|⟨o,r⟩
 ·exact x a u r
 ·obtain⟨_,q⟩:=x a _ r;exact q
abbrev Mut:Option HO->Prop
 | some (.lst _)=>True
 | some (.dK _)=>True
 | some (.dT _)=>True
 | some (.set _ _)=>True
 | some (.ins _ _ _)=>True
 | some (.ext _)=>True
 | _=>False
section
variable {P:aj}{w:ah}{H:Hp}{h h':aq}{x e:ak}{o':HO}
def xD.write(ok:xD P w H h)(mu:Mut<|H x)(he:e=x\/H e=some (.own x))(k:∀b u,b≠e->h.get? b=some u->h'.get? b=some u)(heo:∃u,h'.get? e=some u)
  (new:lE P w (upd H x o') h' x o'):xD P w (upd H x o') h':=λb u q=>by
 have f:∀c y,H c=some (.own y)->c≠x:=λc y r z=>by subst z;rw[r]at mu;exact mu
 have g:∀c xs,H c=some (.tup xs)->c≠x:=λc xs r z=>by subst z;rw[r]at mu;exact mu
 by_cases hb:b=x
 ·subst hb;rw[kK]at q;cases q;exact new
 ·rw[jZ hb]at q;by_cases d:b=e
  ·have j:H b=some (.own x):=by
    rcases he with z|z
    ·exact absurd (d.trans z) hb
    ·rw[d];exact z
   rw[q]at j;cases j;obtain⟨v,hv⟩:=heo;exact⟨v,by rw[d];exact hv⟩
  ·refine(ok b u q).stay (λc v hc r=>k c v ?_ r) (λc r=>by rw[jZ<|f c b r];exact r) λc xs r=>by rw[jZ<|g c xs r];exact r
   rcases hc with rfl|hc
   ·exact d
   ·rintro rfl
    rcases he with z|z
    ·exact f c b hc z
    ·rw[hc]at z;cases z;exact hb rfl
end
structure Un (fs ex:bb)(H H':Hp)(h h':aq):Prop where
 keep:∀b o,h.get? b=some o->H b=none->b∉fs->b∉ex->h'.get? b=some o
 slot:∀b o,h.get? b=some o->H b=none->b∈fs->b∉ex->∃sl,h'.get? b=some { o with slots:=sl }
 free:∀b o,h.get? b=some o->H b=none->b∉ex->H' b=none
 there:∀b o,h.get? b=some o->b∉ex->∃o',h'.get? b=some o'
 tups:∀b xs,H b=some (.tup xs)->H' b=some (.tup xs)
 frzs:∀b o u,H b=some (.frz o u)->H' b=some (.frz o u)
 tbls:∀b ps,H b=some (.tbl ps)->∃more,H' b=some (.tbl<|ps++more)
section
variable {fs ex:bb}{H H1:Hp}{h h1 h':aq}{a x e:ak}{o:HO}
def Un.any(u:Un fs ex H H1 h h1){ob:Obj}(q:h.get? b=some ob)(n:H b=none)(hx:b∉ex):∃sl,h1.get? b=some { ob with slots:=sl }:=by
 by_cases hb:b∈fs
 ·exact u.slot b ob q n hb hx
 ·exact⟨ob.slots,u.keep b ob q n hb hx⟩
def Un.kept(k:∀b u,h.get? b=some u->h'.get? b=some u):Un fs ex H H h h':=
 ⟨λb ob q _ _ _=>k b ob q,λb ob q _ _ _=>⟨ob.slots,k b ob q⟩,λ_ _ _ n _=>n,λb ob q _=>⟨ob,k b ob q⟩,λ_ _ q=>q,λ_ _ _ q=>q,λ_ ps q=>⟨#[],by rw[q];simp⟩⟩
def Un.refl:Un fs ex H H h h:=Un.kept λ_ _ q=>q
def Un.laid(k:∀b u,h.get? b=some u->h'.get? b=some u)(hp:h.objs.size<=a)(hn:H a=none):Un fs ex H (upd H a o) h h' where
 keep:=λb u q _ _ _=>k b u q
 slot:=λb u q _ _ _=>⟨u.slots,k b u q⟩
 free:=λb u q n _=>by rw[jZ<|bD<|bQ (a_ q) hp];exact n
 there:=λb u q _=>⟨u,k b u q⟩
 tups:=λb xs q=>by rw[jZ<|kg q hn];exact q
 frzs:=λb u xs q=>by rw[jZ<|kg q hn];exact q
 tbls:=λb ps q=>⟨#[],by rw[jZ<|kg q hn,q];simp⟩
def Un.write(mu:Mut<|H x)(he:e=x\/H e=some (.own x))(k:∀b u,b≠e->h.get? b=some u->h'.get? b=some u)(heo:∃u,h'.get? e=some u):Un fs ex H (upd H x o) h h':=by
 have g:∀b,H b=none->b≠x:=λb n z=>by subst z;rw[n]at mu;exact mu
 have hb:∀b,H b=none->b≠e:=λb n z=>by
  subst z
  rcases he with r|r
  ·exact g b n r
  ·rw[n]at r;cases r
 have f:∀b u,H b=some u->¬Mut (some u)->b≠x:=λb u q j z=>by subst z;rw[q]at mu;exact j mu
 refine⟨λb u q n _ _=>k b u (hb b n) q,λb u q n _ _=>⟨u.slots,k b u (hb b n) q⟩,λb u q n _=>by rw[jZ<|g b n];exact n,λb u q _=>?_,
  λb xs q=>by rw[jZ<|f b _ q λz=>z];exact q,λb u xs q=>by rw[jZ<|f b _ q λz=>z];exact q,λb ps q=>⟨#[],by rw[jZ<|f b _ q λz=>z,q];simp⟩⟩
 by_cases d:b=e
 ·subst d;exact heo
 ·exact⟨u,k b u d q⟩
end
abbrev trk (h:aq)(H:Hp):bb:=(List.range h.objs.size).filter λa=>(H a).isSome
abbrev D4 (h:aq)(H:Hp):aq:=PySem.W.hideAll h<|trk h H
def LY(h:aq)(H:Hp):(D4 h H).objs.size=h.objs.size:=PySem.W.hideAll_size _ _
def Oi{h:aq}{H:Hp}(e:h.get? b=some o)(n:H b=none):(D4 h H).get? b=some o:=
 PySem.W.hideAll_get _ e λd=>by
  have q:(H b).isSome=true:=(cj.mp d).2;rw[n]at q;simp at q
def SV{h:aq}{H:Hp}(e:(D4 h H).get? b=some o):h.get? b=some o/\H b=none:=by
 have d:h.get? b=some o:=PySem.W.of_hideAll (trk h H) e;refine⟨d,?_⟩
 cases q:H b with
 | none=>rfl
 | some x=>
  have f:b∈trk h H:=cj.mpr ⟨cy.mpr<|a_ d,by simp[q]⟩;have z:(D4 h H).get? b=none:=PySem.W.hideAll_none (trk h H) f;rw[z]at e;cases e
abbrev UE (g h:aq)(L:ak):bn:=(List.range h.objs.size).filterMap λa=>if a=L\/(g.get? a).isSome=true then none else(h.get? a).map λo=>(a,o)
abbrev rest (g h:aq)(L d:ak):bn:=(UE g h L).filter λp=>decide<|p.1≠d
structure Mod (K:au)(mg:Str->bd)(base:aq):Prop where
 kin:K.In base
 glob:base.Ns mainGlobals mg
 blt:∃mb,base.Ns builtinsNs mb/\∀x:Str,x ≠ "__name__" -> mb x=bootBuiltins x
 nolimit:base.NoLimit
structure Cx where
 prog:aj
 w:ah
 K:au
 mg:Str->bd
 base:aq
 A:aA
 N:ar
 s₀:aC
 H₀:Hp
 env:Env
 outer:List Env
 stack:List Env
 ex:bb
 fn:Str->Bool
 calm:Bool
 pn:bn
 xe:af->aC->Prop
abbrev frs (l:List Env):bb:=l.filterMap (·.frame)
meta abbrev Cx.fs (X:Cx):bb:=frs X.outer
abbrev Vis (sc:Scope)(x:Str):Prop:=sc.names.lookup x=some .local\/sc.names.lookup x=some .cell\/sc.names.lookup x=some .free
abbrev Loc (sc:Scope)(x:Str):Prop:=sc.names.lookup x=some .local\/sc.names.lookup x=some .cell
abbrev Look (env:Env)(h:aq)(m:Str->bd)(x:Str)(u:af):Prop:=
 (env.kindOf x=some .local/\m x=some u)\/((env.kindOf x=some .cell\/env.kindOf x=some .free)/\∃c,env.cells.lookup x=some c/\h.IsCell c (some u))
structure Cx.Ok (X:Cx):Prop where
 mod:Mod X.K X.mg X.base
 kind:X.env.scope.kind=.function
 glob:X.env.globals=mainGlobals
 blt:X.env.builtins=builtinsNs
 above:X.s₀.heap.objs.size<=X.env.locals
 inj:∀x y c,X.env.cells.lookup x=some c->X.env.cells.lookup y=some c->x=y
 has:∀x,(X.env.kindOf x=some .cell\/X.env.kindOf x=some .free)->∃c,X.env.cells.lookup x=some c
 cab:∀x c,X.fn x=true->X.env.cells.lookup x=some c->X.s₀.heap.objs.size<=c
 hd:X.calm=true->X.A.handled=none
 frames:X.A.frames=some X.stack
 stk:X.stack=X.outer\/(X.stack=X.env::X.outer/\X.env.frame=some X.env.locals)
 exf:∀b∈X.ex,b≠X.env.locals/\∀x c,X.env.cells.lookup x=some c->c≠b
 bs:∀b o,X.base.get? b=some o->X.s₀.heap.get? b=some o/\X.H₀ b=none
 bsz:X.base.objs.size<=X.s₀.heap.objs.size
 noex:∀b o,X.base.get? b=some o->b∉X.ex
 exfs:∀b∈X.ex,b∉X.fs
 Ag:X.s₀.heap.FunFrames X.base X.outer
 frf:∀b∈X.fs,X.H₀ b=none
structure Inv (X:Cx)(pins:bn)(σ:List (Option V))(H:Hp)(s:aC):Prop where
 ok:X.Ok
 os:s.os=X.s₀.os
 bare:AllBare s.gens
 base:Un X.fs X.ex X.H₀ H X.s₀.heap s.heap
 loc:∃m,s.heap.Ns X.env.locals m/\∀(i:Nat) (x:Str) (v:V),X.N[i]?=some x->σ[i]?=some (some v)->Vis X.env.scope x->∃u,RelV v u/\Look X.env s.heap m x u
 cell:∀x c,X.env.cells.lookup x=some c->∃v,s.heap.IsCell c v
 free:H X.env.locals=none
 freeC:∀x c,X.env.cells.lookup x=some c->H c=none
 pin:∀p∈X.pn++pins,s.heap.get? p.1=some p.2/\H p.1=none/\p.1≠X.env.locals/\p.1∉X.fs/\∀v,p.2.data≠.cell v
 hok:xD X.prog X.w H s.heap
 len:σ.length=X.N.length
section
variable {X:Cx}{pins:bn}{σ:List (Option V)}{H H':Hp}{s:aC}{h':aq}
def Cx.Ok.acP(ok:X.Ok)(e:X.base.get? b=some o):b∉X.fs:=λhb=>by
 have:=(ok.Ag.mem hb).1;rw[e]at this;cases this
def Inv.bs(I:Inv X pins σ H s):∀b o,X.base.get? b=some o->s.heap.get? b=some o/\H b=none:=λb o e=>
 ⟨I.base.keep b o (I.ok.bs b o e).1 (I.ok.bs b o e).2 (I.ok.acP e)<|I.ok.noex b o e,I.base.free b o (I.ok.bs b o e).1 (I.ok.bs b o e).2<|I.ok.noex b o e⟩
def Inv.bk(I:Inv X pins σ H s):∀b o,X.base.get? b=some o->s.heap.get? b=some o:=λb o e=>(I.bs b o e).1
def Inv.mod(I:Inv X pins σ H s):Mod X.K X.mg X.base:=I.ok.mod
def Inv.DL(I:Inv X pins σ H s):X.K.In s.heap:=I.ok.mod.kin.keeps I.bk
def Inv.lt(I:Inv X pins σ H s):X.env.locals<s.heap.objs.size:=let⟨_,hn,_⟩:=I.loc;hn.lt
def Inv.sz(I:Inv X pins σ H s):X.s₀.heap.objs.size<=s.heap.objs.size:=bK I.ok.above<|dX I.lt
def Inv.adJ(I:Inv X pins σ H s){a:ak}(h:s.heap.objs.size<=a):a∉X.fs:=λhb=>by
 obtain⟨_,o,d,_⟩:=I.ok.Ag.mem hb;exact absurd (bQ (a_ d)<|bK I.sz h)<|fW _
def Inv.YE(I:Inv X pins σ H s):∀x c,X.env.cells.lookup x=some c->c≠X.env.locals:=λx c e z=>by
 obtain⟨v,o,j,g⟩:=I.cell x c e;obtain⟨m,⟨o',es,ep,f,d,_⟩,_⟩:=I.loc;rw[z,f]at j;cases j;rw[d]at g;cases g
def Inv.Ag(I:Inv X pins σ H s):s.heap.FunFrames X.base X.outer:=by
 have all:∀(l:List Env),(∀b∈frs l,b∈X.fs)->X.s₀.heap.FunFrames X.base l->s.heap.FunFrames X.base l:=by
  intro l
  induction l with
  | nil=>intro _ _;trivial
  | cons env r g=>
   intro hs j;obtain⟨f,⟨L,o,hf,hn,k,q⟩,p⟩:=j;have d:L∈X.fs:=hs L (by unfold frs;rw[ja,hf];exact aL);obtain⟨t,e⟩:=I.base.slot L o k (I.ok.frf L d) d λz=>I.ok.exfs L z d;exact⟨f,⟨L,_,hf,hn,e,q⟩,g (λb hb=>hs b<|by unfold frs;rw[ja,hf];exact aO _ hb) p⟩
 exact all X.outer (λ_ hb=>hb) I.ok.Ag
def Inv.stack(I:Inv X pins σ H s):s.heap.FunFrames X.base X.stack:=by
 rcases I.ok.stk with e|⟨e,hf⟩
 ·rw[e];exact I.Ag
 ·rw[e];obtain⟨m,hn,_⟩:=I.loc;refine .cons (by rw[I.ok.kind];decide) hf hn ?_ I.Ag;exact Heap.get?_none_of_le<|bK I.ok.bsz I.ok.above
def Inv.HY(I:Inv X pins σ H s):∀b∈frs X.stack,b∈X.env.locals::X.fs:=λb hb=>by
 rcases I.ok.stk with e|⟨e,hf⟩
 ·rw[e]at hb;exact aO _ hb
 ·rw[e]at hb;unfold frs at hb;rw[ja,hf]at hb;exact hb
def Inv.Ji(I:Inv X pins σ H s):∀b∈frs X.stack,H b=none:=λb hb=>by
 rcases bG.mp (I.HY b hb)with e|hb
 ·rw[e];exact I.free
 ·obtain⟨_,o,d,_⟩:=I.ok.Ag.mem hb;exact I.base.free b o d (I.ok.frf b hb) λz=>I.ok.exfs b z hb
def Inv.step{g':Array GenState}{t':Nat}{d':Drawn}{ch:bb}(I:Inv X pins σ H s)
  (hch:∀b∈ch,(b∈X.ex\/X.s₀.heap.objs.size<=b)/\b≠X.env.locals/\(∀x c,X.env.cells.lookup x=some c->c≠b)/\∀p∈X.pn++pins,p.1≠b)
  (keep:∀b o,b≠X.env.locals->b∉X.fs->b∉ch->s.heap.get? b=some o->H b=none->h'.get? b=some o)
  (slot:∀b o,b≠X.env.locals->b∈X.fs->b∉ch->s.heap.get? b=some o->H b=none->∃sl,h'.get? b=some { o with slots:=sl }) (free:∀b o,b∉ch->s.heap.get? b=some o->H b=none->H' b=none)
  (there:∀b o,b∉ch->s.heap.get? b=some o->∃o',h'.get? b=some o')
  (tups:∀b xs,H b=some (.tup xs)->H' b=some (.tup xs)) (frzs:∀b o u,H b=some (.frz o u)->H' b=some (.frz o u)) (tbls:∀b ps,H b=some (.tbl ps)->∃more,H' b=some (.tbl<|ps++more))
  (ns:∀m,s.heap.Ns X.env.locals m->h'.Ns X.env.locals m) (hok:xD X.prog X.w H' h') (hg:AllBare g') :
  Inv X pins σ H' { s with heap:=h',gens:=g',drawn:=d',toks:=t' }:=by
 have C:∀b o,X.s₀.heap.get? b=some o->b≠X.env.locals:=λb o e=>bD<|bQ (a_ e) I.ok.above;have t:∀b o,X.s₀.heap.get? b=some o->b∉X.ex->b∉ch:=λb o e f hb=>by
  rcases(hch b hb).1 with z|z
  ·exact f z
  ·exact absurd (bQ (a_ e) z)<|fW _
 have j:∀x c,X.env.cells.lookup x=some c->∀v,s.heap.IsCell c v->h'.IsCell c v:=λx c e v ⟨o,B,F⟩=>by
  have g:c∉ch:=λz=>(hch c z).2.2.1 x c e rfl;by_cases hc:c∈X.fs
  ·obtain⟨sl,q⟩:=slot c o (I.YE x c e) hc g B<|I.freeC x c e;exact⟨_,q,F⟩
  ·exact⟨o,keep c o (I.YE x c e) hc g B<|I.freeC x c e,F⟩
 refine⟨I.ok,I.os,hg,⟨λb o e n hb f=>?_,λb o e n hb f=>?_,λb o e n f=>?_,λb o e f=>?_,λb xs e=>tups b xs<|I.base.tups b xs e,λb o xs e=>frzs b o xs<|I.base.frzs b o xs e,λb ps e=>?_⟩,?_,λx c e=>?_,?_,λx c e=>?_,λp J=>?_,hok,I.len⟩
 ·exact keep b o (C b o e) hb (t b o e f) (I.base.keep b o e n hb f) (I.base.free b o e n f)
 ·obtain⟨sl,e1⟩:=I.base.slot b o e n hb f;obtain⟨D,e2⟩:=slot b _ (C b o e) hb (t b o e f) e1<|I.base.free b o e n f;exact⟨D,e2⟩
 ·obtain⟨o',e1⟩:=I.base.there b o e f;exact free b o' (t b o e f) e1 (I.base.free b o e n f)
 ·obtain⟨o',e1⟩:=I.base.there b o e f;exact there b o' (t b o e f) e1
 ·obtain⟨M,e1⟩:=I.base.tbls b ps e;obtain⟨K,e2⟩:=tbls b _ e1;exact⟨M++K,by rw[e2,Array.append_assoc]⟩
 ·obtain⟨m,hn,L⟩:=I.loc;refine⟨m,ns m hn,λi x v e1 e2 e3=>?_⟩;obtain⟨u,r,l⟩:=L i x v e1 e2 e3;refine⟨u,r,?_⟩
  rcases l with l|⟨k,c,e,z⟩
  ·exact .inl l
  ·exact .inr ⟨k,c,e,j x c e _ z⟩
 ·obtain⟨v,z⟩:=I.cell x c e;exact⟨v,j x c e v z⟩
 ·obtain⟨m,⟨o,_,_,B,_⟩,_⟩:=I.loc;exact free _ o (λz=>(hch _ z).2.1 rfl) B I.free
 ·obtain⟨v,o,B,F⟩:=I.cell x c e;exact free c o (λz=>(hch c z).2.2.1 x c e rfl) B (I.freeC x c e)
 ·obtain⟨e,n,ne,G,d⟩:=I.pin p J;have g:p.1∉ch:=λz=>(hch p.1 z).2.2.2 p J rfl;exact⟨keep p.1 p.2 ne G g e n,free p.1 p.2 g e n,ne,G,d⟩
def Inv.un{t':Nat}(I:Inv X pins σ H s)(u:Un X.fs [] H H' s.heap h')(hok:xD X.prog X.w H' h'):Inv X pins σ H' { s with heap:=h',toks:=t' }:=by
 obtain⟨m,⟨o,es,ep,j,r⟩,_⟩:=id I.loc;obtain⟨t,q⟩:=u.any j I.free (by simp);exact I.step (g':=s.gens) (d':=s.drawn) (ch:=[]) (nofun) (λb o _ hb _ e n=>u.keep b o e n hb<|by simp) (λb o _ hb _ e n=>u.slot b o e n hb<|by simp) (λb o _ e n=>u.free b o e n<|by simp) (λb o _ e=>u.there b o e<|by simp) u.tups u.frzs u.tbls (λB p=>by
  obtain⟨o',g,f,d,k⟩:=p;rw[j]at d;cases d;exact⟨_,g,f,q,k⟩) hok I.bare
def Inv.call{g':Array GenState}{t':Nat}{d':Drawn}{ch:bb}(I:Inv X pins σ H s)(u:Un (frs X.stack) ch H H' s.heap h')(hok:xD X.prog X.w H' h')(hg:AllBare g')
  (hch:∀b∈ch,(b∈X.ex\/X.s₀.heap.objs.size<=b)/\b≠X.env.locals/\(∀x c,X.env.cells.lookup x=some c->c≠b)/\∀p∈X.pn++pins,p.1≠b) :
  Inv X pins σ H' { s with heap:=h',gens:=g',drawn:=d',toks:=t' }:=by
 obtain⟨m,⟨o,es,ep,k,r⟩,_⟩:=id I.loc;obtain⟨B,g⟩:=u.any k I.free λz=>(hch _ z).2.1 rfl;exact I.step (ch:=ch) hch (λb o g hb hc e n=>u.keep b o e n (λz=>(bG.mp<|I.HY b z).elim g hb) hc) (λb o _ _ hc e n=>u.any e n hc) (λb o hc e n=>u.free b o e n hc) (λb o hc e=>u.there b o e hc) u.tups u.frzs u.tbls (λC t=>by
  obtain⟨o',j,f,d,q⟩:=t;rw[k]at d;cases d;exact⟨_,j,f,g,q⟩) hok hg
def Inv.turned{t':Nat}{it:ak}(I:Inv X pins σ H s)(k:∀b o,b≠it->s.heap.get? b=some o->h'.get? b=some o)(hn:H it=none)(hL:it≠X.env.locals)
  (h1:it∈X.ex\/X.s₀.heap.objs.size<=it) (h2:∀x c,X.env.cells.lookup x=some c->c≠it) (h3:∀p∈X.pn++pins,p.1≠it):Inv X pins σ H { s with heap:=h',toks:=t' }:=by
 have d:∀b u,H b=some u->b≠it:=λb u e z=>by rw[z,hn]at e;cases e
 refine I.step (g':=s.gens) (d':=s.drawn) (ch:=[it]) (λb hb=>?_) (λb o _ _ hc e _=>k b o (λz=>hc<|by simp[z]) e) (λb o _ _ hc e _=>⟨o.slots,k b o (λz=>hc<|by simp[z]) e⟩) (λ_ _ _ _ n=>n)
  (λb o hc e=>⟨o,k b o (λz=>hc<|by simp[z]) e⟩) (λ_ _ e=>e) (λ_ _ _ e=>e) (λb ps e=>⟨#[],by rw[e];simp⟩) (λm g=>?_) (λb u e=>?_) I.bare
 ·have e:b=it:=by simpa using hb
  subst e;exact⟨h1,hL,h2,h3⟩
 ·obtain⟨o,es,ep,f,r⟩:=g;exact⟨o,es,ep,k _ o (cO hL) f,r⟩
 ·refine(I.hok b u e).stay (λc v hc q=>k c v ?_ q) (λ_ q=>q) λ_ _ q=>q
  rcases hc with z|z
  ·rw[z];exact d b u e
  ·exact d c _ z
def Inv.tok(I:Inv X pins σ H s)(t:Nat):Inv X pins σ H { s with toks:=t }:=I.un (h':=s.heap) (t':=t) Un.refl I.hok
def Inv.kept{t':Nat}(I:Inv X pins σ H s)(k:∀b u,s.heap.get? b=some u->h'.get? b=some u):Inv X pins σ H { s with heap:=h',toks:=t' }:=I.un (Un.kept k)<|I.hok.kept k
def Inv.laid{a:ak}{t':Nat}(I:Inv X pins σ H s)(k:∀b u,s.heap.get? b=some u->h'.get? b=some u)(hp:s.heap.objs.size<=a)(new:lE X.prog X.w (upd H a o) h' a o) :
  Inv X pins σ (upd H a o) { s with heap:=h',toks:=t' }:=I.un (Un.laid k hp<|I.hok.fresh hp)<|I.hok.laid k hp new
def Inv.write{x e:ak}{t':Nat}(I:Inv X pins σ H s)(mu:Mut<|H x)(he:e=x\/H e=some (.own x))(k:∀b u,b≠e->s.heap.get? b=some u->h'.get? b=some u)(heo:∃u,h'.get? e=some u)
  (new:lE X.prog X.w (upd H x o) h' x o):Inv X pins σ (upd H x o) { s with heap:=h',toks:=t' }:=I.un (Un.write mu he k heo)<|I.hok.write mu he k heo new
def Inv.KO{pins':bn}(I:Inv X pins σ H s)(h:∀p∈pins',s.heap.get? p.1=some p.2/\H p.1=none/\p.1≠X.env.locals/\p.1∉X.fs/\∀v,p.2.data≠.cell v):Inv X pins' σ H s:=
 ⟨I.ok,I.os,I.bare,I.base,I.loc,I.cell,I.free,I.freeC,λp d=>(bH.mp d).elim (λz=>I.pin p<|iS _ z)<|h p,I.hok,I.len⟩
def Fg{N:ar}(hN:N.Nodup){i j:Nat}{x:Str}(a:N[i]?=some x)(b:N[j]?=some x):i=j:=by
 obtain⟨h1,e1⟩:=aJ.mp a;obtain⟨h2,e2⟩:=aJ.mp b;exact(cG hN).mp (e1.trans e2.symm)
def _root_.γ0(h:1=1:=by first|exact .inl rfl|exact .inr rfl|assumption):1=1:=h
def _root_.γ:Lean.Syntax:=γ0._auto_1
def _root_.δ0(h:1=1:=by decide):1=1:=h
def _root_.δ:Lean.Syntax:=δ0._auto_1
def _root_.ε0(h:1=1:=by rfl):1=1:=h
def _root_.ε:Lean.Syntax:=ε0._auto_1
def _root_.ζ0(h:1=1:=by intro _;rfl):1=1:=h
def _root_.ζ:Lean.Syntax:=ζ0._auto_1
def _root_.η0(h:1=1:=by with_unfolding_all rfl):1=1:=h
def _root_.η:Lean.Syntax:=η0._auto_1
def _root_.θ0(h:1=1:=by exact λ_ _=>rfl):1=1:=h
def _root_.θ:Lean.Syntax:=θ0._auto_1
def MN{A:aA}{E:af->aC->Prop}{i:Nat}{x:Str}{v:V}{Q:Unit->aC->Prop}(I:Inv X pins σ H s)(hN:X.N.Nodup)(hi:X.N[i]?=some x)(hx:Loc X.env.scope x)(r:RelV v u)
  (h:∀s',Inv X pins (σ.set i<|some v) H s'->(∃a,Heap.SameBut a s.heap s'.heap/\(a=X.env.locals\/X.env.cells.lookup x=some a))->Q Unit.unit s') (hf:X.fn x=true\/X.env.scope.names.lookup x=some .local<|>γ):wpAny M A (storeName X.env x u) Q E s:=by
 obtain⟨m,hn,hl⟩:=id I.loc;have K:(X.env.scope.kind == .class || (X.env.scope.kind == .module && X.env.locals != X.env.globals))=false:=by rw[I.ok.kind];rfl
 have t:i<σ.length:=by rw[I.len];exact(aJ.mp hi).1
 have YE:=I.YE;have f:∀{a:ak} {h':aq},(∃o,s.heap.get? a=some o/\H a=none)->Heap.SameBut a s.heap h'->xD X.prog X.w H h':=λ{a h'} ha hs b ob e=>by
  obtain⟨_,_,hfree⟩:=ha;refine(I.hok b ob e).stay (λc O hc q=>(hs.2 c ?_).trans q) (λ_ q=>q) λ_ _ q=>q;rintro rfl
  rcases hc with rfl|hc
  ·rw[hfree]at e;cases e
  ·rw[hfree]at hc;cases hc
 rcases hx with g|g
 ·refine wpAny_storeName_local g hn (λh' Y hs=>?_) K;obtain⟨oL,_,_,hoL,_⟩:=id hn;refine h _ ⟨I.ok,I.os,I.bare,⟨λb o e n hb hx=>?_,λb o e n hb hx=>?_,I.base.free,λb o e hx=>?_,I.base.tups,I.base.frzs,I.base.tbls⟩,⟨_,Y,λj y Z e1 e2 e3=>?_⟩,λy c e=>?_,I.free,I.freeC,λp T=>?_,f ⟨oL,hoL,I.free⟩ hs,by simpa using I.len⟩ ⟨_,hs,.inl rfl⟩
  ·exact(hs.2 b<|bD<|bQ (a_ e) I.ok.above).trans (I.base.keep b o e n hb hx)
  ·obtain⟨U,e1⟩:=I.base.slot b o e n hb hx;exact⟨U,(hs.2 b<|bD<|bQ (a_ e) I.ok.above).trans e1⟩
  ·obtain⟨o',e1⟩:=I.base.there b o e hx;exact⟨o',(hs.2 b<|bD<|bQ (a_ e) I.ok.above).trans e1⟩
  ·by_cases B:j=i
   ·subst B;rw[hi]at e1;cases e1;rw[bA t]at e2
    cases e2
    exact⟨u,r,.inl ⟨g,by simp⟩⟩
   ·rw[bJ<|cO B]at e2;obtain⟨u',W,q⟩:=hl j y Z e1 e2 e3;refine⟨u',W,?_⟩
    rcases q with⟨k,e⟩|⟨k,c,e,z⟩
    ·refine .inl ⟨k,?_⟩;have:y≠x:=λe=>B<|Fg hN e1<|e ▸ hi;simp[this,e]
    ·exact .inr ⟨k,c,e,z.sameBut hs<|YE y c e⟩
  ·obtain⟨O,z⟩:=I.cell y c e;exact⟨O,z.sameBut hs<|YE y c e⟩
  ·obtain⟨e,n,ne,P,d⟩:=I.pin p T;exact⟨(hs.2 p.1 ne).trans e,n,ne,P,d⟩
 ·have C:X.fn x=true:=by
   rcases hf with z|z
   ·exact z
   ·rw[z]at g;cases g
  obtain⟨c,hc⟩:=I.ok.has x<|.inl g;obtain⟨O,z⟩:=I.cell x c hc;refine wpAny_storeName_cell I.ok.kind g hc z λh' D hs=>?_;obtain⟨oc,G,F⟩:=id z;refine h { s with heap:=h' } ⟨I.ok,I.os,I.bare,⟨λb o e n hb hx=>?_,λb o e n hb hx=>?_,I.base.free,λb o e hx=>?_,I.base.tups,I.base.frzs,I.base.tbls⟩,⟨m,hn.sameBut hs<|cO<|YE x c hc,λj y Z e1 e2 e3=>?_⟩,λy L e=>?_,I.free,I.freeC,λp T=>?_,f ⟨oc,G,I.freeC x c hc⟩ hs,by simpa using I.len⟩ ⟨c,hs,.inr hc⟩
  ·exact(hs.2 b<|bD<|bQ (a_ e)<|I.ok.cab x c C hc).trans (I.base.keep b o e n hb hx)
  ·obtain⟨U,e1⟩:=I.base.slot b o e n hb hx;exact⟨U,(hs.2 b<|bD<|bQ (a_ e)<|I.ok.cab x c C hc).trans e1⟩
  ·obtain⟨o',e1⟩:=I.base.there b o e hx;exact⟨o',(hs.2 b<|bD<|bQ (a_ e)<|I.ok.cab x c C hc).trans e1⟩
  ·by_cases B:j=i
   ·subst B;rw[hi]at e1;cases e1;rw[bA t]at e2
    cases e2
    exact⟨u,r,.inr ⟨.inl g,c,hc,D⟩⟩
   ·rw[bJ<|cO B]at e2;obtain⟨u',W,q⟩:=hl j y Z e1 e2 e3;refine⟨u',W,?_⟩
    rcases q with q|⟨k,L,e,z'⟩
    ·exact .inl q
    ·refine .inr ⟨k,L,e,z'.sameBut hs ?_⟩;rintro rfl;exact B<|Fg hN e1<|I.ok.inj _ _ _ e hc ▸ hi
  ·by_cases J:L=c
   ·subst J;exact⟨_,D⟩
   ·obtain⟨w2,z2⟩:=I.cell y L e;exact⟨w2,z2.sameBut hs J⟩
  ·obtain⟨e,n,ne,P,d⟩:=I.pin p T;refine⟨(hs.2 p.1 ?_).trans e,n,ne,P,d⟩;intro q;rw[q,G]at e;have q':oc=p.2:=bg e;exact d O<|by rw[<- q'];exact F
def Bh{A:aA}{E:af->aC->Prop}{i:Nat}{x:Str}{v:V}{Q:Unit->aC->Prop}(I:Inv X pins σ H s)(hN:X.N.Nodup)(hi:X.N[i]?=some x)(hx:Loc X.env.scope x)(r:RelV v u)
  (h:∀s',Inv X pins (σ.set i<|some v) H s'->Q Unit.unit s') (hf:X.fn x=true\/X.env.scope.names.lookup x=some .local<|>γ):wpAny M A (storeName X.env x u) Q E s:=
 MN I hN hi hx r (λs' d _=>h s' d) hf
def Inv.Nt{s':aC}{ch:bb}(I:Inv X pins σ H s)(ho:s'.os=s.os)(u:Un (frs X.stack) ch H H' s.heap s'.heap)(hok:xD X.prog X.w H' s'.heap)(hg:AllBare s'.gens)
  (hch:∀b∈ch,(b∈X.ex\/X.s₀.heap.objs.size<=b)/\b≠X.env.locals/\(∀x c,X.env.cells.lookup x=some c->c≠b)/\∀p∈X.pn++pins,p.1≠b):Inv X pins σ H' s':=by
 obtain⟨h',g',d',t',o'⟩:=s';have e:o'=s.os:=ho;subst e;exact I.call (g':=g') (t':=t') (d':=d') u hok hg hch
end
meta abbrev XK:=af->Option ak->Hp->Prop
meta abbrev St:=List<|Option V
meta abbrev VK:=V->Hp->Prop
meta abbrev TE:=St->Hp->VK->Prop
meta abbrev TT:=St->Hp->(Bool->Hp->Prop)->Prop
meta abbrev TA:=St->Hp->(List V->Hp->Prop)->Prop
structure Ends where
 nx:St->Hp->Prop
 rt:VK
 bk:St->Hp->Prop:=λ_ _=>False
 ct:St->Hp->Prop:=λ_ _=>False
meta abbrev TS:=Ends->St->Hp->Prop
abbrev EP (X:Cx)(pins:bn)(σ:St)(Q:VK)(u:af)(s':aC):Prop:=∃v H',Inv X pins σ H' s'/\RelV v u/\Q v H'
abbrev TP (X:Cx)(pins:bn)(σ:St)(Q:Bool->Hp->Prop)(b:Bool)(s':aC):Prop:=∃H',Inv X pins σ H' s'/\Q b H'
abbrev AP (X:Cx)(pins:bn)(σ:St)(Q:List V->Hp->Prop)(us:ba)(s':aC):Prop:=∃d H',Inv X pins σ H' s'/\Vals d us/\Q d H'
abbrev SP (X:Cx)(pins:bn)(D:Ends)(f:Flow)(s':aC):Prop:=
 match f with
 | .next=>∃d H',Inv X pins d H' s'/\D.nx d H'
 | .brk=>∃d H',Inv X pins d H' s'/\D.bk d H'
 | .cont=>∃d H',Inv X pins d H' s'/\D.ct d H'
 | .ret u=>∃v d H',Inv X pins d H' s'/\RelV v u/\D.rt v H'
abbrev PE (X:Cx)(e:aE)(t:TE):Prop:=
 ∀(pins:bn) (s:aC) (σ:St) (H:Hp) (Q:VK),Inv X pins σ H s->t σ H Q->wpAny (model X.prog X.w) X.A (eval e X.env) (EP X pins σ Q) X.xe s
abbrev PT (X:Cx)(e:aE)(t:TT):Prop:=
 ∀(pins:bn) (s:aC) (σ:St) (H:Hp) (Q:Bool->Hp->Prop),Inv X pins σ H s->t σ H Q->wpAny (model X.prog X.w) X.A (isTrue e X.env<|eval e X.env) (TP X pins σ Q) X.xe s
abbrev PW (X:Cx)(e:aE)(t:TT):Prop:=
 ∀(d:Sem af) (pins:bn) (s:aC) (σ:St) (H:Hp) (Q:Bool->Hp->Prop),Inv X pins σ H s->t σ H Q->wpAny (model X.prog X.w) X.A (isTrue e X.env d) (TP X pins σ Q) X.xe s
abbrev PA (X:Cx)(es:List aE)(t:TA):Prop:=
 ∀(pos:Pos) (pins:bn) (s:aC) (σ:St) (H:Hp) (Q:List V->Hp->Prop),Inv X pins σ H s->t σ H Q->wpAny (model X.prog X.w) X.A (spliced<|backTo pos<|starEach es X.env) (AP X pins σ Q) X.xe s
abbrev PS (X:Cx)(st:aF)(t:TS):Prop:=
 ∀(pins:bn) (s:aC) (σ:St) (H:Hp) (D:Ends),Inv X pins σ H s->t D σ H->wpAny (model X.prog X.w) X.A (exec st X.env) (SP X pins D) X.xe s
abbrev CY (X:Cx)(st:List aF)(t:TS):Prop:=
 ∀(pins:bn) (s:aC) (σ:St) (H:Hp) (D:Ends),Inv X pins σ H s->t D σ H->wpAny (model X.prog X.w) X.A (execs st X.env) (SP X pins D) X.xe s
def nq{α:Type}{t:Sem α}{Q Q':α->aC->Prop}{A:aA}{E:af->aC->Prop}(h:wpAny M A t Q E s)(hQ:∀a s,Q a s->Q' a s):wpAny M A t Q' E s:=fL h hQ λ_ _ x=>x
section
variable {X:Cx}
abbrev abF (i:Nat):TE:=λσ H Q=>∃v,σ[i]?=some (some v)/\Q v H
abbrev tC (v:V):TE:=λ_ H Q=>Q v H
def QM{i:Nat}{x:Str}(hN:X.N[i]?=some x)(hv:Vis X.env.scope x)(hd:(x == ("__debug__" : Str))=false<|>δ)(hcd:(x == ("__classdict__" : Str))=false<|>δ):PE X (.Name x pos) (abF i):=by
 gn_on;obtain⟨v,e,h⟩:=h;obtain⟨m,hn,k⟩:=I.loc;obtain⟨u,r,l⟩:=k i x v hN e hv;have f:EP X pins σ Q u s:=⟨v,H,I,r,h⟩
 rcases l with⟨g,j⟩|⟨g,c,hc,d⟩
 ·exact wpAny_Name (wpAny_loadName_local I.ok.kind g hn j f) hd
 ·rcases g with g|g
  ·exact wpAny_Name (wpAny_loadName_cell I.ok.kind g hc d f) hd
  ·exact wpAny_Name (wpAny_loadName_free I.ok.kind g hc d f hcd) hd
def Z0{i j pos}:PE X (.Constant (.int i) j pos) (tC<|.int i):=λ_ _ _ H _ I h=>wpAny_Constant_int ⟨.int i,H,I.tok _,⟨_,rfl⟩,h⟩
def abm{b j pos}:PE X (.Constant (.bool b) j pos) (tC<|.bl b):=λ_ _ _ H _ I h=>Constant_bool ⟨.bl b,H,I,rfl,h⟩
def W2{j pos}:PE X (.Constant .none j pos) (tC .non):=λ_ _ _ H _ I h=>Constant_none ⟨.non,H,I,rfl,h⟩
abbrev Gl (X:Cx)(x:Str):Prop:=X.env.kindOf x=some .globalImplicit
def Kc{E:af->aC->Prop}{H:Hp}{x:Str}{Q:af->aC->Prop}(I:Inv X pins σ H s)(hg:Gl X x)(hm:X.mg x=some u)(h:Q u s)
  (hd:(x == ("__debug__" : Str))=false<|>δ):wpAny (model X.prog X.w) X.A (eval (.Name x pos) X.env) Q E s:=
 Calls.Name_function_global I.ok.kind hg (Calls.loadGlobal_global (by rw[I.ok.glob];exact I.mod.glob.keeps I.bk) hm h) hd
def yX{E:af->aC->Prop}{H:Hp}{x:Str}{Q:af->aC->Prop}(I:Inv X pins σ H s)(hg:Gl X x)(hm:X.mg x=none)(hv:bootBuiltins x=some u)(h:Q u s)
  (hn:x ≠ "__name__"<|>δ) (hd:(x == ("__debug__" : Str))=false<|>δ):wpAny (model X.prog X.w) X.A (eval (.Name x pos) X.env) Q E s:=by
 obtain⟨d,h1,h2⟩:=I.mod.blt;exact Calls.Name_function_global I.ok.kind hg (Calls.loadGlobal_builtin (by rw[I.ok.glob];exact I.mod.glob.keeps I.bk) hm (by rw[I.ok.blt];exact h1.keeps I.bk) ((h2 x hn).trans hv) h) hd
def Li{x:Str}{v:V}(hg:Gl X x)(hm:X.mg x=some u)(r:RelV v u)(hd:(x == ("__debug__" : Str))=false<|>δ):PE X (.Name x pos) (tC v):=
 λ_ _ _ H _ I h=>Kc I hg hm ⟨v,H,I,r,h⟩ hd
def Vx{x:Str}{v:V}(hg:Gl X x)(hm:X.mg x=none)(hv:bootBuiltins x=some u)(r:RelV v u)(hn:x ≠ "__name__"<|>δ)(hd:(x == ("__debug__" : Str))=false<|>δ):PE X (.Name x pos) (tC v):=
 λ_ _ _ H _ I h=>yX I hg hm hv ⟨v,H,I,r,h⟩ hn hd
variable {a b:aE}{ta tb:TE}{pos:Pos}
variable {tA tB':TT}{rest:List aE}
abbrev aaT (t u:TT):TT:=λσ H Q=>t σ H λc H1=>if c=true then u σ H1 Q else Q false H1
abbrev tOr (t u:TT):TT:=λσ H Q=>t σ H λc H1=>if c=true then Q true H1 else u σ H1 Q
abbrev acZ (t:TT):TT:=λσ H Q=>t σ H λc H1=>Q (!c) H1
def Vk(ha:PT X a tA):PW X (.BoolOp .And [a] pos) tA:=by
 intro f pins s σ H Q I h;refine isTrue_and (nq (ha pins s σ H Q I h) λc d e=>?_)
 cases c with
 | true=>exact isTrue_and_nil e
 | false=>exact e
def YX(ha:PT X a tA):PW X (.BoolOp .Or [a] pos) tA:=by
 intro f pins s σ H Q I h;refine isTrue_or (nq (ha pins s σ H Q I h) λc d e=>?_)
 cases c with
 | false=>exact isTrue_or_nil e
 | true=>exact e
def YL(ha:PT X a tA)(hb:PW X (.BoolOp .And (b::rest) pos) tB'):PW X (.BoolOp .And (a::b::rest) pos) (aaT tA tB'):=by
 intro j pins s σ H Q I h;refine isTrue_and (nq (ha pins s σ H _ I h) λc g ⟨H1,d,f⟩=>?_)
 cases c with
 | true=>exact hb j pins g σ H1 Q d f
 | false=>exact⟨H1,d,f⟩
def aaE(ha:PT X a tA)(hb:PW X (.BoolOp .Or (b::rest) pos) tB'):PW X (.BoolOp .Or (a::b::rest) pos) (tOr tA tB'):=by
 intro j pins s σ H Q I h;refine isTrue_or (nq (ha pins s σ H _ I h) λc g ⟨H1,d,f⟩=>?_)
 cases c with
 | true=>exact⟨H1,d,f⟩
 | false=>exact hb j pins g σ H1 Q d f
def Yy(ha:PT X a tA):PT X (.UnaryOp .Not a pos) (acZ tA):=by
 gn_on;exact isTrue_not<|ha pins s σ H (λc H1=>Q (!c) H1) I h
abbrev abe (ta tb:TE):TE:=λσ H Q=>ta σ H λx H1=>∃c,x=.bl c/\if c=true then tb σ H1 Q else Q (.bl false) H1
abbrev ab_ (ta:TE):TE:=λσ H Q=>ta σ H λx H1=>∃c,x=.bl c/\Q (.bl<|!c) H1
def Z5{op}{t:TE}(h:PE X a t):PE X (.BoolOp op [a] pos) t:=λpins s σ H Q I hw=>BoolOp_one<|h pins s σ H Q I hw
def Yg(ha:PE X a ta)(hb:PE X (.BoolOp .And (b::rest) pos) tb):PE X (.BoolOp .And (a::b::rest) pos) (abe ta tb):=by
 gn_on;refine BoolOp_and<|nq (ha pins s σ H _ I h) λv g ⟨x,H1,f,r1,d⟩=>?_;obtain⟨c,rfl,d⟩:=d
 cases r1
 refine cP ?_
 cases c with
 | true=>exact hb pins g σ H1 Q f d
 | false=>exact⟨.bl false,H1,f,rfl,d⟩
def XM(ha:PE X a ta):PE X (.UnaryOp .Not a pos) (ab_ ta):=by
 gn_on;refine UnaryOp_<|nq (ha pins s σ H _ I h) λv g ⟨x,H1,f,r1,d⟩=>?_;obtain⟨c,rfl,d⟩:=d
 cases r1
 exact not_of<|cP ⟨.bl<|!c,H1,f,rfl,d⟩
end
abbrev oS (K:au)(H:Hp)(a:ak)(xs:List V):Prop:=
 Rd H a (.lst xs) \/
  ∃(o:Obj) (d:Array af) (n:Nat),K.lookup a=some o/\o.cls=.type "list" /\ o.dict=none/\o.data=.seq d n/\d.size<=sizeLine/\Vals xs d.toList
abbrev nh (K:au)(H:Hp)(a:ak)(xs:List V):Prop:=
 Rd H a (.tup xs) \/
  ∃(o:Obj) (d:Array af) (n:Nat),K.lookup a=some o/\o.cls=.type "tuple" /\ o.dict=none/\o.data=.seq d n/\d.size<=sizeLine/\Vals xs d.toList
abbrev adp:af->Option V
 | .none=>some .non
 | .bool b=>some (.bl b)
 | .int i _=>some (.int i)
 | .str x _=>some (.str x)
 | .bytes b _=>some (.byt b)
 | .float b _=>some (.flt b)
 | .ref a=>some (.ref a)
 | .type n=>some (.ty n)
 | _=>none
def RelV.abs{x:V}(r:RelV x u):adp u=some x:=by
 cases x with
 | non=>cases r;rfl
 | bl _=>cases r;rfl
 | int _=>obtain⟨t,rfl⟩:=r;rfl
 | str _=>obtain⟨t,rfl⟩:=r;rfl
 | byt _=>obtain⟨t,rfl⟩:=r;rfl
 | flt _=>obtain⟨t,rfl⟩:=r;rfl
 | ref _=>cases r;rfl
 | ty _=>cases r;rfl
def RelV.inj{x:V}(r:RelV x u)(q:RelV y u):x=y:=bg<|r.abs.symm.trans q.abs
theorem Vals.inj:∀{xs ys:List V}{us:ba},Vals xs us->Vals ys us->xs=ys
 | _,_,_,.nil,.nil=>rfl
 | _,_,_,.cons r t,.cons d f=>by rw[r.inj d,Vals.inj t f]
section
variable {X:Cx}{pins:bn}{σ:St}{H:Hp}{s:aC}{a:ak}{xs ys:List V}
def oS.of{K:au}(h:H a=some (.lst xs)):oS K H a xs:=.inl<|.inl h
def nh.of{K:au}(h:H a=some (.tup xs)):nh K H a xs:=.inl<|.inl h
def Inv.list(I:Inv X pins σ H s)(h:oS X.K H a xs):∃its:ba,Vals xs its/\PlainL s.heap a its.toArray/\xs.length<=sizeLine:=by
 rcases h with h|⟨o,its,n,d,hc,f,hs,g,r⟩
 ·obtain⟨z,its,n,r,e⟩:=h.ok I.hok;exact⟨its,r,⟨_,n,e,rfl,rfl,rfl⟩,z⟩
 ·refine⟨its.toList,r,⟨o,n,I.DL a o d,hc,f,by simpa using hs⟩,?_⟩;have e:=r.length;dsimp[eF]at e
  lia
def Inv.tuple(I:Inv X pins σ H s)(h:nh X.K H a xs):∃its:ba,Vals xs its/\IsTup s.heap a its.toArray/\xs.length<=sizeLine:=by
 rcases h with h|⟨o,its,n,d,hc,_,hs,f,r⟩
 ·obtain⟨z,its,r,p⟩:=h.ok I.hok;exact⟨its,r,p.tup,z⟩
 ·refine⟨its.toList,r,⟨o,I.DL a o d,hc,n,by simpa using hs⟩,?_⟩;have e:=r.length;dsimp[eF]at e
  lia
def Inv.Yl(I:Inv X pins σ H s)(h:nh X.K H a xs):∃o,s.heap.get? a=some o/\o.cls=.type "tuple" /\ o.dict=none:=by
 rcases h with h|⟨o,f,n,g,hc,j,hs,k,r⟩
 ·obtain⟨z,f,r,o,e,c,d,_⟩:=h.ok I.hok;exact⟨o,e,c,d⟩
 ·exact⟨o,I.DL a o g,hc,j⟩
def Inv.Nr(I:Inv X pins σ H s)(h:oS X.K H a xs)(h':oS X.K H a ys):xs=ys:=by
 obtain⟨g,r,⟨o,n,e,_,_,d⟩,_⟩:=I.list h;obtain⟨f,p,⟨o',t,k,_,_,j⟩,_⟩:=I.list h';rw[e]at k;cases k;rw[d]at j
 injection j with q _
 have:g=f:=by simpa using cV Array.toList q
 subst this;exact r.inj p
def Inv.wk(I:Inv X pins σ H s)(h:nh X.K H a xs)(h':nh X.K H a ys):xs=ys:=by
 obtain⟨g,r,⟨o,e,_,n,d⟩,_⟩:=I.tuple h;obtain⟨f,p,⟨o',k,_,t,j⟩,_⟩:=I.tuple h';rw[e]at k;cases k;rw[d]at j
 injection j with q _
 have:g=f:=by simpa using cV Array.toList q
 subst this;exact r.inj p
end
meta abbrev Cx.BR (X:Cx)(E:af->aC->Prop):Cx:={ X with xe:=E }
meta abbrev Cx.nox (X:Cx):Cx:=X.BR λ_ _=>False
def Cx.Ok.BR{X:Cx}(ok:X.Ok)(E:af->aC->Prop):(X.BR E).Ok:=
 ⟨ok.mod,ok.kind,ok.glob,ok.blt,ok.above,ok.inj,ok.has,ok.cab,ok.hd,ok.frames,ok.stk,ok.exf,ok.bs,ok.bsz,ok.noex,ok.exfs,ok.Ag,ok.frf⟩
def Cx.Ok.vt{X:Cx}{E:af->aC->Prop}(ok:(X.BR E).Ok):X.Ok:=
 ⟨ok.mod,ok.kind,ok.glob,ok.blt,ok.above,ok.inj,ok.has,ok.cab,ok.hd,ok.frames,ok.stk,ok.exf,ok.bs,ok.bsz,ok.noex,ok.exfs,ok.Ag,ok.frf⟩
section
variable {X:Cx}{pins:bn}{σ:St}{H:Hp}{s:aC}{E:af->aC->Prop}
def Inv.BR(I:Inv X pins σ H s)(E:af->aC->Prop):Inv (X.BR E) pins σ H s:=⟨I.ok.BR E,I.os,I.bare,I.base,I.loc,I.cell,I.free,I.freeC,I.pin,I.hok,I.len⟩
def Inv.vt(I:Inv (X.BR E) pins σ H s):Inv X pins σ H s:=⟨I.ok.vt,I.os,I.bare,I.base,I.loc,I.cell,I.free,I.freeC,I.pin,I.hok,I.len⟩
def SP.vt{D:Ends}{f:Flow}(h:SP (X.BR E) pins D f s'):SP X pins D f s':=by
 cases f with
 | next=>obtain⟨d,H',I,q⟩:=h;exact⟨d,H',I.vt,q⟩
 | brk=>obtain⟨d,H',I,q⟩:=h;exact⟨d,H',I.vt,q⟩
 | cont=>obtain⟨d,H',I,q⟩:=h;exact⟨d,H',I.vt,q⟩
 | ret u=>obtain⟨v,d,H',I,r,q⟩:=h;exact⟨v,d,H',I.vt,r,q⟩
def CY.nox{st:List aF}{t:TS}(h:CY X.nox st t):CY X st t:=λpins s σ H D I hw=>
 fL (h pins s σ H D (I.BR _) hw) (λ_ _ q=>q.vt) λ_ _ z=>False.elim z
end
section
variable {X:Cx}{st:aF}{rest:List aF}{t u:TS}{e:aE}{te:TE}{pos:Pos}
abbrev abx:TS:=λD σ H=>D.nx σ H
abbrev aa2 (t u:TS):TS:=λD σ H=>t { D with nx:=u D } σ H
def Uz:CY X [] abx:=λ_ _ σ H _ I h=>iZ ⟨σ,H,I,h⟩
def Qj(h1:PS X st t)(h2:CY X rest u):CY X (st::rest) (aa2 t u):=by
 intro pins s σ H D I h;refine wpAny_execs_cons (nq (h1 pins s σ H { D with nx:=u D } I h) λf g q=>?_)
 cases f with
 | next=>
  obtain⟨d,H',j,q⟩:=q;exact h2 pins g d H' D j q
 | ret v=>exact q
 | brk=>exact q
 | cont=>exact q
def VB(h1:PS X st t):CY X [st] t:=by
 intro pins s σ H D I h;refine wpAny_execs_cons (nq (h1 pins s σ H D I h) λf d q=>?_)
 cases f with
 | next=>exact iZ q
 | ret v=>exact q
 | brk=>exact q
 | cont=>exact q
def Inv.quiet{H:Hp}(I:Inv X pins σ H s):interactive X.env=false:=by simp[interactive,I.ok.kind]
abbrev acf (te:TE):TS:=λD σ H=>te σ H λ_ H1=>D.nx σ H1
def TX(he:PE X e te)(hs:swapsWith e none pos.line X.env=pure false<|>ε):PS X (.Expr e pos) (acf te):=by
 intro pins s σ H D I h;exact wpAny_Expr_any (nq (he pins s σ H _ I h) λv g ⟨x,H1,d,r1,f⟩=>⟨σ,H1,d,f⟩) I.quiet hs
abbrev adh (te:TE):TS:=λD σ H=>te σ H D.rt
def YA(he:PE X e te):PS X (.Return (some e) pos) (adh te):=by
 intro pins s σ H D I h;exact wpAny_Return_some<|nq (he pins s σ H _ I h) λv g ⟨x,H1,d,r1,f⟩=>⟨x,σ,H1,d,r1,f⟩
abbrev adI (c:TT)(t u:TS):TS:=λD σ H=>c σ H λb H1=>if b=true then t D σ H1 else u D σ H1
def aar{c:aE}{a:List aF}{tc:TT}(hc:PT X c tc)(ha:CY X a t)(hb:CY X b u):PS X (.If c a b pos) (adI tc t u):=by
 intro pins s σ H D I h;refine wpAny_If (nq (hc pins s σ H _ I h) λd g ⟨H1,f,j⟩=>?_)
 cases d with
 | true=>exact ha pins g σ H1 D f j
 | false=>exact hb pins g σ H1 D f j
abbrev ZT:TS:=λ_ _ _=>False
def QK:PS X st ZT:=λ_ _ _ _ _ _ h=>h.elim
end
meta abbrev TG:=V->St->Hp->(St->Hp->Prop)->Prop
meta abbrev V9:=List V->St->Hp->(St->Hp->Prop)->Prop
abbrev PG (X:Cx)(target:aE)(t:TG):Prop:=
 ∀(pins:bn) (s:aC) (σ:St) (H:Hp) (v:V) (u:af) (Q:St->Hp->Prop),Inv X pins σ H s->RelV v u->t v σ H Q ->
  wpAny (model X.prog X.w) X.A (assign target X.env u) (λ_ s'=>∃d H',Inv X pins d H' s'/\Q d H') X.xe s
abbrev PGs (X:Cx)(ts:List aE)(t:V9):Prop:=
 ∀(pins:bn) (s:aC) (σ:St) (H:Hp) (f:List V) (us:ba) (Q:St->Hp->Prop),Inv X pins σ H s->Vals f us->t f σ H Q ->
  wpAny (model X.prog X.w) X.A (assignInOrder ((assignEach ts X.env).map (·.2)) us) (λ_ s'=>∃d H',Inv X pins d H' s'/\Q d H') X.xe s
meta abbrev EE:=V->V->V->Hp->(Hp->Prop)->Prop
abbrev C1 (X:Cx)(t:EE):Prop:=
 ∀(pins:bn) (s:aC) (σ:St) (H:Hp) (o i v:V) (d iv u:af) (Q:Hp->Prop),Inv X pins σ H s->RelV o d->RelV i iv->RelV v u->t o i v H Q ->
  wpAny (model X.prog X.w) X.A (setItem d iv u) (λ_ s'=>∃H',Inv X pins σ H' s'/\Q H') X.xe s
meta abbrev TIp:=V->V->Hp->VK->Prop
abbrev PIp (X:Cx)(op:Operator)(t:TIp):Prop:=
 ∀(pins:bn) (s:aC) (σ:St) (H:Hp) (x y:V) (v u:af) (Q:VK),Inv X pins σ H s->RelV x v->RelV y u->t x y H Q ->
  wpAny (model X.prog X.w) X.A (inplaceOp op v u) (EP X pins σ Q) X.xe s
section
variable {X:Cx}{pos:Pos}
abbrev PX (i:Nat):TG:=λv σ H Q=>Q (σ.set i<|some v) H
def JB{i:Nat}{x:Str}(hN:X.N.Nodup)(hi:X.N[i]?=some x)(hx:Loc X.env.scope x)(hf:X.fn x=true\/X.env.scope.names.lookup x=some .local<|>γ):PG X (.Name x pos) (PX i):=by
 intro pins s σ H v u Q I r h;exact wpAny_assign_Name<|Bh I hN hi hx r (λs' d=>⟨_,H,d,h⟩) hf
abbrev acD:V9:=λd σ H Q=>d=[]/\Q σ H
abbrev abH (t:TG)(u:V9):V9:=λf σ H Q=>∃v r,f=v::r/\t v σ H λd H'=>u r d H' Q
def Tq:PGs X [] acD:=by
 intro pins s σ H d us Q I r h;obtain⟨e,h⟩:=h;subst e
 cases r
 exact assignInOrder_nil ⟨σ,H,I,h⟩
def Rz{e:aE}{t:TG}{u:V9}(h1:PG X e t)(h2:PGs X es u)
  (hs:(assignEach (e::es) X.env).map (·.2)=assign e X.env::(assignEach es X.env).map (·.2)<|>ε):PGs X (e::es) (abH t u):=by
 intro pins s σ H p us Q I r h;obtain⟨v,q,e1,h⟩:=h;subst e1
 cases r with
 | cons r f=>
  rw[hs];refine assignInOrder_cons<|nq (h1 pins s σ H _ _ _ I r h) λ_ g ⟨d,H1,k,j⟩=>?_;exact h2 pins g d H1 _ _ Q k f j
abbrev ad0 (K:au)(n:Nat)(t:V9):TG:=λv σ H Q=>∃a xs,v=.ref a/\nh K H a xs/\xs.length=n/\t xs σ H Q
def Ym{k:Nat}{t:V9}{n:Nat}(hc:X.calm=true)(h:PGs X es t)
  (hn:(assignEach es X.env).length=n<|>ε) (hst:(assignEach es X.env).findIdx? (·.1)=none<|>ε):PG X (.Tuple es k pos) (ad0 X.K n t):=by
 intro pins s σ H v u Q I r hw;obtain⟨a,xs,e1,hq,g,hw⟩:=hw;subst e1
 cases r
 obtain⟨q,d,p,B⟩:=I.tuple hq;refine assign_Tuple_tuple (I.ok.hd hc) p (by simp[hn,<- g,d.length]) hst λh' f=>?_;have j:Inv X pins σ H { s with heap:=h' }:=I.kept (t':=s.toks) λb o e=>f b o (bD<|a_ e) e;exact h pins _ σ H xs _ Q j (by simpa using d) hw
abbrev adC (to ti:TE)(t:EE):TG:=λv σ H Q=>to σ H λo H1=>ti σ H1 λi H2=>t o i v H2 λH3=>Q σ H3
def A5{to ti:TE}{t:EE}(ho:PE X o to)(hi:PE X i ti)(hs:C1 X t)
  (ha:(∀v,assign (.Subscript o i pos) X.env v=(do
   let ov <- holding [v] (eval o X.env)
   let iv <- holding [v,ov] (eval i X.env)
   standAt pos
   holding [v,ov,iv] (setItem ov iv v)
   release [v,ov,iv] []))<|>ζ):PG X (.Subscript o i pos) (adC to ti t):=by
 intro pins s σ H v u Q I r h;rw[ha];refine aG<|cY<|nq (ho pins s σ H _ I h) λov j ⟨x,H1,q,r1,p⟩=>?_;refine aG<|cY<|nq (hi pins j σ H1 _ q p) λiv f ⟨y,H2,k,r2,g⟩=>?_;refine aG<|fX<|aG<|cY<|nq (hs pins f σ H2 x y v ov iv u _ k r1 r2 r g) λ_ C ⟨H3,d,B⟩=>?_;exact wpAny_release ⟨σ,H3,d,B⟩
abbrev Uk (te:TE)(g:TG):TS:=λD σ H=>te σ H λx H1=>g x σ H1 D.nx
def WV{tg e:aE}{te:TE}{g:TG}(he:PE X e te)(hg:PG X tg g)(hs:swapsWithSole [tg] e pos.line X.env=pure false<|>ε)(hw:swappedStores [tg] e X.env=pure none<|>ε)
  (h1:(assignEach [tg] X.env).map (·.2)=[assign tg X.env]<|>ε):PS X (.Assign [tg] e pos) (Uk te g):=by
 intro pins s σ H D I h;refine wpAny_Assign_stores (nq (he pins s σ H _ I h) λv f ⟨x,H1,d,r1,j⟩=>?_) hs hw;rw[h1];exact nq (hg pins f σ H1 x v _ d r1 j) λ_ k q=>q
def X9{i:Nat}{x:Str}{e:aE}{te:TE}(hN:X.N.Nodup)(hi:X.N[i]?=some x)(hx:Loc X.env.scope x)(he:PE X e te)(hs:(swapsWith e (some<|.Name x pos') pos.line X.env=pure false)<|>ε)(hf:X.fn x=true\/X.env.scope.names.lookup x=some .local<|>γ) :
  PS X (.Assign [.Name x pos'] e pos) (Uk te<|PX i):=by
 intro pins s σ H D I h;refine wpAny_Assign_Name (nq (he pins s σ H _ I h) λv k ⟨y,H1,d,r1,g⟩=>?_) hs;exact Bh d hN hi hx r1 (λj f=>⟨_,H1,f,g⟩) hf
abbrev ac2 (i:Nat)(te:TE)(ti:TIp):TS:=λD σ H=>∃x,σ[i]?=some (some x)/\te σ H λy H1=>ti x y H1 λz H2=>D.nx (σ.set i<|some z) H2
def XR{i:Nat}{x:Str}{e:aE}{te:TE}{ti:TIp}(hN:X.N.Nodup)(hi:X.N[i]?=some x)(hx:Loc X.env.scope x)(he:PE X e te)(ho:PIp X op ti)(hf:X.fn x=true\/X.env.scope.names.lookup x=some .local<|>γ) :
  PS X (.AugAssign (.Name x pos') op e pos) (ac2 i te ti):=by
 intro pins s σ H D I h;obtain⟨v,e1,h⟩:=h;obtain⟨m,hn,t⟩:=I.loc;have p:Vis X.env.scope x:=by rcases hx with k|k;exact .inl k;exact .inr (.inl k)
 obtain⟨u,r,l⟩:=t i x v hi e1 p;refine wpAny_AugAssign_Name ?_;have q:wpAny (model X.prog X.w) X.A (eval e X.env) (λw g=>wpAny (model X.prog X.w) X.A (inplaceOp op u w) (λr j=>wpAny (model X.prog X.w) X.A (storeName X.env x r) (λ_=>SP X pins D .next) X.xe j) X.xe g) X.xe s:=by
  refine nq (he pins s σ H _ I h) λw F ⟨y,H1,L,r1,K⟩=>?_;refine nq (ho pins F σ H1 v y u w _ L r r1 K) λz O ⟨P,H2,G,r2,C⟩=>?_;exact Bh G hN hi hx r2 (λM B=>⟨_,H2,B,C⟩) hf
 rcases l with⟨d,J⟩|⟨d,c,hc,f⟩
 ·exact wpAny_loadName_local I.ok.kind d hn J q
 ·rcases d with d|d
  ·exact wpAny_loadName_cell I.ok.kind d hc f q
  ·rcases hx with k|k
   ·have:X.env.scope.names.lookup x=some .free:=d;rw[k]at this;cases this
   ·have:X.env.scope.names.lookup x=some .free:=d;rw[k]at this;cases this
end
section
variable {X:Cx}{pos:Pos}
abbrev Oc (c:TT)(tb:TS):TS:=λD σ H=>∃W:Nat->St->Hp->Prop,(∃m,W m σ H)/\∀m σ H,W m σ H ->
 c σ H λb H1=>if b=true then ∃N:St->Hp->Prop,(∀d H',N d H'->∃f,f<m/\W f d H')/\tb { D with nx:=N,ct:=N,bk:=D.nx } σ H1 else D.nx σ H1
def Nf{c:aE}{tc:TT}{tb:TS}(hp:PassesOwn (model X.prog X.w) X.A X.env X.xe)(hc:PT X c tc)(hb:CY X body tb):PS X (.While c body [] pos) (Oc tc tb):=by
 intro pins s σ H D I h;obtain⟨W,⟨K,T⟩,turn⟩:=h;refine wpAny_While<|codeAny_whileLoop (λn s'=>∃j H',Inv X pins j H' s'/\W n j H') ?_ K ⟨σ,H,I,T⟩;rintro n O ⟨g,H1,P,L⟩;refine fj hp (nq (hc pins O g H1 _ P<|turn n g H1 L) λb M ⟨H2,J,k⟩=>?_)
 cases b with
 | true=>
  obtain⟨N,G,k⟩:=k;rw[aW rfl];refine fj hp (nq (hb pins M g H2 _ J k) λf U p=>?_)
  cases f with
  | next=>
   obtain⟨d,H3,q,B⟩:=p;obtain⟨t,F,C⟩:=G d H3 B;exact⟨t,F,d,H3,q,C⟩
  | cont=>
   obtain⟨d,H3,q,B⟩:=p;obtain⟨t,F,C⟩:=G d H3 B;exact⟨t,F,d,H3,q,C⟩
  | brk=>exact p
  | ret v=>exact p
 | false=>
  rw[aV bw];exact iZ ⟨g,H2,J,k⟩
end
structure It where
 go:Nat->Hp->Prop
 yld:Nat->Hp->V->Hp->Prop
 stop:Nat->Hp->Prop
abbrev wC (X:Cx)(pins:bn)(H:Hp)(b:ak):Prop:=
 H b=none/\b≠X.env.locals/\b∉X.fs/\(b∈X.ex\/X.s₀.heap.objs.size<=b)/\(∀x c,X.env.cells.lookup x=some c->c≠b)/\∀p∈X.pn++pins,p.1≠b
def Inv.Ed{X:Cx}{H H':Hp}{s:aC}(I:Inv X pins σ H s)(hb:s.heap.objs.size<=b)(hn:H' b=none):wC X pins H' b:=by
 refine⟨hn,jE<|bQ I.lt hb,I.adJ hb,.inr<|bK I.sz hb,λx c e z=>?_,λp d z=>?_⟩
 ·obtain⟨v,q⟩:=I.cell x c e;exact absurd (bQ q.lt<|by rw[z];exact hb) (fW _)
 ·exact absurd (bQ (a_ (I.pin p d).1)<|by rw[z];exact hb)<|fW _
structure Turn (P:aj)(w:ah)(K:au)(tg:aE)(J:It)(fp:bb)(it:ak)(tn:Nat->aq->Prop):Prop where
 mem:it∈fp
 obj:∀i h,tn i h->∀b∈fp,∃o,h.get? b=some o/\∀v,o.data≠.cell v
 keep:∀i h h',tn i h->(∀b∈fp,∀o,h.get? b=some o->h'.get? b=some o)->tn i h'
 item:∀(X:Cx),X.prog=P->X.w=w->X.K=K->X.calm=true->∀(i:Nat) (pins:bn) (s:aC) (σ:St) (H:Hp) (E:af->aC->Prop),Inv X pins σ H s->(∀b∈fp,wC X pins H b)->tn i s.heap->J.go i H ->
  wpAny (model P w) X.A (pyNext<|.ref it) (λr s1=>∃u,r=some u /\
   wpAny (model P w) X.A (letOwnedTupleGo tg (.ref it) u) (λ_ s2=>∃x H',Inv X pins σ H' s2/\RelV x u/\J.yld i H x H'/\tn (i+1) s2.heap/\∀b∈fp,H' b=none) E s1) E s
 done:∀(X:Cx),X.prog=P->X.w=w->X.K=K->X.calm=true->∀(i:Nat) (pins:bn) (s:aC) (σ:St) (H:Hp) (E:af->aC->Prop),Inv X pins σ H s->(∀b∈fp,wC X pins H b)->tn i s.heap->J.stop i H ->
  wpAny (model P w) X.A (pyNext<|.ref it) (λr s1=>r=none/\Inv X pins σ H s1) E s
 self:∀(A:aA) (i:Nat) (s:aC) (Q:af->aC->Prop) (E:af->aC->Prop),tn i s.heap->Q (.ref it) s->wpAny (model P w) A (pyIter<|.ref it) Q E s
meta abbrev TI:=St->Hp->(It->Hp->Prop)->Prop
abbrev PIE (X:Cx)(pins:bn)(σ:St)(tg:aE)(R:It->Hp->Prop)(itv:af)(s2:aC):Prop:=
 ∃(it:ak) (d:bb) (f:Nat->aq->Prop) (J:It) (H':Hp),itv=.ref it/\Inv X pins σ H' s2/\Turn X.prog X.w X.K tg J d it f/\f 0 s2.heap/\(∀b∈d,wC X pins H' b)/\R J H'
abbrev PI (X:Cx)(tg iter:aE)(wi:TI):Prop:=
 ∀(pins:bn) (s:aC) (σ:St) (H:Hp) (R:It->Hp->Prop),Inv X pins σ H s->wi σ H R ->
  wpAny (model X.prog X.w) X.A (eval iter X.env) (λv d=>wpAny (model X.prog X.w) X.A (pyIter v) (PIE X pins σ tg R) X.xe d) X.xe s
def Ga{A:aA}{E:af->aC->Prop}{s:aC}{o:Obj}{n:String}{Q:Unit->aC->Prop}(ho:s.heap.get? it=some o)(hc:o.cls=.type n)(hd:o.data=.fields vs)
  (hn:["enumerate", "zip", "dict_itemiterator", "dict_reverseitemiterator", "odict_iterator", "itertools.zip_longest", "itertools.pairwise"].contains n=false) (hQ:Q Unit.unit s):wpAny M A (letOwnedTupleGo tg (.ref it) u) Q E s:=by
 unfold letOwnedTupleGo
 cases tg<;>first
  | exact aM hQ
  | (cases u<;>first
    | exact aM hQ
    | (refine aG (wpAny_load ho ?_)
       rw[hc,hd];show wpAny M A (if (["enumerate", "zip", "dict_itemiterator", "dict_reverseitemiterator", "odict_iterator", "itertools.zip_longest", "itertools.pairwise"].contains n && vs[0]? == some (rawInt _))=true then _ else _) Q E s;rw[aV<|by intro h;rw[hn,Bool.false_and]at h;cases h];exact aM hQ))
abbrev Itl (K:au)(a:ak):It:=
 ⟨λi H=>∃xs x,oS K H a xs/\xs[i]?=some x,λi H x H'=>H'=H/\∀xs,oS K H a xs->xs[i]?=some x,λi H=>∃xs,oS K H a xs/\xs.length<=i⟩
abbrev Itt (K:au)(a:ak):It:=
 ⟨λi H=>∃xs x,nh K H a xs/\xs[i]?=some x,λi H x H'=>H'=H/\∀xs,nh K H a xs->xs[i]?=some x,λi H=>∃xs,nh K H a xs/\xs.length<=i⟩
abbrev Itr (lo:Int)(n:Nat):It:=⟨λi _=>i<n,λi H x H'=>H'=H/\x=.int (lo+i),λi _=>n<=i⟩
def LU{P:aj}{w:ah}{K:au}(a it:ak):Turn P w K tg (Itl K a) [it] it (λi h=>h.IsListIter it a i) where
 mem:=by simp
 obj:=λi h st b hb=>by
  have e:b=it:=by simpa using hb
  subst e;obtain⟨o,e,c,d⟩:=st;exact⟨o,e,λv z=>by rw[d]at z;cases z⟩
 keep:=λi h h' st k=>st.at λo e=>k it (by simp) o e
 item:=by
  fin2;subst hP hw hK;obtain⟨xs,x,hq,g⟩:=hg;obtain⟨q,j,p,G⟩:=I.list hq;obtain⟨u,D,F⟩:=j.get g;ksr_p;refine wpAny_pyNext_list_item st p.isList (x:=u) (by simpa using D) λh' f B=>?_;have t:Inv X pins σ H { s with heap:=h' }:=I.turned (t':=s.toks) (λb o hb e=>(B.2 b hb).trans e) f0 f1 f3 f4 f5;obtain⟨o,e,c,d⟩:=id f;exact⟨u,rfl,Ga (s:={ s with heap:=h' }) e c d ⋯ ⟨x,H,t,F,⟨rfl,λys hy=>by rw[I.Nr hy hq];exact g⟩,f,λb hb=>(hf b hb).1⟩⟩
 done:=by
  fin2;subst hP hw hK;obtain⟨xs,hq,g⟩:=hg;obtain⟨q,j,p,G⟩:=I.list hq;ksr_p;have J:=j.length;exact wpAny_pyNext_list_end (I.ok.hd hc) st p.isList (by simp;omega) λh' C=>⟨rfl,I.turned (t':=s.toks) (λb o hb e=>C b o hb e) f0 f1 f3 f4 f5⟩
 self:=λ_ _ _ _ _ st h=>wpAny_pyIter_listiter st h
def HC{P:aj}{w:ah}{K:au}(a it:ak):Turn P w K tg (Itt K a) [it] it (λi h=>h.IsTupleIter it a i) where
 mem:=by simp
 obj:=λi h st b hb=>by
  have e:b=it:=by simpa using hb
  subst e;obtain⟨o,e,c,d⟩:=st;exact⟨o,e,λv z=>by rw[d]at z;cases z⟩
 keep:=λi h h' st k=>st.at λo e=>k it (by simp) o e
 item:=by
  fin2;subst hP hw hK;obtain⟨xs,x,hq,j⟩:=hg;obtain⟨f,q,p,G⟩:=I.tuple hq;obtain⟨u,D,F⟩:=q.get j;ksr_p;refine wpAny_pyNext_tuple_item st (show s.heap.IsTuple a f.toArray from p) (x:=u) (by simpa using D) λh' g B=>?_;have t:Inv X pins σ H { s with heap:=h' }:=I.turned (t':=s.toks) (λb o hb e=>(B.2 b hb).trans e) f0 f1 f3 f4 f5;obtain⟨o,e,c,d⟩:=id g;exact⟨u,rfl,Ga (s:={ s with heap:=h' }) e c d ⋯ ⟨x,H,t,F,⟨rfl,λys hy=>by rw[I.wk hy hq];exact j⟩,g,λb hb=>(hf b hb).1⟩⟩
 done:=by
  fin2;subst hP hw hK;obtain⟨xs,hq,j⟩:=hg;obtain⟨f,q,p,G⟩:=I.tuple hq;ksr_p;have J:=q.length;exact wpAny_pyNext_tuple_end (I.ok.hd hc) st (show s.heap.IsTuple a f.toArray from p) (by simp;omega) λh' C=>⟨rfl,I.turned (t':=s.toks) (λb o hb e=>C b o hb e) f0 f1 f3 f4 f5⟩
 self:=λ_ _ _ _ _ st h=>wpAny_pyIter_tupleiter st h
def HM{P:aj}{w:ah}{K:au}(it:ak)(lo:Int)(n:Nat):Turn P w K tg (Itr lo n) [it] it (λi h=>IsRangeIter h it (lo+(i:Nat) * 1) ((n:Int)-(i:Nat)) 1) where
 mem:=by simp
 obj:=λi h st b hb=>by
  have e:b=it:=by simpa using hb
  subst e;exact⟨_,st,λv z=>by
   have p:Data.fields _=Data.cell v:=z
   cases p⟩
 keep:=λi h h' st k=>k it (by simp) _ st
 item:=by
  fin2;subst hP hw hK;ksr_p;have W:=Walks.range (prog:=X.prog) (w:=X.w) (I.ok.hd hc) it lo 1 n;refine W.item i s _ _ hg st λv h' f hv d g=>?_;obtain⟨t,rfl⟩:=hv;have q:Inv X pins σ H { s with heap:=h',toks:=f }:=I.turned (λb o hb e=>g b o (by simpa using hb) e) f0 f1 f3 f4 f5;refine⟨_,rfl,Ga (s:={ s with heap:=h',toks:=f }) (n := "range_iterator") d rfl rfl ⋯ ⟨.int<|lo+i,H,q,⟨t,?_⟩,⟨rfl,rfl⟩,d,λb hb=>(hf b hb).1⟩⟩;rw[Int.mul_one]
 done:=by
  fin2;subst hP hw hK;ksr_p;exact wpAny_pyNext_range_end (I.ok.hd hc) st (by have:n<=i:=hg;lia) λh' j=>⟨rfl,I.turned (t':=s.toks) (λb o hb e=>j b o hb e) f0 f1 f3 f4 f5⟩
 self:=λ_ _ _ _ _ st h=>wpAny_pyIter_rangeiter st h
section
variable {X:Cx}{tg:aE}
abbrev abd (K:au)(tl:TE):TI:=λσ H R=>tl σ H λx H1=>∃a,x=.ref a/\(∃xs,oS K H1 a xs)/\R (Itl K a) H1
abbrev ac5 (K:au)(tl:TE):TI:=λσ H R=>tl σ H λx H1=>∃a,x=.ref a/\(∃xs,nh K H1 a xs)/\R (Itt K a) H1
def Lk{l:aE}{tl:TE}(hl:PE X l tl):PI X tg l (abd X.K tl):=by
 intro pins s σ H R I h;refine nq (hl pins s σ H _ I h) λv d ⟨x,H1,I1,r1,g⟩=>?_;obtain⟨a,e,⟨xs,hq⟩,q⟩:=g;subst e
 cases r1
 obtain⟨f,j,p,k⟩:=I1.list hq;refine gU p.isList ?_;refine⟨d.heap.objs.size,[d.heap.objs.size],_,_,H1,rfl,I1.kept (t':=d.toks) λb o e=>aQ _ e,LU a _,⟨_,br _ rfl,rfl,rfl⟩,λb hb=>?_,q⟩;have e:b=d.heap.objs.size:=by simpa using hb
 subst e;exact I1.Ed (aN _)<|I1.hok.fresh<|aN _
def QU{l:aE}{tl:TE}(hl:PE X l tl):PI X tg l (ac5 X.K tl):=by
 intro pins s σ H R I h;refine nq (hl pins s σ H _ I h) λv d ⟨x,H1,I1,r1,g⟩=>?_;obtain⟨a,e,⟨xs,hq⟩,q⟩:=g;subst e
 cases r1
 obtain⟨f,j,p,k⟩:=I1.tuple hq;refine gM (show d.heap.IsTuple a f.toArray from p) ?_;refine⟨d.heap.objs.size,[d.heap.objs.size],_,_,H1,rfl,I1.kept (t':=d.toks) λb o e=>aQ _ e,HC a _,⟨_,br _ rfl,rfl,rfl⟩,λb hb=>?_,q⟩;have e:b=d.heap.objs.size:=by simpa using hb
 subst e;exact I1.Ed (aN _)<|I1.hok.fresh<|aN _
def Fx{H:Hp}{s:aC}{R:It->Hp->Prop}{E:af->aC->Prop}{lo hi:Int}{t v:Tok}{tk:Nat}(I:Inv X pins σ H s)(h1:-(2 ^ 62)<=lo)(h2:lo<2 ^ 62)(h3:-(2 ^ 62)<=hi)(h4:hi<2 ^ 62)
  (q:R (Itr lo (hi-lo).toNat) H):wpAny (model X.prog X.w) X.A (pyIter<|.ref s.heap.objs.size) (PIE X pins σ tg R) E { s with heap:=s.heap.push { cls:=.type "range",data:=.fields #[.int lo t,.int hi u,.int 1 v]},toks:=tk }:=by
 refine wpAny_pyIter_range (IsRange.new ..) (small_one h1 h2 h3 h4) ?_;have I1:Inv X pins σ H { s with heap:=s.heap.push { cls:=.type "range",data:=.fields #[.int lo t,.int hi u,.int 1 v]},toks:=tk }:=I.kept λb o e=>aQ _ e;refine⟨(s.heap.push { cls:=.type "range",data:=.fields #[.int lo t,.int hi u,.int 1 v]}).objs.size,[(s.heap.push { cls:=.type "range",data:=.fields #[.int lo t,.int hi u,.int 1 v]}).objs.size],_,_,H,rfl,
  I1.kept (t':=tk) λb o e=>aQ _ e,HM _ lo (hi-lo).toNat,?_,λb hb=>?_,q⟩
 ·have e1:lo+((0:Nat):Int) * 1=lo:=by simp
  have e2:(((hi-lo).toNat:Nat):Int)-((0:Nat):Int)=Builtin.Range.rangeSize lo hi 1:=by rw[rangeSize_one];split<;>lia
  skip
  rw[e1,e2];exact br _ rfl
 ·have e:b=(s.heap.push { cls:=.type "range",data:=.fields #[.int lo t,.int hi u,.int 1 v]}).objs.size:=by simpa using hb
  subst e;exact I1.Ed (aN _)<|I1.hok.fresh<|aN _
abbrev tH (ta:TA):TI:=λσ H R=>ta σ H λd H1=>∃j:Int,d=[.int j]/\-(2 ^ 62)<=j/\j<2 ^ 62/\R (Itr 0 j.toNat) H1
abbrev uU (ta:TA):TI:=λσ H R=>ta σ H λd H1=>∃i j:Int,d=[.int i,.int j]/\(-(2 ^ 62)<=i/\i<2 ^ 62/\-(2 ^ 62)<=j/\j<2 ^ 62)/\R (Itr i (j-i).toNat) H1
def L8{a:aE}{ta:TA}{p:Pos}(hg:Gl X "range")(hm:X.mg "range" = none)(ha:PA X [a] ta)(hs:starEach [a] X.env=[(false,eval a X.env)]<|>ε):PI X tg (.Call (.Name "range" p) [a] [] pos) (tH ta):=by
 intro pins s σ H R I h;refine Call_<|yX I hg hm boot_range<|eN (nq (ha pos pins s σ H _ I h) λus B ⟨C,H1,k,r1,d⟩=>?_) hs rfl;obtain⟨j,e,d,f,q⟩:=d;subst e
 cases r1 with
 | cons r g=>
  cases g
  obtain⟨t,rfl⟩:=r;exact call_range_1<|Fx k () () d f<|by simpa using q
def Mn{a b:aE}{ta:TA}{p:Pos}(hg:Gl X "range")(hm:X.mg "range" = none)(ha:PA X [a,b] ta)(hs:starEach [a,b] X.env=[(false,eval a X.env),(false,eval b X.env)]<|>ε)(hs2:starEach [b] X.env=[(false,eval b X.env)]<|>ε) :
  PI X tg (.Call (.Name "range" p) [a,b] [] pos) (uU ta):=by
 intro pins s σ H R I h;refine Call_ (yX I hg hm boot_range<|eN (nq (ha pos pins s σ H _ I h) λus J ⟨F,H1,C,r1,f⟩=>?_) (by rw[hs,hs2])<|by rw[hs2];rfl);obtain⟨i,j,e,⟨f,g,D,B⟩,q⟩:=f;subst e
 cases r1 with
 | cons r d=>
  cases d with
  | cons k d=>
   cases d
   obtain⟨t,rfl⟩:=r;obtain⟨G,rfl⟩:=k;exact call_range_2<|Fx C f g D B q
abbrev adM (wi:TI)(g:TG)(tb:TS):TS:=λD σ H=>wi σ H λJ H1=>∃W:Nat->Nat->St->Hp->Prop,(∃m,W 0 m σ H1)/\∀i m σ H,W i m σ H ->
 (J.stop i H/\D.nx σ H)\/(J.go i H/\∃N:St->Hp->Prop,(∀d H',N d H'->∃j,j<m/\W (i+1) j d H')/\∀x H',J.yld i H x H'->g x σ H' λf H2=>tb { D with nx:=N,ct:=N,bk:=D.nx } f H2)
abbrev yL (fp:bb)(h:aq):bn:=fp.filterMap λb=>(h.get? b).map λo=>(b,o)
def oM{fp:bb}{h:aq}{b:ak}(hb:b∈fp)(e:h.get? b=some o):(b,o)∈yL fp h:=List.mem_filterMap.mpr ⟨b,hb,by rw[e];rfl⟩
def Lx{fp:bb}{h:aq}{p:ak×Obj}(hp:p∈yL fp h):p.1∈fp/\h.get? p.1=some p.2:=by
 obtain⟨b,hb,e⟩:=List.mem_filterMap.mp hp
 cases q:h.get? b with
 | none=>rw[q]at e;cases e
 | some o=>
  rw[q]at e;have d:(b,o)=p:=bg e;subst d;exact⟨hb,q⟩
def Inv.pinned{H:Hp}{s:aC}{fp:bb}(I:Inv X pins σ H s)(hf:∀b∈fp,wC X pins H b)(ho:∀b∈fp,∃o,s.heap.get? b=some o/\∀v,o.data≠.cell v):Inv X (pins++yL fp s.heap) σ H s:=
 I.KO λp g=>(bH.mp g).elim (λz=>I.pin p<|bM _ z) λz=>by
  obtain⟨hb,e⟩:=Lx z;obtain⟨f0,f1,f2,_⟩:=hf p.1 hb;obtain⟨o,f,d⟩:=ho p.1 hb;rw[e]at f;cases f;exact⟨e,f0,f1,f2,d⟩
def Inv.tV{pl:bn}{H:Hp}(I:Inv X (pins++pl) σ H s):Inv X pins σ H s:=I.KO λp d=>I.pin p<|bM _<|iS _ d
def Yn{iter:aE}{wi:TI}{g:TG}{tb:TS}(hp:PassesOwn (model X.prog X.w) X.A X.env X.xe)(hc:X.calm=true)(hi:PI X tg iter wi)(hg:PG X tg g)(hb:CY X body tb)
  (hs:(∀x,foldedSetIterable iter X.env x=pure x)<|>ζ):PS X (.For tg iter body [] pos) (adM wi g tb):=by
 intro pins s σ H D I h;refine wpAny_For (nq (hi pins s σ H _ I h) λv s1 h1=>nq h1 λitv s2 h2=>?_) hs;obtain⟨it,K,tn,J,H2,e,I2,T,st2,f2,W,⟨m0,w0⟩,turn⟩:=h2;subst e;have q:∀{H':Hp},(∀b∈K,H' b=none)->∀b∈K,wC X pins H' b:=λhn b hb=>⟨hn b hb,(f2 b hb).2⟩;refine codeAny_forLoop_any (λn s'=>∃i p H',Inv X pins p H' s'/\tn i s'.heap/\(∀b∈K,H' b=none)/\W i n p H') ?_ m0 ⟨0,σ,H2,I2,st2,λb hb=>(f2 b hb).1,w0⟩;rintro n s3 ⟨i,B,H3,I3,G,M,w3⟩
 rcases turn i n B H3 w3 with⟨O,qn⟩|⟨go,N,hN,step⟩
 ·refine fj hp<|nq (T.done X rfl rfl rfl hc i pins s3 B H3 X.xe I3 (q M) G O) λr s4 ⟨Z,I4⟩=>?_;subst Z;exact iZ ⟨B,H3,I4,qn⟩
 ·refine fj hp<|nq (T.item X rfl rfl rfl hc i pins s3 B H3 X.xe I3 (q M) G go) λr s4 ⟨u,Z,h4⟩=>?_;subst Z;refine fj hp<|nq h4 λ_ s5 ⟨x,H5,I5,r5,y5,F,P⟩=>?_;have Y:=I5.pinned (q P)<|T.obj _ _ F;refine fj hp<|nq (hg _ s5 B H5 x u _ Y r5<|step x H5 y5) λ_ s6 ⟨U,H6,I6,q6⟩=>?_;refine fj hp<|nq (hb _ s6 U H6 _ I6 q6) λf V C=>?_;have again:∀{j:St} {k:Hp},Inv X (pins++yL K s5.heap) j k V->N j k->∃m,m<n/\∃i p H',Inv X pins p H' V/\tn i V.heap/\(∀b∈K,H' b=none)/\W i m p H':=λ{j k} t L=>by
   obtain⟨m',hm,w7⟩:=hN j k L;refine⟨m',hm,i+1,j,k,t.tV,T.keep _ _ _ F λb hb o e=>(t.pin (b,o)<|bM _<|bM _<|oM hb e).1,λb hb=>?_,w7⟩;obtain⟨o,e,d⟩:=T.obj _ _ F b hb;exact(t.pin (b,o)<|bM _<|bM _<|oM hb e).2.1
  cases f with
  | next=>obtain⟨j,k,t,L⟩:=C;exact again t L
  | cont=>obtain⟨j,k,t,L⟩:=C;exact again t L
  | brk=>obtain⟨j,k,t,C⟩:=C;exact⟨j,k,t.tV,C⟩
  | ret v=>obtain⟨x7,j,k,t,r7,C⟩:=C;exact⟨x7,j,k,t.tV,r7,C⟩
end
def z8{c:TT}{tb:TS}{D:Ends}{H:Hp}(Pv:St->Hp->Prop)(μ:St->Hp->Nat)(h0:Pv σ H)
  (hs:∀σ H,Pv σ H->c σ H λb H1=>if b=true then tb { D with nx:=λσ' H'=>Pv σ' H'/\μ σ' H'<μ σ H,ct:=λσ' H'=>Pv σ' H'/\μ σ' H'<μ σ H,bk:=D.nx } σ H1 else D.nx σ H1)
  (mono:∀σ H Q Q',(∀b H1,Q b H1->Q' b H1)->c σ H Q->c σ H Q'):Oc c tb D σ H:=by
 refine⟨λm σ H=>m=μ σ H/\Pv σ H,⟨_,rfl,h0⟩,?_⟩;rintro m σ H ⟨rfl,p⟩;refine mono σ H _ _ (λb H1 q=>?_) (hs σ H p)
 cases b with
 | true=>exact⟨_,λσ' H' ⟨d,l⟩=>⟨_,l,rfl,d⟩,q⟩
 | false=>exact q
meta abbrev R2:=V->V->Hp->VK->Prop
abbrev oR (X:Cx)(f:af->af->Sem af)(r:R2):Prop:=
 ∀(pins:bn) (s:aC) (σ:St) (H:Hp) (x y:V) (v u:af) (Q:VK),Inv X pins σ H s->RelV x v->RelV y u->r x y H Q ->
  wpAny (model X.prog X.w) X.A (f v u) (EP X pins σ Q) X.xe s
abbrev UnR (X:Cx)(f:af->Sem af)(r:V->Hp->VK->Prop):Prop:=
 ∀(pins:bn) (s:aC) (σ:St) (H:Hp) (x:V) (v:af) (Q:VK),Inv X pins σ H s->RelV x v->r x H Q ->
  wpAny (model X.prog X.w) X.A (f v) (EP X pins σ Q) X.xe s
abbrev kM (X:Cx)(f:af)(r:List V->Hp->VK->Prop):Prop:=
 ∀(pins:bn) (s:aC) (σ:St) (H:Hp) (xs:List V) (us:ba) (Q:VK),Inv X pins σ H s->Vals xs us->r xs H Q ->
  wpAny (model X.prog X.w) X.A (call f us) (EP X pins σ Q) X.xe s
abbrev adk (X:Cx)(r:V->Hp->(Bool->Hp->Prop)->Prop):Prop:=
 ∀(pins:bn) (s:aC) (σ:St) (H:Hp) (x:V) (v:af) (Q:Bool->Hp->Prop),Inv X pins σ H s->RelV x v->r x H Q ->
  wpAny (model X.prog X.w) X.A (truthy v) (TP X pins σ Q) X.xe s
abbrev tOp (r:R2)(ta tb:TE):TE:=λσ H Q=>ta σ H λx H1=>tb σ H1 λy H2=>r x y H2 Q
abbrev tUn (r:V->Hp->VK->Prop)(ta:TE):TE:=λσ H Q=>ta σ H λx H1=>r x H1 Q
abbrev rI (C:Int->Int->Prop)(g:Int->Int->V):R2:=λx y H Q=>∃i j,x=.int i/\y=.int j/\C i j/\Q (g i j) H
abbrev Ww (g:Int->Int->V):R2:=λx y H Q=>∃i j,x=.int i/\y=.int j/\Q (g i j) H
abbrev rU (g:Int->V):V->Hp->VK->Prop:=λx H Q=>∃i,x=.int i/\Q (g i) H
section
variable {X:Cx}{a b:aE}{ta tb:TE}{pos:Pos}
def Y0(ha:PE X a ta)(hb:PE X b tb){H:Hp}{R:V->V->Hp->Prop}(I:Inv X pins σ H s)
  (h:ta σ H λx H1=>tb σ H1 λy H2=>R x y H2) {Q:af->aC->Prop} {f:af->af->Sem af}
  (hf:∀v u s2 x y H2,Inv X pins σ H2 s2->RelV x v->RelV y u->R x y H2->wpAny (model X.prog X.w) X.A (f v u) Q X.xe s2) :
  wpAny (model X.prog X.w) X.A (eval a X.env) (λv s₁=>wpAny (model X.prog X.w) X.A (eval b X.env) (λu s₂=>wpAny (model X.prog X.w) X.A (f v u) Q X.xe s₂) X.xe s₁) X.xe s:=by
 refine nq (ha pins s σ H _ I h) λv k ⟨x,H1,d,r1,p⟩=>?_;refine nq (hb pins k σ H1 _ d p) λu s2 ⟨y,H2,g,r2,j⟩=>?_;exact hf v u s2 x y H2 g r1 r2 j
def abz{r:R2}(ho:oR X (binaryOp op) r)(ha:PE X a ta)(hb:PE X b tb):PE X (.BinOp a op b pos) (tOp r ta tb):=by
 gn_on;exact wpAny_BinOp<|Y0 ha hb I h λv u f x y H2 d rx ry q=>ho pins f σ H2 x y v u Q d rx ry q
def abR{r:V->Hp->VK->Prop}(ho:UnR X (unaryOp op) r)(ha:PE X a ta):PE X (.UnaryOp op a pos) (tUn r ta):=by
 gn_on;exact UnaryOp_<|nq (ha pins s σ H _ I h) λv f ⟨x,H1,d,r1,g⟩=>ho pins f σ H1 x v Q d r1 g
def opI{f:af->af->Sem af}{C:Int->Int->Prop}{g:Int->Int->Int}
  (rule:∀(i j:Int) (t u:Tok) (s:aC) (Q:af->aC->Prop) (E:af->aC->Prop),C i j->Q (.int (g i j) s.toks) { s with toks:=s.toks+1 }->wpAny (model X.prog X.w) X.A (f (.int i t)<|.int j u) Q E s) :
  oR X f (rI C λi j=>.int<|g i j):=by
 kpf_c;obtain⟨i,j,rfl,rfl,hc,q⟩:=h;obtain⟨t,rfl⟩:=rx;obtain⟨d,rfl⟩:=ry;exact rule i j t d s _ _ hc ⟨.int<|g i j,H,I.tok _,⟨_,rfl⟩,q⟩
def abk{f:af->af->Sem af}{g:Int->Int->Int}
  (rule:∀(i j:Int) (t u:Tok) (s:aC) (Q:af->aC->Prop) (E:af->aC->Prop),Q (.int (g i j) s.toks) { s with toks:=s.toks+1 }->wpAny (model X.prog X.w) X.A (f (.int i t)<|.int j u) Q E s) :
  oR X f (Ww λi j=>.int<|g i j):=by
 kpf_c;obtain⟨i,j,rfl,rfl,q⟩:=h;obtain⟨t,rfl⟩:=rx;obtain⟨d,rfl⟩:=ry;exact rule i j t d s _ _ ⟨.int<|g i j,H,I.tok _,⟨_,rfl⟩,q⟩
def UN{f:af->af->Sem af}{g:Int->Int->Bool}
  (rule:∀(i j:Int) (t u:Tok) (s:aC) (Q:af->aC->Prop) (E:af->aC->Prop),Q (.bool<|g i j) s->wpAny (model X.prog X.w) X.A (f (.int i t)<|.int j u) Q E s) :
  oR X f (Ww λi j=>.bl<|g i j):=by
 kpf_c;obtain⟨i,j,rfl,rfl,q⟩:=h;obtain⟨t,rfl⟩:=rx;obtain⟨d,rfl⟩:=ry;exact rule i j t d s _ _ ⟨.bl<|g i j,H,I,rfl,q⟩
abbrev acU (i j:Int):Prop:=0<=j/\j<=1000000/\i.natAbs<2 ^ 64
abbrev Vf (i j:Int):Prop:=(-(2 ^ 64)<i/\i<2 ^ 64)\/(-(2 ^ 64)<j/\j<2 ^ 64)
def Vf.ok{i j:Int}(h:Vf i j):IntMulOk i j:=by
 rcases h with⟨h1,h2⟩|⟨h1,h2⟩
 ·exact .of_left (intBits_le_64 h1 h2)
 ·exact .of_right<|intBits_le_64 h1 h2
def YV:oR X (binaryOp .Add) (Ww λi j=>.int<|i+j):=abk λ_ _ _ _ _ _ _ q=>add_int q
def XJ:oR X (binaryOp .Sub) (Ww λi j=>.int<|i-j):=abk λ_ _ _ _ _ _ _ q=>sub_int q
def Zg:oR X (binaryOp .Mult) (rI Vf λi j=>.int<|i * j):=opI λ_ _ _ _ _ _ _ hc q=>mul_int q hc.ok
def YQ:oR X (binaryOp .Mod) (rI (λ_ j=>0<j) λi j=>.int<|i % j):=opI λi j _ _ _ _ _ hc q=>by
 have h1:(0:Int)<j:=hc;exact mod_int' ()<|by rw[Int.fmod_eq_emod_of_nonneg i ()];exact q
def Zd:oR X (binaryOp .Pow) (rI acU λi j=>.int<|i ^ j.toNat):=opI λ_ _ _ _ _ _ _ hc q=>pow_int_small hc.1 hc.2.1 hc.2.2 q
def unI{f:af->Sem af}{g:Int->Int}
  (rule:∀(i:Int) (t:Tok) (s:aC) (Q:af->aC->Prop) (E:af->aC->Prop),Q (.int (g i) s.toks) { s with toks:=s.toks+1 }->wpAny (model X.prog X.w) X.A (f<|.int i t) Q E s) :
  UnR X f (rU λi=>.int<|g i):=by
 intro pins s σ H x v Q I rx h;obtain⟨i,rfl,q⟩:=h;obtain⟨t,rfl⟩:=rx;exact rule i t s _ _ ⟨.int<|g i,H,I.tok _,⟨_,rfl⟩,q⟩
def W6:UnR X (unaryOp .USub) (rU λi=>.int<|-i):=unI λ_ _ _ _ _ q=>neg_int q
end
abbrev ZX:V->V->Bool
 | .non,.non=>true | .non,.int _=>true | .int _,.non=>true | .non,.bl _=>true | .bl _,.non=>true | .non,.str _=>true | .str _,.non=>true
 | .int _,.int _=>true | .bl _,.bl _=>true | .str _,.str _=>true | .byt _,.byt _=>true
 | .int _,.str _=>true | .str _,.int _=>true | .bl _,.str _=>true | .str _,.bl _=>true
 | _,_=>false
section
variable {X:Cx}{a b c:aE}{ta tb tc:TE}{pos:Pos}
def YZ{H:Hp}{Q:VK}{k:Bool}(I:Inv X pins σ H s)(q:Q (.bl k) H)(e:k=k'):EP X pins σ Q (.bool k') s:=by
 subst e;exact⟨.bl k,H,I,rfl,q⟩
def abq:oR X (compareOp .Lt) (Ww λi j=>.bl<|decide<|i<j):=UN λ_ _ _ _ _ _ _ q=>lt_int q
def aaz:oR X (compareOp .LtE) (Ww λi j=>.bl<|decide<|i<=j):=UN λ_ _ _ _ _ _ _ q=>le_int q
def aax:oR X (compareOp .Gt) (Ww λi j=>.bl<|decide<|j<i):=UN λ_ _ _ _ _ _ _ q=>gt_int q
def abZ:oR X (compareOp .GtE) (Ww λi j=>.bl<|decide<|j<=i):=UN λ_ _ _ _ _ _ _ q=>ge_int q
def UG:oR X (compareOp .IsNot) (λx y H Q=>y=.non/\Q (.bl<|!decide (x=.non)) H):=by
 kpf_c;obtain⟨rfl,q⟩:=h
 cases ry
 refine isnot_none_gen (YZ I q ?_)
 cases x<;>first
  | (cases rx;rfl)
  | (obtain⟨t,rfl⟩:=rx;rfl)
def Ru(b:aE)(h:op≠.In<|>δ)(h2:op≠.NotIn<|>δ):behindInMarks op b=false:=by
 have e1:(op == CmpOp.In)=false:=by cases op<;>first|rfl|exact absurd rfl h
 have e2:(op == CmpOp.NotIn)=false:=by cases op<;>first|rfl|exact absurd rfl h2
 cases b<;>simp[behindInMarks,e1,e2]
def TY{op:CmpOp}{r:R2}(ho:oR X (compareOp op) r)(ha:PE X a ta)(hb:PE X b tb)(hm:behindInMarks op b=false):PE X (.Compare a [op] [b] pos) (tOp r ta tb):=by
 gn_on;exact wpAny_Compare1 (Y0 ha hb I h λv u f x y H2 d rx ry q=>ho pins f σ H2 x y v u Q d rx ry q) hm
abbrev abO (t:TE):TT:=λσ H Q=>t σ H λx H'=>∃k,x=.bl k/\Q k H'
def Ue{op:CmpOp}{r:R2}(ho:oR X (compareOp op) r)(ha:PE X a ta)(hb:PE X b tb)(hm:behindInMarks op b=false):PT X (.Compare a [op] [b] pos) (abO<|tOp r ta tb):=by
 gn_on;refine wpAny_isTrue_Compare1 (nq (ha pins s σ H _ I h) λv j ⟨x,H1,B,r1,t⟩=>nq (hb pins j σ H1 _ B t) λu f ⟨y,H2,q,r2,g⟩=>
  nq (ho pins f σ H2 x y v u _ q r1 r2 g) λc D ⟨z,H3,d,p,k,e,C⟩=>?_) hm
 subst e
 cases p
 exact cP ⟨H3,d,C⟩
abbrev MX (r r':R2)(ta tb tc:TE):TE:=λσ H Q=>ta σ H λx H1=>tb σ H1 λy H2=>r x y H2 λz H3=>∃k,z=.bl k /\
 (if k=true then tc σ H3 λd f=>r' y d f Q else Q (.bl false) H3)
def Nd{r r':R2}(ho:oR X (compareOp op) r)(ho':oR X (compareOp op') r')(ha:PE X a ta)(hb:PE X b tb)(hc:PE X c tc)
  (hm:lastMarks [op,op'] [b,c]=false<|>η):PE X (.Compare a [op,op'] [b,c] pos) (MX r r' ta tb tc):=by
 gn_on;refine Compare_chain (nq (ha pins s σ H _ I h) λv G ⟨x,H1,O,r1,N⟩=>chain_link (nq (hb pins G σ H1 _ O N) λu q ⟨y,H2,L,r2,t⟩=>
  nq (ho pins q σ H2 x y v u _ L r1 r2 t) λd j ⟨z,H3,f,K,k,e,g⟩=>?_)) hm
 subst e
 cases K
 refine cP ?_
 cases k with
 | false=>exact ite_ff ⟨.bl false,H3,f,rfl,g⟩
 | true=>exact ite_tt<|chain_last<|nq (hc pins j σ H3 _ f g) λM J ⟨D,p,C,B,F⟩=>ho' pins J σ p y D u M Q C r2 B F
abbrev Z1 (K:au)(x:V)(H:Hp)(k:Bool):Prop:=
 match x with
 | .non=>k=false
 | .bl b=>k=b
 | .int i=>k=(i != 0)
 | .str y=>y.length<=sizeLine/\k=((y.length:Int) != 0)
 | .byt y=>y.size<=sizeLine/\k=((y.size:Int) != 0)
 | .ref p=>(∃xs,oS K H p xs/\k=!xs.isEmpty)\/(∃xs,nh K H p xs/\k=!xs.isEmpty)\/∃kvs,H p=some (.dK kvs)/\k=!kvs.isEmpty
 | _=>False
def GH{κ:Type}{kvs:List<|κ×V}{vs:List<|κ×af}(r:KV kvs vs):(!vs.isEmpty)=!kvs.isEmpty:=by
 cases r<;>rfl
def zU{xs:List V}{its:ba}(r:Vals xs its):(!its.toArray.isEmpty)=!xs.isEmpty:=by
 cases r<;>simp
def xh:(sizeLine:Nat)<2 ^ 63:=by rw[eS];decide
def Xq:adk X (λx H Q=>∃k,Z1 X.K x H k/\Q k H):=by
 intro pins s σ H x v Q I rx h;obtain⟨k,e,q⟩:=h;have D:=xh;have hs:sizeLine=16777216:=eS
 cases x with
 | non=>
  cases rx
  have d:k=false:=e;subst d;exact truthy_none ⟨H,I,q⟩
 | bl b=>
  cases rx
  have d:k=b:=e;subst d;exact cP ⟨H,I,q⟩
 | int i=>
  obtain⟨t,rfl⟩:=rx;have d:k=(i != 0):=e;subst d;exact PySem.P.truthy_int ⟨H,I,q⟩
 | str y=>
  obtain⟨t,rfl⟩:=rx;obtain⟨hy,d⟩:y.length<=sizeLine/\k=((y.length:Int) != 0):=e;subst d;exact PySem.P.truthy_str () ⟨H,I.tok _,q⟩
 | byt y=>
  obtain⟨t,rfl⟩:=rx;obtain⟨hy,d⟩:y.size<=sizeLine/\k=((y.size:Int) != 0):=e;subst d;exact PySem.W.truthy_bytes () ⟨H,I.tok _,q⟩
 | ref p=>
  cases rx
  have d:(∃xs,oS X.K H p xs/\k=!xs.isEmpty)\/(∃xs,nh X.K H p xs/\k=!xs.isEmpty)\/∃kvs,H p=some (.dK kvs)/\k=!kvs.isEmpty:=e
  rcases d with⟨xs,g,d⟩|⟨xs,g,d⟩|⟨kvs,g,d⟩
  ·subst d;obtain⟨B,r,pl,C⟩:=I.list g;have f:=r.length;exact wpAny_truthy_list pl.isList (by dsimp[aX];lia) ⟨H,I.tok _,by rw[zU r];exact q⟩
  ·subst d;obtain⟨B,r,pl,C⟩:=I.tuple g;have f:=r.length;exact truthy_tuple pl (by dsimp[aX];lia) ⟨H,I.tok _,by rw[zU r];exact q⟩
  ·subst d;obtain⟨C,hS,j,r,m⟩:kvs.length<=sizeLine/\(p == sysModules)=false/\∃j,KV kvs j/\s.heap.DictOf (kZ X.prog X.w) p j:=I.hok p _ g;have f:kvs.length=j.length:=iO r;exact wpAny_truthy_dict hS m () ⟨H,I.tok _,by rw[GH r];exact q⟩
 | _=>exact(show False from e).elim
def QH(ha:PE X a ta)(he:∀whole,isTrue a X.env whole=(do let v <- whole;standAt a.pos;holding [v] (truthy v))) :
  PT X a (λσ H Q=>ta σ H λx H'=>∃k,Z1 X.K x H' k/\Q k H'):=by
 gn_on;exact isTrue_plain (nq (ha pins s σ H _ I h) λv f ⟨x,H1,d,r1,g⟩=>Xq pins f σ H1 x v Q d r1 g)<|he _
def Ih:oR X (binaryOp .Add) (λx y H Q=>∃i j,x=.str i/\y=.str j/\i.length+j.length<=sizeLine/\Q (.str<|i++j) H):=by
 kpf_c;obtain⟨i,j,rfl,rfl,d,q⟩:=h;obtain⟨t,rfl⟩:=rx;obtain⟨f,rfl⟩:=ry;exact add_str (λf g=>⟨.str<|i++j,H,I.tok _,⟨_,rfl⟩,q⟩) d
def vals1{x:V}(r:Vals [x] us):∃u,us=[u]/\RelV x u:=by
 cases r with
 | cons r1 r2=>cases r2;exact⟨_,rfl,r1⟩
def vals2{x:V}(r:Vals [x,y] us):∃u w',us=[u,w']/\RelV x u/\RelV y w':=by
 cases r with
 | cons r1 r2=>
  cases r2 with
  | cons d f=>cases f;exact⟨_,_,rfl,r1,d⟩
def Pj:kM X (.builtin "abs") (λxs H Q=>∃i,xs=[.int i]/\Q (.int<|if i<0 then -i else i) H):=by
 kt_k;obtain⟨i,rfl,q⟩:=h;obtain⟨u,rfl,t,rfl⟩:=vals1 r;exact call_abs_int λu d=>⟨.int<|if i<0 then -i else i,H,I.tok _,⟨_,rfl⟩,q⟩
abbrev acM (K:au)(x:V)(H:Hp)(n:Nat):Prop:=
 match x with
 | .str y=>y.length<=sizeLine/\n=y.length
 | .byt y=>y.size<=sizeLine/\n=y.size
 | .ref p=>(∃xs,oS K H p xs/\n=xs.length)\/∃xs,nh K H p xs/\n=xs.length
 | _=>False
def RP:kM X (.builtin "len") (λxs H Q=>∃x n,xs=[x]/\acM X.K x H n/\Q (.int n) H):=by
 kt_k;obtain⟨x,n,rfl,e,q⟩:=h;kcf_m;have C:=xh;have hs:sizeLine=16777216:=eS
 cases x with
 | str y=>
  obtain⟨t,rfl⟩:=rx;obtain⟨hy,f⟩:y.length<=sizeLine/\n=y.length:=e;subst f;exact len_str () ⟨.int _,H,I.tok _,⟨_,rfl⟩,q⟩
 | byt y=>
  obtain⟨t,rfl⟩:=rx;obtain⟨hy,f⟩:y.size<=sizeLine/\n=y.size:=e;subst f;exact PySem.W.len_bytes () ⟨.int _,H,I.tok _,⟨_,rfl⟩,q⟩
 | ref p=>
  cases rx
  have f:(∃xs,oS X.K H p xs/\n=xs.length)\/∃xs,nh X.K H p xs/\n=xs.length:=e
  rcases f with⟨xs,g,f⟩|⟨xs,g,f⟩
  ·subst f;obtain⟨k,j,pl,B⟩:=I.list g;have d:=j.length;exact Calls.call_len_list pl.isList (by dsimp[aX];lia) ⟨.int xs.length,H,I.tok _,⟨_,by dsimp[aX];rw[d]⟩,q⟩
  ·subst f;obtain⟨k,j,pl,B⟩:=I.tuple g;have d:=j.length;exact len_tuple pl (by dsimp[aX];lia) ⟨.int xs.length,H,I.tok _,⟨_,by dsimp[aX];rw[d]⟩,q⟩
 | _=>exact(show False from e).elim
end
structure ObjM (h:aq)(x dx C:ak)(mA:Str->bd):Prop where
 obj:h.get? x=some (PySem.W.instObj C dx)
 ns:h.Ns1 dx mA
 ne:dx≠x
def Ly{h:aq}{mA:Str->bd}(n:h.Ns1 dx mA):∃od,h.get? dx=some od/\∀name,PySem.W.lookIn name od=some (mA name):=by
 obtain⟨o,es,ep,p,j,f,_,g⟩:=n;refine⟨o,p,λname=>?_⟩;have e:=g name;unfold nsFind findBy at e;rw[<- Array.find?_toList]at e;unfold PySem.W.lookIn;rw[j];dsimp only;split
 ·rename_i y q;rw[q]at e;exact cV some e
 ·rename_i q;rw[q]at e;have a:es.toList.any (·.refKey)=false:=by
   rw[List.any_eq_false];intro y hy;obtain⟨z,t,d⟩:=f y<|Array.mem_toList_iff.mp hy;simp[DictEntry.refKey,d]
  have k:¬es.toList.any (·.refKey)=true:=by rw[a];exact bw
  rw[aV k];exact cV some e
def ObjM.look{x:ak}{mA:Str->bd}(I:ObjM h x dx C mA):∃od,PySem.W.InstAt h x (PySem.W.instObj C dx) C (some od)/\∀name,PySem.W.lookIn name od=some (mA name):=
 let⟨od,ho,hl⟩:=Ly I.ns
 ⟨od,⟨I.obj,rfl,rfl,ho⟩,hl⟩
def yV.some_of{v:V}(r:yV (some v) o):∃u,o=some u/\RelV v u:=by
 cases o with
 | none=>exact(show False from r).elim
 | some u=>exact⟨u,rfl,r⟩
section
variable {P:aj}{w:ah}{H:Hp}{h:aq}{a C dx:ak}{fs:List (Str×V)}
def Tu(hok:xD P w H h)(e:H a=some (.ins C dx fs)):∃mA,ObjM h a dx C mA/\(∀f,yV (fs.lookup f)<|mA f)/\PySem.Within mA (fs.map (·.1))/\fs.length<=1000/\H dx=some (.own a):=by
 obtain⟨d,z,ne,ob,mA,n,r,q⟩:=(show lE P w H h a (.ins C dx fs)from hok a _ e);exact⟨mA,⟨ob,n,ne⟩,r,q,z,d⟩
end
structure Cls (K:au)(C:ak):Prop where
 pg:PySem.W.plainGet K C Str.empty=true
 hd:PySem.W.hasDictIn K C=true
 po:PySem.W.plainOver K C=true
 sa:PySem.W.findIn K (.ref C) "__setattr__" = some (some<|.builtin "object.__setattr__")
def Cls.get{K:au}(c:Cls K C)(f:Str):PySem.W.plainGet K C f=true:=c.pg
structure Con (K:au)(C:ak)(f:Str)(v:V)(u:af):Prop where
 at_:PySem.W.findIn K (.ref C) f=some (some u)
 rel:RelV v u
 get:PySem.W.specialIn K u "__get__" = some none
 cp:PySem.W.copiedNames.contains f=false
structure Meth (K:au)(C:ak)(m:Str)(f:ak):Prop where
 at_:PySem.W.findIn K (.ref C) m=some (some<|.ref f)
 fn:PySem.W.isFn K (.ref f)=true
 kp:PySem.W.keepIn K (.ref f)=true
section
variable {X:Cx}{pins:bn}{σ:St}{H:Hp}{s:aC}{A:aA}{E:af->aC->Prop}{Q:af->aC->Prop}{c:af}{b:Bool}
inductive TyOf (K:au) (H:Hp):V->af->Prop where
 | non:TyOf K H .non (.type "NoneType")
 | bl (x:Bool):TyOf K H (.bl x) (.type "bool")
 | int (i:Int):TyOf K H (.int i) (.type "int")
 | str (x:Str):TyOf K H (.str x) (.type "str")
 | flt (x:UInt64):TyOf K H (.flt x) (.type "float")
 | lst {a:ak} {xs:List V} (e:H a=some (.lst xs)):TyOf K H (.ref a) (.type "list")
 | frz {a:ak} {o:Obj} {xs:List V} (e:H a=some (.frz o<|.lst xs)):TyOf K H (.ref a) (.type "list")
 | tup {a:ak} {xs:List V} (e:H a=some (.tup xs)):TyOf K H (.ref a) (.type "tuple")
 | dK {a:ak} {kvs:List<|Key×V} (e:H a=some (.dK kvs)):TyOf K H (.ref a) (.type "dict")
 | dT {a:ak} {kvs:List<|List Key×V} (e:H a=some (.dT kvs)):TyOf K H (.ref a) (.type "dict")
 | ins {a C dx:ak} {fs:List<|Str×V} (e:H a=some (.ins C dx fs)) (cl:Cls K C) (ha:PySem.W.findIn K (.ref C) "__class__" = some (some<|.builtin "object.__class__"))
   (hn:PySem.W.specialIn K (.builtin "object.__class__") "__get__" = some (some<|.builtin "getset_descriptor.__get__")) (htk:PySem.W.takesIn K (.builtin "object.__class__")=some true)
   (hm:PySem.W.mroIn K C (.type "object")=some true):TyOf K H (.ref a)<|.ref C
def MR{x:V}{t:af}(I:Inv X pins σ H s)(rx:RelV x u)(ty:TyOf X.K H x t)(e:PySem.W.kitOne X.K t c=some b)(h:∀tk,Q (.bool b) { s with toks:=tk }) :
  wpAny (model X.prog X.w) A (call (.builtin "isinstance") [u,c]) Q E s:=by
 cases ty with
 | non=>cases(show u=Value.none from rx);exact cW PySem.W.kitx_none I.DL True.intro e (λz=>nomatch z) h
 | bl y=>cases(show u=Value.bool y from rx);exact cW PySem.W.kitx_bool I.DL True.intro e (λz=>nomatch z) h
 | int i=>obtain⟨t,q⟩:=(show ∃t,u=Value.int i t from rx);cases q;exact cW PySem.W.kitx_int I.DL True.intro e (λz=>nomatch z) h
 | str y=>obtain⟨t,q⟩:=(show ∃t,u=Value.str y t from rx);cases q;exact cW PySem.W.kitx_str I.DL True.intro e (λz=>nomatch z) h
 | flt y=>obtain⟨t,q⟩:=(show ∃t,u=Value.float y t from rx);cases q;exact cW PySem.W.kitx_float I.DL True.intro e (λz=>nomatch z) h
 | @lst a xs d=>
  cases(show u=Value.ref a from rx)
  obtain⟨_,_,n,_,h1⟩:=(show lE X.prog X.w H s.heap a (.lst xs)from I.hok a _ d);exact cW PySem.W.kitx_list I.DL ⟨_,h1,rfl⟩ e (λz=>nomatch z) h
 | @frz a ob xs d=>
  cases(show u=Value.ref a from rx)
  obtain⟨_,_,_,n,_,h1⟩:=(show lE X.prog X.w H s.heap a (.frz ob<|.lst xs)from I.hok a _ d);exact cW PySem.W.kitx_list I.DL ⟨_,h1,rfl⟩ e (λz=>nomatch z) h
 | @tup a xs d=>
  cases(show u=Value.ref a from rx)
  obtain⟨_,_,_,p⟩:=(show lE X.prog X.w H s.heap a (.tup xs)from I.hok a _ d);obtain⟨o,h1,h2,_⟩:=p;exact cW PySem.W.kitx_tuple I.DL ⟨o,h1,h2⟩ e (λz=>nomatch z) h
 | @dK a kvs d=>
  cases(show u=Value.ref a from rx)
  obtain⟨_,_,B,_,p⟩:=(show lE X.prog X.w H s.heap a (.dK kvs)from I.hok a _ d);obtain⟨o,es,ep,h1,h2,_⟩:=p;exact cW PySem.W.kitx_dict I.DL ⟨o,h1,h2.1⟩ e (λz=>nomatch z) h
 | @dT a kvs d=>
  cases(show u=Value.ref a from rx)
  obtain⟨_,_,xs,_,o,es,ep,h1,h2,_⟩:=(show lE X.prog X.w H s.heap a (.dT kvs)from I.hok a _ d);exact cW PySem.W.kitx_dict I.DL ⟨o,h1,h2.1⟩ e (λz=>nomatch z) h
 | @ins a C dx fs d g ha hn f j=>
  cases(show u=Value.ref a from rx)
  obtain⟨D,O,_⟩:=Tu I.hok d;obtain⟨k,J,_⟩:=O.look;exact cW (PySem.W.kitx_own (g.get _) g.hd ha hn f j) I.DL J e (λz=>nomatch z) h
end
structure Room (k:Nat)(A:aA):Prop where
 hd:A.handled=none
 dp:A.depth+3 * k+5<recursionLimit
 un:A.units+16 * k+200<cLine
 gs:A.guards=some []
def Room.mono{k:Nat}{A:aA}(r:Room k A)(h:j<=k):Room j A:=⟨r.hd,by have:=r.dp;lia,by have:=r.un;lia,r.gs⟩
def Room.deeper{k:Nat}{A:aA}(r:Room (k+1) A)(env:Env):Room k (A.deeper env):=
 ⟨r.hd,by have:=r.dp;show A.depth+1+3 * k+5<_;lia,by have:=r.un;show A.units+3+16 * k+200<_;lia,r.gs⟩
def Room.depth{k:Nat}{A:aA}(r:Room k A):A.depth<recursionLimit:=by have:=r.dp;lia
def Room.units{k:Nat}{A:aA}(r:Room k A):A.units+64<cLine:=by have:=r.un;lia
abbrev adX:TA:=λ_ H Q=>Q [] H
abbrev abi (ta:TE)(tr:TA):TA:=λσ H Q=>ta σ H λx H1=>tr σ H1 λxs H2=>Q (x::xs) H2
section
variable {X:Cx}{e:aE}{es:List aE}{te:TE}{t:TA}{pos:Pos}
def Bs:PA X [] adX:=λ_ _ _ _ H Q I h=>Calls.spliced_nil ⟨[],H,I,.nil,h⟩
def vV(ha:PE X e te)(hr:PA X es t)(hs:starEach (e::es) X.env=(false,eval e X.env)::starEach es X.env<|>ε):PA X (e::es) (abi te t):=by
 intro pos pins s σ H Q I h;rw[hs]
 skip
 refine Calls.spliced_cons<|nq (ha pins s σ H _ I h) λu f ⟨x,H1,k,r1,j⟩=>?_;exact nq (hr pos pins f σ H1 _ k j) λus p ⟨xs,H2,g,r2,d⟩=>⟨x::xs,H2,g,.cons r1 r2,d⟩
abbrev ac0 (t:TA):TE:=λσ H Q=>t σ H λxs H1=>xs.length<=sizeLine/\∀p,H1 p=none->Q (.ref p) (upd H1 p<|.tup xs)
abbrev adv (t:TA):TE:=λσ H Q=>t σ H λxs H1=>xs.length<=sizeLine/\∀p,H1 p=none->Q (.ref p) (upd H1 p<|.lst xs)
def Yh{x1}(h:PA X es t):PE X (.Tuple es x1 pos) (ac0 t):=by
 intro pins s σ H Q I hq;refine wpAny_Tuple_spliced (nq (h pos pins s σ H _ I hq) λus d ⟨xs,H1,f,r,z,q⟩=>⟨by rw[<- r.length];exact z,?_⟩);have hf:H1 d.heap.objs.size=none:=f.hok.fresh<|aN _;refine⟨.ref d.heap.objs.size,upd H1 d.heap.objs.size<|.tup xs,f.laid (t':=d.toks) (λb u e=>aQ _ e) (aN _) ?_,rfl,q _ hf⟩;exact⟨z,us,r,⟨_,br _ rfl,rfl,rfl,_,rfl⟩⟩
def W0(h:PA X es t):PE X (.List es pos) (adv t):=by
 intro pins s σ H Q I hq;refine wpAny_List_spliced (nq (h pos pins s σ H _ I hq) λus d ⟨xs,H1,f,r,z,q⟩=>⟨by rw[<- r.length];exact z,?_⟩);have hf:H1 d.heap.objs.size=none:=f.hok.fresh<|aN _;refine⟨.ref d.heap.objs.size,upd H1 d.heap.objs.size<|.lst xs,f.laid (t':=d.toks) (λb u e=>aQ _ e) (aN _) ?_,rfl,q _ hf⟩;exact⟨z,us,0,r,br _ rfl⟩
end
meta abbrev Sp:=List V->Hp->VK->XK->Prop
meta abbrev SH:=List Env->Hp->aC->XK->af->aC->Prop
structure Env0 (P:aj)(w:ah)(K:au)(mg:Str->bd)(base:aq)(A:aA)(outer:List Env)(s:aC)(H:Hp):Prop where
 frames:A.frames=some outer
 mod:Mod K mg base
 bs:∀b o,base.get? b=some o->s.heap.get? b=some o/\H b=none
 bsz:base.objs.size<=s.heap.objs.size
 Ag:s.heap.FunFrames base outer
 frf:∀b∈frs outer,H b=none
 hok:xD P w H s.heap
 bare:AllBare s.gens
abbrev CE (outer:List Env)(P:aj)(w:ah)(H:Hp)(s:aC)(Q:VK)(u:af)(s':aC):Prop:=
 ∃v H',s'.os=s.os/\AllBare s'.gens/\Un (frs outer) [] H H' s.heap s'.heap/\xD P w H' s'.heap/\RelV v u/\Q v H'
abbrev CR (CX:SH)(outer:List Env)(P:aj)(w:ah)(H:Hp)(s:aC)(Q:VK)(E:XK)(r:Result)(s':aC):Prop:=
 match r with
 | .ok (.ret u)=>CE outer P w H s Q u s'
 | .ok _=>False
 | .error e=>CX outer H s E e s'
structure FnOk (P:aj)(w:ah)(K:au)(mg:Str->bd)(base:aq)(CX:SH)(k:Nat)(f:ak)(fd:FuncData)(ps:ar)(sp:Sp):Prop where
 len:∀vs H Q E,sp vs H Q E->vs.length=ps.length
 run:∀(A:aA) (outer:List Env) (s:aC) (H:Hp) (args:Args) (us:ba) (vs:List V) (Q:VK) (E:XK),Room k A->Env0 P w K mg base A outer s H->BindsTo s fd args (ps.zip us)->Vals vs us->sp vs H Q E ->
  codeAny (model P w) A (.call (.ref f) args) (CR CX outer P w H s Q E) s
section
variable {X:Cx}{pins:bn}{σ:St}{H:Hp}{s s':aC}
def Inv.acO(I:Inv X pins σ H s):Env0 X.prog X.w X.K X.mg X.base X.A X.stack s H:=
 ⟨I.ok.frames,I.ok.mod,I.bs,bK I.ok.bsz I.sz,I.stack,I.Ji,I.hok,I.bare⟩
def Inv.after{Q:VK}(I:Inv X pins σ H s)(h:CE X.stack X.prog X.w H s Q u s'):EP X pins σ Q u s':=by
 obtain⟨v,H',os,f,un,k,r,q⟩:=h;obtain⟨p,g,d,t,j⟩:=s';obtain rfl:j=s.os:=os;exact⟨v,H',I.call (h':=p) (g':=g) (d':=d) (t':=t) (ch:=[]) un k f λb z=>absurd z<|by simp,r,q⟩
end
abbrev WM (sp:Sp)(dvs:List V)(E:XK)(t:TA):TE:=λσ H Q=>t σ H λd H1=>sp (d++dvs) H1 Q E
abbrev Binds (K:au)(fd:FuncData)(ps:ar)(ds:ba):Prop:=
 ∀(s:aC) (us:ba),K.In s.heap->(us++ds).length=ps.length->BindsTo s fd ⟨us,[]⟩ (ps.zip<|us++ds)
def Binds.all{K:au}{ps:ar}(h:∀us:ba,us.length=ps.length->bindArgs fd ⟨us,[]⟩=pure (ps.zip us)):Binds K fd ps []:=λs us _ d=>by
 rw[cu]at d ⊢;exact .of_eq<|h us d
abbrev Passes (CX:SH)(X:Cx)(E:XK):Prop:=∀(pins:bn) (σ:St) (H:Hp) (s:aC) (e:af) (s':aC),Inv X pins σ H s->CX X.stack H s E e s'->X.xe e s'
section
variable {X:Cx}{CX:SH}{k:Nat}{f C:ak}{fd:FuncData}{ps:ar}{sp:Sp}{dvs:List V}{ds:ba}{E:XK}{x:Str}{p pos:Pos}{e:aE}{es:List aE}{t:TA}
def W9{H:Hp}{Q:VK}(F:FnOk X.prog X.w X.K X.mg X.base CX k f fd ps sp)(hr:Room k X.A)(hb:Binds X.K fd ps ds)(hd:Vals dvs ds)(hx:Passes CX X E)
  (I:Inv X pins σ H s) (r:Vals vs us) (h:sp (vs++dvs) H Q E):wpAny (model X.prog X.w) X.A (call (.ref f) us) (EP X pins σ Q) X.xe s:=by
 have r2:Vals (vs++dvs) (us++ds):=r.append hd;have d:(us++ds).length=ps.length:=by rw[<- r2.length];exact F.len _ _ _ _ h
 refine wpAny_call (jF (F.run X.A X.stack s H ⟨us,[]⟩ (us++ds) (vs++dvs) Q E hr I.acO (hb s us I.DL d) r2 h) λr s' hq=>?_)
 cases r with
 | error e=>exact hx pins σ H s e s' I hq
 | ok fl=>
  cases fl with
  | ret u=>exact I.after hq
  | next=>exact False.elim hq
  | brk=>exact False.elim hq
  | cont=>exact False.elim hq
def Ur(F:FnOk X.prog X.w X.K X.mg X.base CX k f fd ps sp)(hr:Room k X.A)(hg:Gl X x)(hm:X.mg x=some (.ref f))(hk:PySem.W.keepIn X.K (.ref f)=true)(hb:Binds X.K fd ps ds)(hd:Vals dvs ds)(hx:Passes CX X E)
  (ha:PA X (e::es) t) (hdb:(x == ("__debug__" : Str))=false<|>δ) (he:starEach (e::es) X.env=(false,eval e X.env)::starEach es X.env<|>ε) (hpl:((backTo pos<|starEach es X.env).any (·.1)=false)<|>ε) :
  PE X (.Call (.Name x p) (e::es) [] pos) (WM sp dvs E t):=by
 gn_on;refine jc<|Kc I hg hm ?_ hdb;refine PySem.W.callWith_K (h₀:=X.base) I.ok.mod.kin hk (nq (ha pos pins s σ H _ I h) λus g ⟨d,H1,I1,r,q⟩=>⟨I1.DL,?_⟩) he hpl;exact W9 F hr hb hd hx I1 r q
structure Mk (K:au)(C f:ak):Prop where
 makes:PySem.W.makesIn K C=true
 init:PySem.W.findIn K (.ref C) "__init__" = some (some<|.ref f)
 fn:PySem.W.isFn K (.ref f)=true
 kp:PySem.W.keepIn K (.ref C)=true
end
section
variable {fd:FuncData}{ps ks:ar}
structure KBinds (K:au)(fd:FuncData)(ps ks:ar)(g:ba->ba->ba)(gV:List V->List V->List V):Prop where
 to:∀(s:aC) (us ws:ba),K.In s.heap->(g us ws).length=ps.length->BindsTo s fd ⟨us,ks.zip ws⟩ (ps.zip<|g us ws)
 rel:∀{vs:List V} {us:ba} {zs:List V} {ws:ba},Vals vs us->Vals zs ws->Vals (gV vs zs) (g us ws)
end
structure FnScope (N P:ar)(sc:Scope):Prop where
 kind:sc.kind=.function
 co:sc.isCoroutine=false
 gen:sc.isGenerator=false
 nd:N.Nodup
 pre:N.take P.length=P
 par:∀x∈P,sc.names.lookup x=some .local\/sc.names.lookup x=some .cell
 nofree:∀y∈sc.names,y.2≠.free
theorem BX{kindOf:Str->Option NameKind}{x:Str}:∀{binds:List<|Str×af}{m:Str->bd},(∀v,(x,v)∉binds)->bindL kindOf binds m x=m x
 | [],_,_=>rfl
 | (n,v)::r,m,h=>by
  unfold bindL;rw[BX λw hw=>h w<|aO _ hw];split
  ·have:x≠n:=by rintro rfl;exact h v aL
   simp[this]
  ·rfl
theorem CB{kindOf:Str->Option NameKind}{x:Str}:∀{binds:List<|Str×af}{m:Str->bd},(∀v,(x,v)∉binds)->bindC kindOf binds m x=m x
 | [],_,_=>rfl
 | (n,v)::r,m,h=>by
  unfold bindC;rw[CB λw hw=>h w<|aO _ hw];split
  ·rfl
  ·have:x≠n:=by rintro rfl;exact h v aL
   simp[this]
theorem Cp{kindOf:Str->Option NameKind}{x:Str}{v:af}:∀{P:ar}{vs:ba}{i:Nat}{m:Str->bd},P.Nodup->P[i]?=some x->vs[i]?=some v->kindOf x=some .local ->
  bindL kindOf (P.zip vs) m x=some v
 | [],_,_,_,_,h,_,_=>by simp at h
 | _::_,[],_,_,_,_,h,_=>by simp at h
 | p::P,w::vs,0,m,nd,h1,h2,hk=>by
  simp at h1 h2;subst h1;subst h2;show bindL kindOf ((p,w)::P.zip vs) m p=_;unfold bindL;rw[BX λv hv=>(bT.mp nd).1 (jK hv).1,aW hk];simp
 | p::P,w::vs,i+1,m,nd,h1,h2,hk=>by
  skip
  unfold bindL;exact Cp (i:=i) (bT.mp nd).2 (by simpa using h1) (by simpa using h2) hk
theorem Cr{kindOf:Str->Option NameKind}{x:Str}{v:af}:∀{P:ar}{vs:ba}{i:Nat}{m:Str->bd},P.Nodup->P[i]?=some x->vs[i]?=some v->kindOf x≠some .local ->
  bindC kindOf (P.zip vs) m x=some v
 | [],_,_,_,_,h,_,_=>by simp at h
 | _::_,[],_,_,_,_,h,_=>by simp at h
 | p::P,w::vs,0,m,nd,h1,h2,hk=>by
  simp at h1 h2;subst h1;subst h2;show bindC kindOf ((p,w)::P.zip vs) m p=_;unfold bindC;rw[CB λv hv=>(bT.mp nd).1 (jK hv).1,aV hk];simp
 | p::P,w::vs,i+1,m,nd,h1,h2,hk=>by
  skip
  unfold bindC;exact Cr (i:=i) (bT.mp nd).2 (by simpa using h1) (by simpa using h2) hk
abbrev start (N:ar)(vs:List V):St:=vs.map some++List.replicate (N.length-vs.length) none
abbrev Hw (CX:SH)(P:aj)(w:ah)(K:au)(mg:Str->bd)(base:aq)(N:ar)(qual:Str)(scope:Scope)(f:ak)(cd:af)(A:aA)(outer:List Env)(s:aC)(H:Hp)(E:XK):Cx where
 prog:=P
 w:=w
 K:=K
 mg:=mg
 base:=base
 A:=A.deeper (envOfC qual scope s.heap.objs.size f cd)
 N:=N
 s₀:=s
 H₀:=H
 env:=envOfC qual scope s.heap.objs.size f cd
 outer:=outer
 stack:=envOfC qual scope s.heap.objs.size f cd::outer
 ex:=[]
 calm:=true
 fn:=λ_=>true
 pn:=[]
 xe:=λe s'=>wpAny (model P w) (A.deeper<|envOfC qual scope s.heap.objs.size f cd) (leaving (envOfC qual scope s.heap.objs.size f cd) e) (λ_ d=>CX outer H s E e d) (λg d=>CX outer H s E g d) s'
def EK{sc:Scope}{n:Nat}{x:Str}(h:sc.names.lookup x=some .cell):∃c,(cellsFrom n sc.names []).lookup x=some c:=by
 have q:=fM sc.names n []<|.inl h;exact dF.mp q
def MD{CX:SH}{P:aj}{w:ah}{K:au}{mg:Str->bd}{base:aq}{N ps:ar}{scope:Scope}{f:ak}{A:aA}{outer:List Env}{s:aC}{H:Hp}{E:XK}{vs:List V}
  (S:FnScope N ps scope) (hd:A.handled=none) (e0:Env0 P w K mg base A outer s H) (hl:vs.length=ps.length) (r:Vals vs us)
  (x:InCallC s s.heap.objs.size (bindL (envOfC qual scope s.heap.objs.size f cd).kindOf (ps.zip us) λ_=>none) (cellsFrom (s.heap.objs.size+1) scope.names []) (bindC (envOfC qual scope s.heap.objs.size f cd).kindOf (ps.zip us) λ_=>none) s1) :
  Inv (Hw CX P w K mg base N qual scope f cd A outer s H E) [] (start N vs) H s1:=by
 have D:ps.length<=N.length:=by have:=cV List.length S.pre;rw[b9]at this;lia
 obtain⟨h1,G,rfl,B⟩:=x.done;have d:∀b:ak,b∉(Hw CX P w K mg base N qual scope f cd A outer s H E).ex:=λb z=>absurd (show b∈([]:bb)from z) (by simp);refine⟨⟨e0.mod,S.kind,rfl,rfl,aN _,λy z c h1 h2=>?_,λy hy=>?_,λy c _ h=>?_,λ_=>hd,Around.frames_deeper e0.frames,.inr ⟨rfl,rfl⟩,λb z=>absurd z<|d b,e0.bs,e0.bsz,λb _ _=>d b,λb z=>absurd z<|d b,e0.Ag,e0.frf⟩,
  rfl,e0.bare,Un.kept B,⟨_,x.toInCall.ns,λi y v h1 h2 h3=>?_⟩,λy c h=>⟨_,x.cell y c h⟩,e0.hok.fresh<|aN _,λy c h=>?_,λp j=>absurd (show p∈([]:bn)from j)<|by simp,e0.hok.kept B,?_⟩
 ·exact name_of_addr x.apart (c6 h1) (c6 h2)
 ·have hy:scope.names.lookup y=some .cell\/scope.names.lookup y=some .free:=hy
  rcases hy with hy|hy
  ·exact EK hy
  ·exact absurd rfl<|S.nofree _<|c6 hy
 ·exact dX (x.above y c<|c6 h)
 ·have t:i<vs.length:=by
   unfold start at h2;by_cases t:i<vs.length
   ·exact t
   ·rw[jd<|by simpa using t]at h2;rw[List.getElem?_replicate]at h2;split at h2<;>cases h2
  have ha:vs[i]?=some v:=by
   unfold start at h2;rw[bu<|by simpa using t,aR]at h2
   cases e:vs[i]? with
   | none=>rw[e]at h2;cases h2
   | some a=>rw[e]at h2;cases h2;rfl
  obtain⟨u,C,F⟩:=r.get ha;have j:ps[i]?=some y:=by
   rw[<- S.pre,List.getElem?_take_of_lt ()];exact h1
  have g:ps.Nodup:=by rw[<- S.pre];exact S.nd.sublist (List.take_sublist _ _)
  refine⟨u,F,?_⟩
  rcases S.par y (aZ j)with k|k
  ·exact .inl ⟨k,Cp g j C k⟩
  ·obtain⟨c,e⟩:=EK (n:=s.heap.objs.size+1) k;refine .inr ⟨.inl k,c,e,?_⟩;have q:=x.cell y c e;rw[Cr g j C<|by show scope.names.lookup y≠_;rw[k];decide]at q;exact q
 ·exact e0.hok.fresh (dX<|x.above y c<|c6 h)
 ·unfold start;show _=N.length;rw[bh,aH,List.length_replicate]
  lia
def aaX{CX:SH}{P:aj}{w:ah}{K:au}{mg:Str->bd}{base:aq}{k:Nat}{f:ak}{kV pm ct:af}
  {osl:Array<|bd} {N ps:ar} {sp:Sp} (lk:K.lookup f=some ⟨oc,od,.func<|PySem.W.fnOf name qual params body scope dV kV doc pm an cdv ct,osl⟩) (hcd:PySem.W.codeIn K cdv qual=true) (S:FnScope N ps scope)
  (len:∀vs H Q E,sp vs H Q E->vs.length=ps.length)
  (hbody:∀(A:aA) (outer:List Env) (s:aC) (H:Hp) (vs:List V) (Q:VK) (E:XK),Room k (A.deeper<|envOfC qual scope s.heap.objs.size f cdv)->sp vs H Q E ->
   ∃t,CY (Hw CX P w K mg base N qual scope f cdv A outer s H E) body t/\t { nx:=λ_ H'=>Q .non H',rt:=Q } (start N vs) H) :
  FnOk P w K mg base CX (k+1) f (PySem.W.fnOf name qual params body scope dV kV doc pm an cdv ct) ps sp:=by
 refine⟨len,λA outer s H F us vs Q E D e0 hb r p=>?_⟩;have M:=len _ _ _ _ p;have L:K.In s.heap:=e0.mod.kin.keeps λb o e=>(e0.bs b o e).1;have C:s.heap.NoLimit:=e0.mod.nolimit.keeps λb o e=>(e0.bs b o e).1;have g:∀y∈ps.zip us,scope.names.lookup y.1=some .local\/(scope.names.lookup y.1=some .cell/\((cellsFrom (s.heap.objs.size+1) scope.names []).lookup y.1).isSome=true):=λ⟨n,v⟩ hy=>by
  rcases S.par n (jK hy).1 with q|q
  ·exact .inl q
  ·exact .inr ⟨q,fM _ _ _<|.inl q⟩
 refine codeAny_call_function D.depth (L _ _ lk) rfl S.co S.gen rfl (PySem.W.codeRec_of L hcd)<|hb _ _ _ _ ?_;refine wpAny_newFunctionEnv_cells S.kind g λenv T G x=>?_;subst T;refine⟨C.keeps x.toInCall.keep,codeAny_func ?_⟩;obtain⟨t,O,hq⟩:=hbody A outer s H vs Q E (D.deeper _) p;have I:Inv (Hw CX P w K mg base N qual scope f cdv A outer s H E) [] (start N vs) H G:=MD S D.hd e0 M r x;refine fL (O [] G (start N vs) H _ I hq) (λfl s' hs=>?_) λe s' hs=>hs;have j:∀{d:St} {H':Hp} {v:V} {u:af},Inv (Hw CX P w K mg base N qual scope f cdv A outer s H E) [] d H' s'->RelV v u->Q v H'->CE outer P w H s Q u s':=
  λ{d H' v u} J B q=>⟨v,H',J.os,J.bare,J.base,J.hok,B,q⟩
 cases fl with
 | ret u=>
  obtain⟨v,d,H',J,B,q⟩:=hs;exact j J B q
 | next=>
  obtain⟨d,H',J,q⟩:=hs;exact j (v:=V.non) (u:=Value.none) J rfl q
 | brk=>
  obtain⟨_,_,_,q⟩:=hs;exact False.elim q
 | cont=>
  obtain⟨_,_,_,q⟩:=hs;exact False.elim q
section
variable {X:Cx}{x:Str}{p pos:Pos}{e:aE}{es:List aE}{t:TA}{id T:String}{r:List V->Hp->VK->Prop}
abbrev tCB (r:List V->Hp->VK->Prop)(t:TA):TE:=λσ H Q=>t σ H λd H1=>r d H1 Q
def FT(hc:kM X (.builtin id) r)(hg:Gl X x)(hm:X.mg x=none)(hv:bootBuiltins x=some (.builtin id))(ha:PA X (e::es) t)(hn:x ≠ "__name__"<|>δ)(hdb:(x == ("__debug__" : Str))=false<|>δ)
  (he:starEach (e::es) X.env=(false,eval e X.env)::starEach es X.env<|>ε) (hpl:((backTo pos<|starEach es X.env).any (·.1)=false)<|>ε):PE X (.Call (.Name x p) (e::es) [] pos) (tCB r t):=by
 gn_on;refine jc<|yX I hg hm hv ?_ hn hdb;exact PyProof.Rows.callWith_builtin1 (nq (ha pos pins s σ H _ I h) λus g ⟨f,H1,d,r1,j⟩=>hc pins g σ H1 f us Q d r1 j) he hpl
def Ls(hc:kM X (.type T) r)(hg:Gl X x)(hm:X.mg x=none)(hv:bootBuiltins x=some (.type T))(ha:PA X (e::es) t)(hn:x ≠ "__name__"<|>δ)(hdb:(x == ("__debug__" : Str))=false<|>δ)
  (he:starEach (e::es) X.env=(false,eval e X.env)::starEach es X.env<|>ε) (hpl:((backTo pos<|starEach es X.env).any (·.1)=false)<|>ε):PE X (.Call (.Name x p) (e::es) [] pos) (tCB r t):=by
 gn_on;refine jc<|yX I hg hm hv ?_ hn hdb;exact eN (nq (ha pos pins s σ H _ I h) λus g ⟨f,H1,d,r1,j⟩=>hc pins g σ H1 f us Q d r1 j) he hpl
end
end L2
namespace HT
open PySem PyProof.Rows
abbrev lexLt:ag->ag->Bool
 | [],[]=>false
 | [],_::_=>true
 | _::_,[]=>false
 | x::xs,y::ys=>if x=y then lexLt xs ys else decide (x<y)
def rQ(x y:Int)(xs ys:ag):lexLt (x::xs) (y::ys)=if x=y then lexLt xs ys else decide (x<y):=rfl
def qb:lexLt [] []=false:=rfl
def nE(y:Int)(ys:ag):lexLt [] (y::ys)=true:=rfl
def pB(x:Int)(xs:ag):lexLt (x::xs) []=false:=rfl
def NI(A:aA)(s:aC)(a:Int)(t:Tok)(c:Int)(u:Tok):∃e,SeqAt.EqAt A s (.int a t) (.int c u) e/\(e=true ↔ a=c):=
 ⟨(a == c),je a t c u,by simp⟩
def O1(A:aA)(s:aC)(a:Int)(t:Tok)(c:Int)(u:Tok)(prog:aj)(w:ah)(E:af->aC->Prop)(Q:af->aC->Prop)(h:Q (.bool<|decide<|a<c) s) :
  wpAny (model prog w) A (richCompare .Lt (.int a t)<|.int c u) Q E s:=
 (PyProof.Rows.lt_int h:wpAny (model prog w) A (compareOp .Lt (.int a t)<|.int c u) Q E s)
section
open PySem.SeqAt
open PySem.AutoSeq1 (wpAny_loadPart')
open PySem.MeetsSeq PySem.MeetsSeq2 PySem.MeetsSeq3
def BE(l b:ak)(items items2:Array af)(n n2:Nat)(dd dd2:Option ak)(sl sl2:Array<|bd)(ns ms:ag)(hi:IntsAre items.toList ns)(hj:IntsAre items2.toList ms) :
  Meets (Builtin.«tuple.__lt__» ⟨[.ref l,.ref b],[]⟩)
   (λ_ R s=>s.heap.get? l=some { cls:=.type "tuple",dict:=dd,data:=.seq items n,slots:=sl }/\s.heap.get? b=some { cls:=.type "tuple",dict:=dd2,data:=.seq items2 n2,slots:=sl2 } /\
    R (.ok<|.ret<|.bool<|lexLt ns ms) s):=
 .of_wp λprog w A R s h=>by
  obtain⟨O,g,d,T,M⟩:=s;obtain⟨Y,hb,h⟩:=h;have f2:=AutoSeq1.sub_tuple_tuple;have z1:items.size=ns.length:=by rw[<- hi.length];simp
  have z2:items2.size=ms.length:=by rw[<- hj.length];simp
  wp_walk using cX Y,cX hb,fF _ (λrest b s'=>b.1=none/\s'=⟨O,g,d,T,M⟩/\∃(P N:ba) (k j:ag),rest=P.zip N /\
   IntsAre P k/\IntsAre N j/\k.length+items2.size=j.length+items.size/\R (.ok<|.ret<|.bool<|lexLt k j) ⟨O,g,d,T,M⟩) _
  case turn=>
   rintro⟨y,x⟩ rest b s' ⟨G,rfl,P,N,k,j,B,F,p,f,D⟩
   cases F with
   | nil=>rw[List.zip_nil_left]at B;cases B
   | cons a t K=>
    cases p with
    | nil=>rw[List.zip_nil_right]at B;cases B
    | cons c u L=>
     rw[jf]at B
     injection B with V J
     injection V with hy W
     subst hy W;rw[rQ]at D;dsimp[bB]at f;obtain⟨e,Z,C⟩:=NI A.in1 ⟨O,g,d,T,M⟩ a t c u;refine aG (Z prog w _ _ ?_)
     cases e with
     | true=>
      rw[aW<|C.mp rfl]at D
      wp_walk
      exact⟨rfl,rfl,_,_,_,_,J,K,L,(),D⟩
     | false=>
      rw[aV λq=>absurd (C.mpr q) bw]at D;have U:=O1 A.in1 ⟨O,g,d,T,M⟩ a t c u prog w
      wp_walk using U
      exact⟨_,rfl,by simpa using D⟩
  case fin=>
   rintro⟨b1,b2⟩ s' ⟨G,rfl,P,N,k,j,B,F,p,f,D⟩;simp only at G;subst G;have hv:lexLt k j=decide (items.size<items2.size):=by
    cases F with
    | nil=>
     cases p with
     | nil=>
      dsimp[ez]at f;rw[qb];exact(bz ()).symm
     | cons c u hw=>
      dsimp[ez,bB]at f;rw[nE];exact(bf ()).symm
    | cons a t hv=>
     cases p with
     | nil=>
      dsimp[ez,bB]at f;rw[pB];exact(bz ()).symm
     | cons c u hw=>
      rw[jf]at B
      cases B
   rw[hv]at D
   wp_walk
   exact⟨_,rfl,by simpa[Builtin.Tuple.tupleCompareSizes]using D⟩
  case h=>
   exact⟨rfl,rfl,items.toList,items2.toList,ns,ms,rfl,hi,hj,(),h⟩
end
section
variable {prog:aj}{w:ah}{A:aA}{E:af->aC->Prop}{s:aC}
def HF{l:ak}{items items2:Array af}{ns:ag}{Q:af->aC->Prop}(hl:IsTup s.heap l items)(hb:IsTup s.heap b items2)(hi:IntsAre items.toList ns)(hj:IntsAre items2.toList ms)
  (hu:A.units<cLine) (h:Q (.bool<|lexLt ns ms) s):wpAny (model prog w) A (compareOp .Lt (.ref l)<|.ref b) Q E s:=by
 obtain⟨⟨cls,D,data,G⟩,B,hc,n,t⟩:=id hl;obtain⟨⟨q,k,p,j⟩,d,f,C,g⟩:=id hb;simp only at hc t f g;subst hc t f g;exact richCompare_meets_room (op:=.Lt) ⟨_,B,rfl⟩ ⟨_,d,rfl⟩ PySem.F.slot_tuple_lt PySem.F.entry_tuple_lt (PySem.F.args_tuple_lt_2 _ _) (BE l b items items2 n C D k G j ns ms hi hj)
  ⟨B,d,show Value.bool (lexLt ns ms)≠Value.notImplemented/\Q (.bool<|lexLt ns ms) s from⟨(λx=>nomatch x),h⟩⟩ hu
def SQ{t:ak}{vs ws:ba}{Q:af->aC->Prop}(ht:IsTup s.heap t vs.toArray)(hb:IsTup s.heap b ws.toArray)(hv:vs≠[])
  (h1:ws=[]->Q (.ref t) s) (h2:ws≠[]->Q (.ref s.heap.objs.size) { s with heap:=s.heap.push { cls:=.type "tuple",data:=.seq (vs++ws).toArray }})
  (hsz:vs.length+ws.length<=sizeLine):wpAny (model prog w) A (binaryOp .Add (.ref t)<|.ref b) Q E s:=by
 obtain⟨⟨cls,F,data,G⟩,p,hc,n,D⟩:=id ht;obtain⟨⟨C,j,q,f⟩,d,g,B,k⟩:=id hb;simp only at hc D g k;subst hc D g k;have e:vs.toArray++ws.toArray=(vs++ws).toArray:=by simp
 by_cases hw:ws=[]
 ·exact concat_meets ⟨_,p,rfl⟩ ⟨_,d,rfl⟩ noFill_tuple_add seq_tuple_add gW gQ (gF _ _)
   (tuple_addW1 t b vs.toArray ws.toArray n B F j G f (by simpa using hv)<|by simp[hw]) ⟨p,d,h1 hw⟩
 ·refine concat_meets ⟨_,p,rfl⟩ ⟨_,d,rfl⟩ noFill_tuple_add seq_tuple_add gW gQ (gF _ _)
   (tuple_addW2 t b vs.toArray ws.toArray n B F j G f (by simpa using hv) (by simpa using hw)<|by rw[aX,aX];exact hsz) ⟨p,d,?_⟩
  rw[e];exact h2 hw
abbrev sIx (n d:Nat):Option Int->Nat
 | none=>d
 | some v=>if v<0 then(v+(n:Int)).toNat else min v.toNat n
end
end HT
namespace L2
open PySem PySem.Spec PyProof.Rows
meta abbrev TO:=St->Hp->(Option Int->Hp->Prop)->Prop
def intsAre_of{ns:ag}:∀{us:ba},Vals (ns.map V.int) us->IntsAre us ns:=by
 induction ns with
 | nil=>intro us r;rw[fN]at r;cases r;exact .nil
 | cons n ns d=>
  intro us r;rw[bC]at r
  cases r with
  | cons r1 r2=>
   obtain⟨t,e⟩:=r1;subst e;exact .cons n t<|d r2
section
variable {X:Cx}{p2:Pos}
abbrev abo (K:au):R2:=λx y H Q=>∃a b xs ys,x=.ref a/\y=.ref b/\nh K H a xs/\nh K H b ys/\xs≠[]/\xs.length+ys.length<=sizeLine /\
 (ys=[]->Q (.ref a) H)/\(ys≠[]->∀p,H p=none->Q (.ref p) (upd H p<|.tup<|xs++ys))
def Vals.Ew(r:Vals xs us):us=[] ↔ xs=[]:=by
 cases r with
 | nil=>simp
 | cons _ _=>simp
def TZ:oR X (binaryOp .Add) (abo X.K):=by
 kpf_c;obtain⟨a,b,xs,ys,rfl,rfl,ha,hb,g,f,p,j⟩:=h
 cases rx
 cases ry
 obtain⟨k,r1,p1,_⟩:=I.tuple ha;obtain⟨d,r2,p2,_⟩:=I.tuple hb;refine HT.SQ p1 p2 (λz=>g<|r1.Ew.mp z) (λz=>⟨.ref a,H,I,rfl,p<|r2.Ew.mp z⟩) (λz=>?_) (by rw[<- r1.length,<- r2.length];exact f);refine⟨.ref s.heap.objs.size,_,I.laid (t':=s.toks) (o:=.tup<|xs++ys) (λb ob q=>aQ _ q) (aN _) ?_,rfl,j (λw=>z<|r2.Ew.mpr w) _<|I.hok.fresh<|aN _⟩;exact⟨by rw[bh];exact f,_,r1.append r2,rR.new _ _⟩
end
abbrev EB (n:Nat)(i:Int):bj:=if 0<=i then(if i<n then some i.toNat else none)else if -(n:Int)<=i then some (i+n).toNat else none
abbrev uZ {α:Type}(xs:List α)(i:Int):Option α:=(EB xs.length i).bind λj=>xs[j]?
def K6{n:Nat}{i:Int}(h:EB n i=some j):seqIndex? i n=some j/\j<n/\-(n:Int)<=i/\i<n:=by
 unfold EB at h;by_cases h0:0<=i
 ·rw[aW h0]at h;by_cases h1:i<n
  ·rw[aW h1]at h;have e:i.toNat=j:=bg h;exact⟨by rw[seqIndex_of h0 h1,e],(),(),h1⟩
  ·rw[aV h1]at h;cases h
 ·rw[aV h0]at h;by_cases h1:-(n:Int)<=i
  ·rw[aW h1]at h;have e:(i+n).toNat=j:=bg h;exact⟨by rw[seqIndex_neg () h1,e],(),h1,()⟩
  ·rw[aV h1]at h;cases h
def DU{α:Type}{xs:List α}{i:Int}{v:α}(h:uZ xs i=some v):∃j,seqIndex? i xs.length=some j/\xs[j]?=some v/\j<xs.length/\-(xs.length:Int)<=i/\i<xs.length:=by
 unfold uZ at h
 cases e:EB xs.length i with
 | none=>rw[e]at h;cases h
 | some j=>
  rw[e]at h;obtain⟨h1,h2,h3,d⟩:=K6 e;exact⟨j,h1,h,h2,h3,d⟩
def TF{α:Type}{xs:List α}{j:Nat}{v:α}(h:xs[j]?=some v):uZ xs (j:Int)=some v:=by
 have d:j<xs.length:=(aJ.mp h).1;have e:EB xs.length (j:Int)=some j:=by
  unfold EB;rw[aW (),aW ()];simp
 unfold uZ;rw[e];exact h
abbrev xN (b:aE):Prop:=∀o i,subscripted b false o i=operate [o,i] (getItem o i)
abbrev UA (X:Cx)(r:R2):Prop:=
 ∀(f d:aE) (pins:bn) (s:aC) (σ:St) (H:Hp) (x y:V) (v u:af) (Q:VK),Inv X pins σ H s->RelV x v->RelV y u->r x y H Q ->
  subscripted d false v u=operate [v,u] (getItem v u)->wpAny (model X.prog X.w) X.A (subscriptTail f d v u) (EP X pins σ Q) X.xe s
abbrev E_ (X:Cx)(id:String)(r:V->List V->Hp->VK->Prop):Prop:=
 ∀(pins:bn) (s:aC) (σ:St) (H:Hp) (x:V) (xs:List V) (v:af) (us:ba) (Q:VK),Inv X pins σ H s->RelV x v->Vals xs us->r x xs H Q ->
  wpAny (model X.prog X.w) X.A (call (.builtin id) (v::us)) (EP X pins σ Q) X.xe s
section
variable {X:Cx}{a b:aE}{ta tb:TE}{pos:Pos}
def Jj{r:R2}(hr:UA X r)(ha:PE X a ta)(hb:PE X b tb)(hs:xN b):PE X (.Subscript a b pos) (tOp r ta tb):=by
 gn_on;exact Subscript_<|Y0 ha hb I h λv u f x y H2 d rx ry q=>hr a b pins f σ H2 x y v u Q d rx ry q<|hs _ _
abbrev adu (K:au):R2:=λx y H Q=>∃p xs i v,x=.ref p/\y=.int i/\oS K H p xs/\uZ xs i=some v/\Q v H
abbrev ac8 (K:au):R2:=λx y H Q=>∃p xs i v,x=.ref p/\y=.int i/\nh K H p xs/\uZ xs i=some v/\Q v H
abbrev acR:R2:=λx y H Q=>∃z i c,x=.str z/\y=.int i/\z.length<=sizeLine/\uZ z.cps.toList i=some c/\Q (.str ⟨#[c]⟩) H
def Lg:UA X (adu X.K):=by
 intro f C pins s σ H x y v u Q I rx ry h hs;obtain⟨p,xs,i,z,rfl,rfl,hq,J,q⟩:=h
 cases rx
 obtain⟨t,rfl⟩:=ry;obtain⟨B,r,pl,M⟩:=I.list hq;obtain⟨j,h1,h2,h3,F,L⟩:=DU J;obtain⟨w,D,k⟩:=r.get h2;have G:=r.length;have hn:=xh;have d:EP X pins σ Q w s:=⟨z,H,I,k,q⟩;by_cases h0:0<=i
 ·have g:i.toNat=j:=by
   rw[seqIndex_of h0 L]at h1;exact bg h1
  exact item_listR pl.isList h0 () (by rw[g];simpa using D) d hs
 ·have g:(i+(B.toArray.size:Int)).toNat=j:=by
   rw[seqIndex_neg () F]at h1;rw[aX,<- G];exact bg h1
  exact subscriptTail_builtinR (x:=w) pl.isList.typeIs slot_list_getitem.lookup
   (wpAny_getItem_list_neg (Q:=λr s'=>r=w/\EP X pins σ Q r s') pl.isList () (by rw[aX]<;>lia) () (by rw[g];simpa using D) ⟨rfl,d⟩) hs
def Zv:UA X (ac8 X.K):=by
 intro f k pins s σ H x y v u Q I rx ry h hs;obtain⟨p,xs,i,z,rfl,rfl,hq,D,q⟩:=h
 cases rx
 obtain⟨t,rfl⟩:=ry;obtain⟨F,r,pl,L⟩:=I.tuple hq;obtain⟨j,h1,h2,h3,G,J⟩:=DU D;obtain⟨w,C,g⟩:=r.get h2;have B:=r.length;have hn:=xh;have d:EP X pins σ Q w s:=⟨z,H,I,g,q⟩;exact subscriptTail_builtinR (x:=w) pl.typeIs slot_tuple_getitem.lookup
  (getItem_tuple (j:=j) (Q:=λr s'=>r=w/\EP X pins σ Q r s') pl () () (by rw[aX,<- B];exact h1) (by simpa using C) ⟨rfl,d⟩) hs
def Zk:UA X acR:=by
 intro d f pins s σ H x y v u Q I rx ry h hs;obtain⟨z,i,c,rfl,rfl,D,p,q⟩:=h;obtain⟨t,rfl⟩:=rx;obtain⟨C,rfl⟩:=ry;obtain⟨j,h1,h2,h3,g,B⟩:=DU p;have k:z.cps.toList.length=z.length:=by simp[Str.length]
 rw[k]at h1 g B;have hn:=xh;exact tail_any (typeIs_str s z t) slot_str_getitem.lookup (getItem_str (c:=c) (by
  have e1:decide (i < -(2 ^ 63:Int))=false:=bz ();have e2:decide (i>=2 ^ 63)=false:=bz ();rw[e1,e2,Bool.or_false]) (by rw[h1];simpa using h2) ⟨.str ⟨#[c]⟩,H,I.tok _,⟨_,rfl⟩,q⟩) hs
def GN(its:ba)(n j:Nat)(u:af):Obj.mapSeq (·.setIfInBounds j u) { cls:=.type "list",data:=.seq its.toArray n }={ cls:=.type "list",data:=.seq (its.set j u).toArray n }:=by
 simp[Obj.mapSeq]
def Inv.lst{H:Hp}{s:aC}{p:ak}{xs:List V}(I:Inv X pins σ H s)(h:H p=some (.lst xs)) :
  ∃(its:ba) (n:Nat),Vals xs its/\s.heap.get? p=some { cls:=.type "list",data:=.seq its.toArray n }/\xs.length<=sizeLine:=by
 obtain⟨z,its,n,r,e⟩:=I.hok p _ h;exact⟨its,n,r,e,z⟩
def Inv.Xy{H:Hp}{s:aC}{p:ak}{ys:List V}{its its':ba}{n:Nat}{f:Obj->Obj}(I:Inv X pins σ H s)(h:H p=some (.lst xs))
  (ho:s.heap.get? p=some { cls:=.type "list",data:=.seq its.toArray n }) (hf:f { cls:=.type "list",data:=.seq its.toArray n }={ cls:=.type "list",data:=.seq its'.toArray n' }) (r:Vals ys its') (hz:ys.length<=sizeLine) (t:Nat) :
  Inv X pins σ (upd H p<|.lst ys) { s with heap:=s.heap.update p f,toks:=t }:=by
 have e:(s.heap.update p f).get? p=some { cls:=.type "list",data:=.seq its'.toArray n' }:=by
  rw[f6 f ho<|by rw[hf]<;>rfl,hf]
 refine I.write (x:=p) (e:=p) (by rw[h];trivial) (.inl rfl) (λb u hb q=>(Heap.get?_update_other _ _<|cO hb).trans q) ⟨_,e⟩ ?_;exact⟨hz,its',n',r,e⟩
abbrev abX:V->V->V->Hp->(Hp->Prop)->Prop:=λo i v H Q=>∃p xs k j,o=.ref p/\i=.int k/\H p=some (.lst xs)/\EB xs.length k=some j/\Q (upd H p<|.lst<|xs.set j v)
def set_list:C1 X abX:=by
 intro pins s σ H o i v N iv u Q I G J K h;obtain⟨p,xs,k,j,rfl,rfl,F,L,q⟩:=h
 cases G
 obtain⟨t,rfl⟩:=J;obtain⟨d,n,r,B,M⟩:=I.lst F;obtain⟨h1,h2,h3,C⟩:=K6 L;have g:=r.length;have hn:=xh;have D:Inv X pins σ (upd H p<|.lst<|xs.set j v) { s with heap:=s.heap.update p<|Obj.mapSeq (·.setIfInBounds j u)}:=
  I.Xy F B (GN d n j u) (r.set K j) (by rw[bX];exact M) s.toks
 by_cases h0:0<=k
 ·have f:k.toNat=j:=by
   rw[seqIndex_of h0 C]at h1;exact bg h1
  exact PySem.W.ki_setAt B h0 () (by rw[aX,<- g];exact C)<|by rw[f];exact⟨_,D,q⟩
 ·have f:(k+(d.toArray.size:Int)).toNat=j:=by
   rw[seqIndex_neg () h3]at h1;rw[aX,<- g];exact bg h1
  exact PySem.W.ki_setBack B () (by rw[aX,<- g];exact h3) ()<|by rw[f];exact⟨_,D,q⟩
abbrev uW:V->Bool
 | .non=>true
 | .bl _=>true
 | .int _=>true
 | .str _=>true
 | _=>false
abbrev GW:V->V->Bool
 | .non,.non=>true
 | .bl a,.bl b=>a == b
 | .bl a,.int b=>(if a then 1 else 0) == b
 | .int a,.bl b=>a == (if b then 1 else 0)
 | .int a,.int b=>a == b
 | .str a,.str b=>a == b
 | _,_=>false
def Xx{A:aA}{x:V}{v:af}(ry:RelV y u)(rx:RelV x v)(fy:uW y=true)(fx:uW x=true):SeqAt.EqAt A s u v (GW y x):=by
 cases y with
 | non=>
  cases ry
  cases x with
  | non=>cases rx;exact SeqAt.EqAt.same _
  | bl b=>cases rx;exact SeqAt.EqAt.none_bool b
  | int b=>obtain⟨t,rfl⟩:=rx;exact SeqAt.EqAt.none_int b t
  | str b=>obtain⟨t,rfl⟩:=rx;exact SeqAt.EqAt.none_str b t
  | _=>exact absurd (show false=true from fx) bw
 | bl a=>
  cases ry
  cases x with
  | non=>cases rx;exact SeqAt.EqAt.bool_none a
  | bl b=>cases rx;exact SeqAt.EqAt.bool_bool a b
  | int b=>obtain⟨t,rfl⟩:=rx;exact SeqAt.EqAt.bool_int a b t
  | str b=>obtain⟨t,rfl⟩:=rx;exact SeqAt.EqAt.bool_str a b t
  | _=>exact absurd (show false=true from fx) bw
 | int a=>
  obtain⟨d,rfl⟩:=ry
  cases x with
  | non=>cases rx;exact SeqAt.EqAt.int_none a d
  | bl b=>cases rx;exact SeqAt.EqAt.int_bool a d b
  | int b=>obtain⟨t,rfl⟩:=rx;exact je a d b t
  | str b=>obtain⟨t,rfl⟩:=rx;exact SeqAt.EqAt.int_str a d b t
  | _=>exact absurd (show false=true from fx) bw
 | str a=>
  obtain⟨d,rfl⟩:=ry
  cases x with
  | non=>cases rx;exact SeqAt.EqAt.str_none a d
  | bl b=>cases rx;exact SeqAt.EqAt.str_bool a d b
  | int b=>obtain⟨t,rfl⟩:=rx;exact SeqAt.EqAt.str_int a d b t
  | str b=>obtain⟨t,rfl⟩:=rx;exact SeqAt.EqAt.str_str a d b t
  | _=>exact absurd (show false=true from fx) bw
 | _=>exact absurd (show false=true from fy) bw
abbrev eqU (x:V)(u:af):Bool:=match u with
 | .none=>GW .non x
 | .bool b=>GW (.bl b) x
 | .int i _=>GW (.int i) x
 | .str z _=>GW (.str z) x
 | _=>false
def HD{x:V}(r:RelV y u)(f:uW y=true):eqU x u=GW y x:=by
 cases y with
 | non=>cases r;rfl
 | bl b=>cases r;rfl
 | int i=>obtain⟨t,rfl⟩:=r;rfl
 | str z=>obtain⟨t,rfl⟩:=r;rfl
 | _=>exact absurd (show false=true from f) bw
theorem Ai{A:aA}{x:V}{v:af}(rx:RelV x v)(fx:uW x=true):∀{xs:List V}{us:ba},Vals xs us->xs.all uW=true->∀u∈us,SeqAt.EqAt A s u v (eqU x u)
 | _,_,.nil,_=>λu d=>by cases d
 | y::xs,u::us,.cons r t,f=>λg d=>by
  rw[jv,dU]at f
  rcases bG.mp d with rfl|d
  ·rw[HD r f.1];exact Xx r rx f.1 fx
  ·exact Ai rx fx t f.2 g d
abbrev inV (x:V)(xs:List V):Bool:=xs.any λy=>GW y x
def uy:kM X (.type "list") (λxs H Q=>∃p ys,xs=[.ref p]/\(oS X.K H p ys\/nh X.K H p ys)/\∀l,H l=none->Q (.ref l) (upd H l<|.lst ys)):=by
 kt_k;obtain⟨p,ys,rfl,hq,q⟩:=h;kcf_m
 cases rx
 have j:∀(d:ba),Vals ys d->ys.length<=sizeLine->∀(h':aq) (f:Nat),(∀b o',s.heap.get? b=some o'->h'.get? b=some o') ->
   h'.get? s.heap.objs.size=some { cls:=.type "list",dict:=none,data:=.seq d.toArray f,slots:=#[]}->EP X pins σ Q (.ref s.heap.objs.size) { s with heap:=h' }:=λd g t h' f kp e=>
  ⟨.ref s.heap.objs.size,_,I.laid (t':=s.toks) kp (aN _)<|show lE X.prog X.w _ h' _ (.lst ys)from⟨t,d,f,g,e⟩,rfl,q _<|I.hok.fresh<|aN _⟩
 rcases hq with hq|hq
 ·obtain⟨d,g,pl,t⟩:=I.list hq;have k:=g.length;obtain⟨o,B,hc,n,C⟩:=pl.isList;exact call_list_seq p (.inl rfl) B hc C (λh' f kp e=>j d g t h' f kp e) (by dsimp[aX]<;>lia)
 ·obtain⟨d,g,pl,t⟩:=I.tuple hq;have k:=g.length;obtain⟨o,B,hc,n,C⟩:=pl;exact call_list_seq p (.inr rfl) B hc C (λh' f kp e=>j d g t h' f kp e)<|by dsimp[aX]<;>lia
def sW:kM X (.type "tuple") (λxs H Q=>∃p ys,xs=[.ref p]/\((oS X.K H p ys/\∀l,H l=none->Q (.ref l) (upd H l<|.tup ys))\/(nh X.K H p ys/\Q (.ref p) H))):=by
 kt_k;obtain⟨p,ys,rfl,h⟩:=h;kcf_m
 cases rx
 rcases h with⟨hq,q⟩|⟨hq,q⟩
 ·obtain⟨d,f,pl,g⟩:=I.list hq;have j:=f.length;refine call_tuple_list pl.isList (λh' kp=>?_) (by dsimp[aX]<;>lia);have k:Inv X pins σ H { s with heap:=h' }:=I.kept (t':=s.toks) kp;have t:Inv X pins σ (upd H h'.objs.size<|.tup ys) { s with heap:=h'.push { cls:=.type "tuple",data:=.seq d.toArray }}:=
   k.laid (t':=s.toks) (λb o e=>aQ _ e) (aN _) (show lE X.prog X.w _ _ _ (.tup ys)from⟨g,d,f,rR.new _ _⟩)
  exact⟨.ref h'.objs.size,_,t,rfl,q _<|k.hok.fresh<|aN _⟩
 ·obtain⟨d,f,pl,g⟩:=I.tuple hq;exact call_tuple_same pl ⟨.ref p,H,I,rfl,q⟩
abbrev XT (K:au)(T:String)(x:V)(H:Hp):Prop:=match x with
 | .str _=>T = "str"
 | .int _=>T = "int"
 | .ref p=>(T = "list" /\ ∃xs,oS K H p xs)\/(T = "tuple" /\ ∃o,K.lookup p=some o/\o.cls=.type "tuple" /\ o.dict=none) \/
   (T = "dict" /\ ((∃kvs,H p=some (.dK kvs))\/∃kvs,H p=some (.dT kvs)))\/(T = "set" /\ ∃S n,H p=some (.set S n))
 | _=>False
def QA{H:Hp}{s:aC}{x:V}{v:af}(I:Inv X pins σ H s)(r:RelV x v)(ty:XT X.K T x H) :
  s.TypeIs v T/\∀a,v=.ref a->∃ob,s.heap.get? a=some ob/\ob.dict=none:=by
 cases x with
 | str z=>
  obtain⟨t,rfl⟩:=r
  cases(show T = "str" from ty)
  exact⟨typeIs_str s z t,nofun⟩
 | int i=>
  obtain⟨t,rfl⟩:=r
  cases(show T = "int" from ty)
  exact⟨typeIs_int s i t,nofun⟩
 | ref p=>
  cases r
  rcases ty with⟨rfl,xs,hq⟩|⟨rfl,o,d,hc,f⟩|⟨rfl,d⟩|⟨rfl,S,n,d⟩
  ·obtain⟨g,_,pl,_⟩:=I.list hq;refine⟨pl.isList.typeIs,λa e=>?_⟩
   cases e
   obtain⟨o,n,e,c,f,_⟩:=pl;exact⟨o,e,f⟩
  ·refine⟨⟨o,I.DL p o d,hc⟩,λa e=>?_⟩
   cases e
   exact⟨o,I.DL _ o d,f⟩
  ·have z:∃o,s.heap.get? p=some o/\o.ExactDict:=by
    rcases d with⟨kvs,d⟩|⟨kvs,d⟩
    ·obtain⟨_,_,_,_,o,_,_,e,ex,_⟩:=I.hok p _ d;exact⟨o,e,ex⟩
    ·obtain⟨_,_,_,_,o,_,_,e,ex,_⟩:=I.hok p _ d;exact⟨o,e,ex⟩
   obtain⟨o,e,ex⟩:=z;refine⟨⟨o,e,ex.1⟩,λa e2=>?_⟩
   cases e2
   exact⟨o,e,ex.2.1⟩
  ·obtain⟨o,_,_,_,e,ex,_⟩:=I.hok p _ d;refine⟨⟨o,e,ex.1⟩,λa e2=>?_⟩
   cases e2
   exact⟨o,e,ex.2.1⟩
 | _=>exact False.elim ty
abbrev adf (K:au)(T:String)(r:V->List V->Hp->VK->Prop)(to:TE):TE:=λσ H Q=>to σ H λx H1=>XT K T x H1/\r x [] H1 Q
abbrev tBM (K:au)(T:String)(r:V->List V->Hp->VK->Prop)(to:TE)(t:TA):TE:=λσ H Q=>to σ H λx H1=>XT K T x H1/\t σ H1 λxs H2=>r x xs H2 Q
variable {o e:aE}{es:List aE}{to:TE}{t:TA}{name:Str}{apos cpos:Pos}{T id:String}{r:V->List V->Hp->VK->Prop}
def Z3(pa:PlainAttrs T)(slot:Slot T name id)(hty:typeOf (.builtin id)=pure (.type "method_descriptor"))(hm:E_ X id r)(ho:PE X o to)
  (hbase:attributeBase o name X.env (eval o X.env)=eval o X.env<|>ε) (hline:(apos.endLine == cpos.line)=true<|>ε):PE X (.Call (.Attribute o name apos) [] [] cpos) (adf X.K T r to):=by
 gn_on;refine wpAny_Call_method0_late hbase hline<|nq (ho pins s σ H _ I h) λv f ⟨x,H1,d,r1,ty,g⟩=>?_;obtain⟨h1,h2⟩:=QA d r1 ty;exact⟨T,id,pa,slot,hty,h1,h2,eO rfl<|PySem.evalArgs_none<|hm pins f σ H1 x [] v [] Q d r1 .nil g⟩
def J5(pa:PlainAttrs T)(slot:Slot T name id)(hty:typeOf (.builtin id)=pure (.type "method_descriptor"))(hm:E_ X id r)(ho:PE X o to)(ha:PA X (e::es) t)
  (hbase:attributeBase o name X.env (eval o X.env)=eval o X.env<|>ε)
  (hfew:(((backTo cpos<|starEach (e::es) X.env).all (λx=>!x.1) && (backToKw cpos<|keywordEach [] X.env).all (λx=>x.1.isSome)
   && decide ((e::es).length+([]:List Keyword).length+(if ([]:List Keyword).isEmpty then 0 else 1)<30))=true)<|>ε)
  (hline:(apos.endLine == cpos.line)=true<|>ε) (hs:starEach (e::es) X.env=(false,eval e X.env)::starEach es X.env<|>ε) (hplain:((backTo cpos<|starEach es X.env).any (·.1)=false)<|>ε) :
  PE X (.Call (.Attribute o name apos) (e::es) [] cpos) (tBM X.K T r to t):=by
 gn_on;refine wpAny_Call_method_late hbase hfew hline rfl<|nq (ho pins s σ H _ I h) λv p ⟨x,H1,d,r1,ty,B⟩=>?_;obtain⟨h1,h2⟩:=QA d r1 ty;refine⟨T,id,pa,slot,hty,h1,h2,?_⟩;have f:=ha cpos pins p σ H1 _ d B;rw[hs]at f ⊢;refine eO (by show(false || (backTo cpos<|starEach es X.env).any (·.1))=false;rw[hplain]<;>rfl)<|iT ?_;exact nq f λus j ⟨k,H2,g,r2,q⟩=>hm pins j σ H2 x k v us Q g r1 r2 q
end
abbrev Z9 (X:Cx)(id:String)(r:V->List V->Hp->VK->Prop):Prop:=
 ∀(pins:bn) (s:aC) (σ:St) (H:Hp) (x:V) (xs:List V) (v:af) (us:ba) (Q:VK),Inv X pins σ H s->RelV x v->Vals xs us->r x xs H Q ->
  wpAny (model X.prog X.w) X.A (call (.builtin id) (v::us)) (EP X pins σ Q) X.xe s
def Vals.one:∀{x:V}{us:ba},Vals [x] us->∃u,us=[u]/\RelV x u
 | _,_,.cons r .nil=>⟨_,rfl,r⟩
def Vals.zero:∀{us:ba},Vals [] us->us=[]
 | _,.nil=>rfl
def Vals.dropLast{xs:List V}{us:ba}(h:Vals xs us):Vals xs.dropLast us.dropLast:=by
 induction h with
 | nil=>exact .nil
 | cons r t d=>
  cases t with
  | nil=>exact .nil
  | cons q f=>exact .cons r d
theorem Vals.eraseIdx:∀{xs:List V}{us:ba}(i:Nat),Vals xs us->Vals (xs.eraseIdx i) (us.eraseIdx i)
 | _,_,_,.nil=>.nil
 | _,_,0,.cons _ t=>t
 | _,_,i+1,.cons r t=>.cons r<|Vals.eraseIdx i t
def Vals.reverse{xs:List V}{us:ba}(h:Vals xs us):Vals xs.reverse us.reverse:=by
 induction h with
 | nil=>exact .nil
 | cons r t d=>rw[gY,gY];exact Vals.append d<|.cons r .nil
theorem Vals.rep(h:Vals xs us):∀k:Nat,Vals (List.replicate k xs).flatten (List.replicate k us).flatten
 | 0=>.nil
 | k+1=>by
  rw[dz,dz,d_,d_];exact Vals.append h<|Vals.rep h k
def G3{α:Type}(l:List α):l.eraseIdx (l.length-1)=l.dropLast:=by
 induction l with
 | nil=>rfl
 | cons a r d=>
  cases r with
  | nil=>rfl
  | cons b r=>
   have e:(a::b::r).length-1=((b::r).length-1)+1:=by
    have h1:(a::b::r).length=r.length+2:=rfl;have h2:(b::r).length=r.length+1:=rfl
    lia
   rw[e,List.eraseIdx_cons_succ,d]
   all_goals rfl
theorem B9{α:Type}:∀(l:List α) (i:Nat),(l.eraseIdx i).length<=l.length
 | [],_=>aN _
 | _::_,0=>Nat.le_succ _
 | _::r,i+1=>jy<|B9 r i
theorem foldl_rep(its:ba):∀(k:Nat) (acc:ba),
  List.foldl (λx1 x2=>x1++x2) acc.toArray (List.replicate k its.toArray)=(acc++(List.replicate k its).flatten).toArray
 | 0,acc=>by simp
 | k+1,acc=>by
  have e:acc.toArray++its.toArray=(acc++its).toArray:=by simp
  have e2:(acc++its)++(List.replicate k its).flatten=acc++(List.replicate (k+1) its).flatten:=by
   rw[dz,d_,cQ]
  rw[<- e2,<- foldl_rep its k (acc++its),<- e,dz,fm]
section
variable {X:Cx}{pins:bn}{σ:St}{H:Hp}{s:aC}{l:ak}{xs ys:List V}
def Inv.Nv{its its':ba}{n:Nat}{f:Array af->Array af}{t':Nat}(I:Inv X pins σ H s)(hH:H l=some (.lst xs))
  (e:s.heap.get? l=some { cls:=.type "list",data:=.seq its.toArray n }) (hf:f its.toArray=its'.toArray) (hv:Vals ys its') (hz:ys.length<=sizeLine) :
  Inv X pins σ (upd H l<|.lst ys) { s with heap:=s.heap.update l<|Obj.mapSeq f,toks:=t' }:=by
 have q:=PySem.IsL.update e f;rw[hf]at q;refine I.write (x:=l) (e:=l) (by rw[hH];exact trivial) (.inl rfl) (λg u hb d=>(Heap.get?_update_other s.heap (Obj.mapSeq f)<|cO hb).trans d) ⟨_,q⟩ ?_;exact⟨hz,its',_,hv,q⟩
def Inv.XW{its:ba}{t':Nat}(I:Inv X pins σ H s)(hv:Vals ys its)(hz:ys.length<=sizeLine) :
  Inv X pins σ (upd H s.heap.objs.size<|.lst ys) { s with heap:=s.heap.push { cls:=.type "list",data:=.seq its.toArray },toks:=t' }:=
 I.laid (λ_ _ q=>aQ _ q) (aN _) ⟨hz,its,0,hv,br _ rfl⟩
def Inv.fresh(I:Inv X pins σ H s):H s.heap.objs.size=none:=I.hok.fresh<|aN _
def Inv.Eg(I:Inv X pins σ H s)(hH:H l=some (.lst xs)):xs.length<=sizeLine/\∃(its:ba) (n:Nat),Vals xs its/\xs.length=its.length/\s.heap.get? l=some { cls:=.type "list",data:=.seq its.toArray n }:=by
 obtain⟨z,its,n,r,e⟩:=I.hok l _ hH;exact⟨z,its,n,r,r.length,e⟩
def Gm{n:Nat}(h:n<=sizeLine):Builtin.List.listTooLong n=false:=by
 unfold Builtin.List.listTooLong;exact bz ()
end
section
variable {X:Cx}
abbrev Uc:V->List V->Hp->VK->Prop:=λx d H Q=>∃l xs y,x=.ref l/\d=[y]/\H l=some (.lst xs)/\xs.length<sizeLine/\Q .non (upd H l<|.lst<|xs++[y])
def B8:Z9 X "list.append" Uc:=by
 intro pins s σ H x p v us Q I rx g h;obtain⟨l,xs,y,rfl,rfl,f,t,q⟩:=h
 cases rx
 obtain⟨u,rfl,j⟩:=g.one;obtain⟨z,d,n,r,k,e⟩:=I.Eg f;refine eU F.slot_list_append ⟨_,e,rfl⟩ F.entry_list_append (F.args_list_append_2 _ _) (PySem.list_append l d.toArray n u<|by rw[aX];lia) ⟨e,?_⟩;refine⟨.non,_,I.Nv (its':=d++[u]) f e (by simp) (r.append<|.cons j .nil) ?_,rfl,q⟩;rw[bh,List.length_singleton]
 lia
abbrev Vv:V->List V->Hp->VK->Prop:=λx d H Q=>∃l b xs zs,x=.ref l/\d=[.ref b]/\H l=some (.lst xs)/\H b=some (.lst zs)/\xs.length+zs.length<=sizeLine/\Q .non (upd H l<|.lst<|xs++zs)
def Ml:Z9 X "list.extend" Vv:=by
 intro pins s σ H x K v us Q I rx t h;obtain⟨l,b,xs,zs,rfl,rfl,k,C,L,q⟩:=h
 cases rx
 obtain⟨u,rfl,D⟩:=t.one
 cases D
 obtain⟨z,f,n,r,J,e⟩:=I.Eg k;obtain⟨G,d,B,r2,p,e2⟩:=I.Eg C;have j:f.toArray.size+d.toArray.size<=sizeLine:=by rw[aX,aX];lia
 have g:¬(!f.toArray.isEmpty && Builtin.List.listTooLong (f.toArray.size+d.toArray.size))=true:=by
  rw[Gm j,Bool.and_false];exact bw
 refine eU F.slot_list_extend ⟨_,e,rfl⟩ F.entry_list_extend (F.args_list_extend_2 _ _)
  (AutoSeq1.list_extend_list_list_0 l f.toArray n b d.toArray B g (by rw[aX];lia) ()) ⟨e,e2,?_⟩
 refine⟨.non,_,I.Nv (its':=f++d) k e (by simp) (r.append r2) ?_,rfl,q⟩;rw[bh]
 lia
abbrev ade:V->List V->Hp->VK->Prop:=λx d H Q=>∃l xs y,x=.ref l/\d=[]/\H l=some (.lst xs)/\xs[xs.length-1]?=some y/\Q y (upd H l<|.lst xs.dropLast)
def ZG:Z9 X "list.pop" ade:=by
 intro pins s σ H x C v us Q I rx p h;obtain⟨l,xs,y,rfl,rfl,j,hy,q⟩:=h
 cases rx
 have f:=p.zero;subst f;obtain⟨z,d,n,r,k,e⟩:=I.Eg j;obtain⟨u,t,B⟩:=r.get hy;have g:d.toArray[d.toArray.size-1]?=some u:=by
  show d.toArray[d.length-1]?=some u;rw[<- cE,<- k];exact t
 refine eU F.slot_list_pop ⟨_,e,rfl⟩ F.entry_list_pop (F.args_list_pop_1 _) (MeetsSeq.list_pop_last l d.toArray n u g<|by rw[aX];lia) ⟨e,?_⟩;refine⟨y,_,I.Nv (its':=d.dropLast) j e ?_ r.dropLast ?_,B,q⟩
 ·skip
  rw[aX,iD,G3]
 ·rw[List.length_dropLast]
  lia
abbrev Yw:V->List V->Hp->VK->Prop:=λx d H Q=>∃l xs i k y,x=.ref l/\d=[.int i]/\H l=some (.lst xs)/\-(2 ^ 63)<=i/\i<2 ^ 63/\seqIndex? i xs.length=some k/\xs[k]?=some y/\Q y (upd H l<|.lst<|xs.eraseIdx k)
def N2:Z9 X "list.pop" Yw:=by
 intro pins s σ H x D v us Q I rx B h;obtain⟨l,xs,i,k,y,rfl,rfl,g,h1,h2,j,hy,q⟩:=h
 cases rx
 obtain⟨u,rfl,C⟩:=B.one;obtain⟨t,rfl⟩:=C;obtain⟨z,d,n,r,p,e⟩:=I.Eg g;obtain⟨w,hw,f⟩:=r.get hy;refine eU F.slot_list_pop ⟨_,e,rfl⟩ F.entry_list_pop (F.args_list_pop_2 _ _)
  (MeetsSeq.list_pop_at l d.toArray n i t k w (fitsIndex_both h1 h2) (by rw[aX,<- p];exact j) (by rw[<- cE];exact hw)<|by rw[aX];lia) ⟨e,?_⟩
 refine⟨y,_,I.Nv (its':=d.eraseIdx k) g e ?_ (r.eraseIdx k) ?_,f,q⟩
 ·skip
  rw[iD]
 ·have:=B9 xs k
  lia
abbrev Q4:V->List V->Hp->VK->Prop:=λx d H Q=>∃l xs,x=.ref l/\d=[]/\H l=some (.lst xs)/\Q .non (upd H l<|.lst xs.reverse)
def GR:Z9 X "list.reverse" Q4:=by
 intro pins s σ H x p v us Q I rx j h;obtain⟨l,xs,rfl,rfl,g,q⟩:=h
 cases rx
 have f:=j.zero;subst f;obtain⟨z,d,n,r,k,e⟩:=I.Eg g;refine eU F.slot_list_reverse ⟨_,e,rfl⟩ F.entry_list_reverse (F.args_list_reverse_1 _) (AutoSeq1.list_reverse_list_0 l d.toArray n<|by rw[aX];lia) ⟨e,?_⟩;refine⟨.non,_,I.Nv (its':=d.reverse) g e (by simp) r.reverse ?_,rfl,q⟩;rw[List.length_reverse]
 lia
abbrev acN:R2:=λx y H Q=>∃l b xs zs,x=.ref l/\y=.ref b/\H l=some (.lst xs)/\H b=some (.lst zs)/\xs.length+zs.length<=sizeLine/\∀p,H p=none->Q (.ref p) (upd H p<|.lst<|xs++zs)
def Xe:oR X (binaryOp .Add) acN:=by
 kpf_c;obtain⟨l,b,xs,zs,rfl,rfl,j,k,D,q⟩:=h
 cases rx
 cases ry
 obtain⟨z,f,n,r,B,e⟩:=I.Eg j;obtain⟨t,d,C,r2,g,e2⟩:=I.Eg k;refine PySem.P.add_list e e2 ?_ (by rw[aX,aX];lia);have p:f.toArray++d.toArray=(f++d).toArray:=by simp
 rw[p];exact⟨.ref _,_,I.XW (t':=s.toks) (r.append r2)<|by rw[bh];lia,rfl,q _ I.fresh⟩
abbrev adi:R2:=λx y H Q=>∃l k xs,x=.ref l/\y=.int k/\H l=some (.lst xs)/\-(2 ^ 63)<=k/\k<2 ^ 63/\xs.length * k.toNat<=sizeLine /\
 ∀p,H p=none->Q (.ref p) (upd H p<|.lst (List.replicate k.toNat xs).flatten)
def len_rep{α:Type}(xs:List α)(k:Nat):(List.replicate k xs).flatten.length=k * xs.length:=by
 induction k with
 | zero=>simp
 | succ k d=>rw[dz,d_,bh,d,jb,Nat.add_comm]
def Y6:oR X (binaryOp .Mult) adi:=by
 kpf_c;obtain⟨l,k,xs,rfl,rfl,K,h1,h2,G,q⟩:=h
 cases rx
 obtain⟨t,rfl⟩:=ry;obtain⟨z,d,n,r,J,e⟩:=I.Eg K;have j:d.toArray.size * k.toNat<=sizeLine:=by rw[aX,<- J];exact G
 have p:¬d.toArray.size * k.toNat>(2 ^ 63-1) / 8:=by
  have:(sizeLine:Nat)<=(2 ^ 63-1) / 8:=by decide
  omega
 have g:¬(!Builtin.List.listFitsIndex k)=true:=by
  rw[fitsIndex_both h1 h2];exact bw
 have f:¬Builtin.List.listTooLong (d.toArray.size * k.toNat)=true:=by
  rw[Gm j];exact bw
 have B:List.foldl (λD C=>D++C) #[] (List.replicate (if d.toArray.isEmpty=true then 0 else k.toNat) d.toArray)=(List.replicate k.toNat d).flatten.toArray:=by
  have f0:∀m:Nat,List.foldl (λD C=>D++C) #[] (List.replicate m d.toArray)=(List.replicate m d).flatten.toArray:=λm=>by
   have:=foldl_rep d m [];rw[List.nil_append]at this;exact this
  rw[f0]
  cases d with
  | nil=>simp
  | cons a L=>rw[aV<|by simp]
 refine wpAny_binaryOp_repeat_ref (T := "list") (U := "int") ⋯ ⟨_,e,rfl⟩ (λs'=>typeIs_int s' k t) noFill_list_mul F.fills_int_mul F.slot_int_rmul repeat_list F.slot_int_index.lookup
  (eU F.slot_int_rmul (typeIs_int s k t) F.entry_int_rmul (F.args_int_rmul_2 _ _) (int___rmul___int_list k t l d.toArray n)
   ⟨e,rfl,⟨_,e,rfl⟩,eU F.slot_list_mul ⟨_,e,rfl⟩ F.entry_list_mul (F.args_list_mul_2 _ _) (AutoListH.list___mul___list_int_3 l d.toArray n k t g p f) ⟨e,?_⟩⟩)
 rw[B];exact⟨.ref _,_,I.XW (t':=s.toks) (r.rep k.toNat)<|by rw[len_rep,mul_comm];exact G,rfl,q _ I.fresh⟩
end
end L2
namespace Att
open PySem PySem.W PySem.Calls PyProof.Rows
def zo{P:Params}:∀(ns:ag) (vs:ba),WellAll P h vs (ns.map WData.int)->IntsAre vs ns:=by
 intro ns
 induction ns with
 | nil=>
  intro vs w;rw[fN]at w
  cases w
  exact .nil
 | cons n ns d=>
  intro vs w;rw[bC]at w
  cases w with
  | cons a b=>
   cases a
   exact .cons _ _<|d _ b
def ML{l:OpenLaw}{n:Nat}(hn:l.most=some n){P:Params}{h:aq}
  (hpre:l.row.toRowW.claim.pre args=true) (hwl:WellAll P h vals args) :
  ∃a vs ns,vals=[Value.ref a]/\args=[WData.list<|ns.map WData.int]/\h.get? a=some { cls:=.type "list",data:=.seq vs.toArray }/\IntsAre vs ns/\ns.length<=n:=by
 have p:WShape.hasAll [] args [.list .int]=true:=(pre_splitW hpre).1;have hc:l.pre.holds [] { args:=args }=true:=(pre_splitW hpre).2;obtain⟨d,r,rfl,h1,h2⟩:=hasAllW_cons p;obtain rfl:=hasAllW_nil h2;obtain⟨xs,rfl,h3⟩:=hasW_list h1;obtain⟨ns,rfl⟩:=items_int h3;have f:ns.length<=n:=by
  unfold OpenLaw.pre at hc;have j:(WTm.not<|.lt (.lit<|.int (n:Int))<|.len<|.arg 0).holds [] { args:=[.list<|ns.map .int]}=true:=by
   have j:=(holds_andW hc).1;rw[hn]at j;exact j
  have k:=condW_of j<|w_not<|w_lt w_lit<|w_len_list<|w_arg rfl;rw[aH]at k;refine Nat.le_of_not_lt λq=>?_;have D:(n:Int)<((ns.length:Nat):Int):=by omega
  first
   | (rw[bf D]at k;exact absurd k ⋯)
   | (simp at k;omega)
 cases hwl with
 | cons t B=>
  cases B
  cases t with
  | list C g=>exact⟨_,_,ns,rfl,rfl,C,zo ns _ g,f⟩
def Ms(l:OpenLaw)(args:List WData):l.row.toRowW.claim.post args (.bool true) args=true:=
 postW_of (r:=l.row.toRowW) (X:=(true == true))
  (show WShape.has [] (.bool true) .bool=true by first|rfl|decide|simp[WShape.has,WShape.arms,WShape.armsAll])
  (show(WTm.eq .res<|.lit<|.bool true).value [] { args:=args,res:=some<|.bool true,after:=args }=some (.bool<|true == true)from w_eq_bool (w_res rfl) w_lit) rfl
def EV{l:OpenLaw}{n:Nat}{q:aj}{XP:(Str->bd)->aq->Prop}{YP:ah->aq->Prop}{d:DefRec}
  (hn:l.most=some n) (hdf:d.params.defaults=[])
  (call:∀(w:ah) (s₀ s₁:aC) (mg mb:Str->bd) (fa:ak) (o:Obj) (pm cd doc:af) (a:ak) (vs:ba) (ns:ag),
   Ground q loose [] XP w s₀ mg mb s₁.heap->YP w s₁.heap ->
   s₁.heap.get? fa=some o->o.data=.func (docDef d.name d.params d.body d.scope pm cd doc)->s₁.heap.CodeRec cd d.name->mg d.name=some (.ref fa) ->
   s₁.heap.get? a=some { cls:=.type "list",data:=.seq vs.toArray }->IntsAre vs ns->ns.length<=n->s₁.gens=#[] ->
   codeAny (model l.prog w) callerA (.call (.ref fa) ⟨[.ref a],[]⟩) (λr s'=>r=.ok (.ret<|.bool true)/\OldK s₁.heap s'.heap/\s'.os=s₁.os/\AllBare s'.gens) s₁) :
  WalkO q loose XP YP l.row.toRowW d [] (λf vs=>PySem.call f vs):=by
 intro w s₀ s₁ mg mb G Y fa o pm cd doc M kV N U C F t hg D K as p J P B O;obtain rfl:M=.none:=Dflts.none F hdf;obtain rfl:kV=.none:=Dflts.noKw F;obtain⟨a,vs,ns,rfl,rfl,j,g,k⟩:=ML hn p B;refine enter_call<|jF (call w s₀ s₁ mg mb fa o pm cd doc a vs ns G Y N (fd_plain U) C t j g k hg) λr s' hq=>?_;obtain⟨rfl,h2,h3,L⟩:=hq;exact⟨.inl ⟨.bool true,.bool true,[],rfl,λ_=>rfl,.bool true,Ms l _,λ_=>⟨List.Pairwise.nil,λ_ T=>(nomatch T)⟩⟩,h2,h3,L⟩
end Att
namespace L2
open PySem PySem.Spec PyProof.Rows
theorem B0:∀{vs:ba}{ns:ag},IntsAre vs ns->Vals (ns.map V.int) vs
 | _,_,.nil=>.nil
 | _,_,.cons n t h=>.cons ⟨t,rfl⟩<|B0 h
abbrev U4 (H:Hp):Prop:=∀b,H b=none\/∃o xs,H b=some (.frz o<|.lst xs)
def Oq{P:aj}{w:ah}{K:au}{mg mb:Str->bd}{CX:SH}{k:Nat}{fa a:ak}{x:Str}{sp:Sp}{s₁:aC}{vs:ba}{ns:ag}
  (KX:K.In s₁.heap) (hns:s₁.heap.Ns mainGlobals mg) (hb:s₁.heap.Ns builtinsNs mb) (hbb:∀x:Str,x ≠ "__name__" -> mb x=bootBuiltins x) (hlim:s₁.heap.NoLimit) (hg:s₁.gens=#[])
  (ha:s₁.heap.get? a=some { cls:=.type "list",data:=.seq vs.toArray }) (hi:IntsAre vs ns) (hl:ns.length<=sizeLine) (hr:Room k callerA)
  (F:∀base:aq,K.In base->base.Ns mainGlobals mg->FnOk P w K mg base CX k fa fd [x] sp) (hbind:∀(s:aC) (u:af),BindsTo s fd ⟨[u],[]⟩ [(x,u)])
  (hsp:∀H:Hp,U4 H->oS K H a (ns.map V.int)->sp [.ref a] H (λv _=>v=.bl true) λ_ _ _=>False)
  (hCX:∀H e s',CX [] H s₁ (λ_ _ _=>False) e s'->False) :
  codeAny (model P w) callerA (.call (.ref fa) ⟨[.ref a],[]⟩) (λr s'=>r=.ok (.ret<|.bool true)/\OldK s₁.heap s'.heap/\s'.os=s₁.os/\AllBare s'.gens) s₁:=by
 have N:=B0 hi;have p:=hi.length;have j:∀H:Hp,U4 H->oS K H a (ns.map V.int)->xD P w H s₁.heap->(∀b,H b≠none->b=a)->(H a≠none->K.lookup a=none) ->
   codeAny (model P w) callerA (.call (.ref fa) ⟨[.ref a],[]⟩) (λr s'=>r=.ok (.ret<|.bool true)/\OldK s₁.heap s'.heap/\s'.os=s₁.os/\AllBare s'.gens) s₁:=by
  intro H O hS B T hK;have f:∀{b:ak} {o:Obj},s₁.heap.get? b=some o->H b=none->(D4 s₁.heap H).get? b=some o:=λe n=>Oi e n;have M:∀{b:ak} {o:Obj} {es:Array DictEntry} {ep:Nat},s₁.heap.get? b=some o->o.data=.dict es ep->H b=none:=λ{b o es ep} e d=>by
   cases q:H b with
   | none=>rfl
   | some u=>
    have L:b=a:=T b (by rw[q];simp);subst L;rw[ha]at e;cases e;have d':Data.seq vs.toArray _=Data.dict es ep:=d
    cases d'
  have g:∀{b:ak} {m:Str->bd},s₁.heap.Ns b m->(D4 s₁.heap H).Ns b m:=λ{b m} ⟨o,es,ep,e,d,r⟩=>⟨o,es,ep,f e<|M e d,d,r⟩;have D:K.In (D4 s₁.heap H):=λb o e=>f (KX b o e) (by
   cases q:H b with
   | none=>rfl
   | some u=>
    have L:b=a:=T b (by rw[q];simp);subst L;rw[hK<|by rw[q];simp]at e;cases e)
  have Z:Mod K mg (D4 s₁.heap H):=⟨D,g hns,⟨mb,g hb,hbb⟩,let⟨mc,h1,h2⟩:=hlim;⟨mc,g h1,h2⟩⟩;have e0:Env0 P w K mg (D4 s₁.heap H) callerA [] s₁ H:=⟨rfl,Z,λb o e=>SV e,Nat.le_of_eq<|LY _ _,trivial,λb hb=>absurd (show b∈([]:bb)from hb)<|by simp,B,.of_eq hg⟩;refine jF ((F _ D<|g hns).run callerA [] s₁ H ⟨[.ref a],[]⟩ [.ref a] [.ref a] _ _ hr e0 (hbind s₁<|.ref a) (.cons rfl .nil)<|hsp H O hS) λr s' h=>?_
  cases r with
  | error e=>exact(hCX H e s' h).elim
  | ok fl=>
   cases fl with
   | next=>exact False.elim h
   | brk=>exact False.elim h
   | cont=>exact False.elim h
   | ret u=>
    obtain⟨v,H',os,C,un,t,Y,q⟩:=h;have W:v=.bl true:=q;subst W;obtain rfl:u=Value.bool true:=Y;refine⟨rfl,OldK.of_keep λb o e=>?_,os,C⟩
    cases q:H b with
    | none=>exact un.keep b o e q (by intro z;exact absurd (show b∈([]:bb)from z)<|by simp) (by simp)
    | some u=>
     rcases O b with z|⟨ob,xs,z⟩
     ·rw[q]at z;cases z
     ·have U:=un.frzs b ob _ z;obtain⟨e1,_⟩:=B b _ z;obtain⟨e2,_⟩:=t b _ U;rw[e]at e1;cases e1;exact e2
 cases J:K.lookup a with
 | some o=>
  have e:=KX a o J;rw[ha]at e
  cases e
  refine j (λ_=>none) (λ_=>.inl rfl) (.inr ⟨_,vs.toArray,_,J,rfl,rfl,rfl,by rw[aX,p];exact hl,by simpa using N⟩) (λb u z=>by have G:(none:Option HO)=some u:=z;cases G) (λb z=>absurd rfl z) λz=>absurd rfl z
 | none=>
  refine j (λb=>if b=a then some (.frz { cls:=.type "list",data:=.seq vs.toArray } (.lst<|ns.map V.int))else none) (λb=>?_) (.inl<|.inr ⟨{ cls:=.type "list",data:=.seq vs.toArray },aW rfl⟩) (λb u z=>?_) (λb z=>?_) λ_=>J
  ·by_cases hb:b=a
   ·exact .inr ⟨_,_,aW hb⟩
   ·exact .inl<|aV hb
  ·by_cases hb:b=a
   ·have G:=(aW hb).symm.trans z
    cases G
    subst hb;exact⟨ha,by rw[aH];exact hl,vs,_,N,ha⟩
   ·have G:=(aV hb).symm.trans z
    cases G
  ·by_cases hb:b=a
   ·exact hb
   ·exact absurd (aV hb) z
def UB{l:PySem.W.OpenLaw}{n k:Nat}{q:aj}{XP:(Str->bd)->aq->Prop}{YP:ah->aq->Prop}{d:DefRec}{K:Params->au}{CX:ah->SH}{sp:ah->Sp}{x:Str}
  (hn:l.most=some n) (hn2:n<=sizeLine) (hdf:d.params.defaults=[]) (hr:Room k callerA)
  (hY:∀(w:ah) (h:aq),YP w h->(K w.params).In h)
  (F:∀(w:ah) (mg:Str->bd) (fa:ak) (h:aq),(K w.params).In h->h.Ns mainGlobals mg->mg d.name=some (.ref fa) ->
   ∃fd:FuncData,(∀(s:aC) (u:af),BindsTo s fd ⟨[u],[]⟩ [(x,u)]) /\
    ∀base:aq,(K w.params).In base->base.Ns mainGlobals mg->FnOk l.prog w (K w.params) mg base (CX w) k fa fd [x] (sp w))
  (hsp:∀(w:ah) (H:Hp) (a:ak) (ns:ag),ns.length<=n->U4 H->oS (K w.params) H a (ns.map V.int)->sp w [.ref a] H (λv _=>v=.bl true) λ_ _ _=>False)
  (hCX:∀(w:ah) (H:Hp) (s:aC) (e:af) (s':aC),CX w [] H s (λ_ _ _=>False) e s'->False) :
  PySem.W.WalkO q loose XP YP l.row.toRowW d [] (λf vs=>PySem.call f vs):=by
 refine Att.EV hn hdf λw D B mg P fa o pm Z N a vs ns G Y U hd O C t p j hg=>?_;have J:=hY w _ Y;obtain⟨fd,hb,M⟩:=F w mg fa _ J G.T.g C;exact Oq J G.T.g G.T.b G.T.builtins G.T.nolimit hg t p (bK j hn2) hr M hb (λH L hS=>hsp w H a ns j L hS) λH e s'=>hCX w H B e s'
abbrev we (s:aF):Arguments:=match s with
 | .FunctionDef _ a _ _ _ _ _ _ _ _=>a
 | _=>{ posonlyargs:=[],args:=[],vararg:=none,kwonlyargs:=[],kw_defaults:=[],kwarg:=none,defaults:=[]}
abbrev sE (s:aF):List aF:=match s with
 | .FunctionDef _ _ b _ _ _ _ _ _ _=>b
 | _=>[]
abbrev j9 (s:aF):Scope:=match s with
 | .FunctionDef _ _ _ _ _ _ d _ _ _=>d
 | _=>{ kind:=.function,names:=[],isGenerator:=false,isCoroutine:=false }
meta abbrev qf:SH:=λ_ _ _ _ _ _=>False
meta abbrev E0:XK:=λ_ _ _=>False
def aau{X:Cx}:Passes qf X E0:=λ_ _ _ _ _ _ _ h=>h.elim
structure Fun (K:au)(x qual:Str)(st:aF)(f:ak)(fd:FuncData):Prop where
 ex:∃(oc:af) (od:Option ak) (kV doc pm:af) (an:Option ak) (cdv ct:af) (osl:Array<|bd),
  fd=PySem.W.fnOf x qual (we st) (sE st) (j9 st) .none kV doc pm an cdv ct/\K.lookup f=some ⟨oc,od,.func fd,osl⟩/\PySem.W.codeIn K cdv qual=true
 kp:PySem.W.keepIn K (.ref f)=true
section
variable {P:aj}{w:ah}{K:au}{mg:Str->bd}{base:aq}
def Fun.ok{x:Str}{st:aF}{f:ak}{N ps:ar}{k:Nat}{sp:Sp}(F:Fun K x qual st f fd)(S:FnScope N ps<|j9 st)(len:∀vs H Q E,sp vs H Q E->vs.length=ps.length)
  (hbody:∀(cdv:af) (A:aA) (outer:List Env) (s:aC) (H:Hp) (vs:List V) (Q:VK) (E:XK),Room k (A.deeper<|envOfC qual (j9 st) s.heap.objs.size f cdv)->sp vs H Q E ->
   ∃t,CY (Hw qf P w K mg base N qual (j9 st) f cdv A outer s H E).nox (sE st) t/\t { nx:=λ_ H'=>Q .non H',rt:=Q } (start N vs) H):FnOk P w K mg base qf (k+1) f fd ps sp:=by
 obtain⟨G,D,kV,C,J,L,cdv,ct,p,rfl,j,g⟩:=F.ex;refine aaX j g S len λA outer s H vs Q E B d=>?_;obtain⟨t,h,q⟩:=hbody cdv A outer s H vs Q E B d;exact⟨t,h.nox,q⟩
def Fun.binds{x:Str}{st:aF}{f:ak}{ps:ar}(F:Fun K x qual st f fd)
  (h:∀(kV doc pm:af) (an:Option ak) (cdv ct:af) (us:ba),us.length=ps.length->bindArgs (PySem.W.fnOf x qual (we st) (sE st) (j9 st) .none kV doc pm an cdv ct) ⟨us,[]⟩=pure (ps.zip us)):Binds K fd ps []:=by
 obtain⟨j,p,kV,doc,pm,an,cdv,ct,g,rfl,k,d⟩:=F.ex;exact .all<|h kV doc pm an cdv ct
def Zc{x:Str}{st:aF}{f:ak}{kV pm ct:af}(l:K.lookup f=some ⟨oc,od,.func<|PySem.W.fnOf x qual (we st) (sE st) (j9 st) .none kV doc pm an cdv ct,osl⟩)
  (c:PySem.W.codeIn K cdv qual=true) (k:PySem.W.keepIn K (.ref f)=true):Fun K x qual st f (PySem.W.fnOf x qual (we st) (sE st) (j9 st) .none kV doc pm an cdv ct):=⟨⟨oc,od,kV,doc,pm,an,cdv,ct,osl,rfl,l,c⟩,k⟩
end
section
variable {X:Cx}
def pv(i:Nat){x:Str}(hN:X.N[i]?=some x<|>ε)(hv:Vis X.env.scope x:=by first|exact Or.inl rfl|exact Or.inr (Or.inl rfl)|exact Or.inr<|Or.inr rfl)(hd:(x == ("__debug__" : Str))=false:=by decide)
  (hcd:(x == ("__classdict__" : Str))=false:=by decide):PE X (.Name x pos) (abF i):=QM hN hv hd hcd
end
set_option maxHeartbeats 4000000
abbrev Tv (σ:St):bj->Option V
 | some j=>(σ[j]?).getD none
 | none=>none
abbrev wz (env:Env):List (Str×NameKind)->List (Str×ak)->List (Str×ak)
 | [],cs=>cs
 | (n,k)::r,cs=>wz env r (if k == .free then(n,(env.cells.lookup n).getD 0)::cs else cs)
def AK{scope:Scope}{env:Env}(h:∀y∈scope.names,y.2=.free->∃c,env.cells.lookup y.1=some c):closureFor scope env=pure (wz env scope.names []):=by
 have g:∀(l:List<|Str×NameKind) (d:List<|Str×ak),(∀y∈l,y.2=.free->∃c,env.cells.lookup y.1=some c) ->
   (forIn l d (λ(x:Str×NameKind) (r:List<|Str×ak)=>(match x with
    | (name,kind)=>if (kind == NameKind.free)=true then(do let c <- cellOf env name;pure (ForInStep.yield ((name,c)::r)))else pure (ForInStep.yield r):Sem<|ForInStep<|List<|Str×ak)))=(pure (wz env l d):Sem<|List<|Str×ak):=by
  intro l
  induction l with
  | nil=>intro d _;rfl
  | cons y r q=>
   intro d f;obtain⟨n,k⟩:=y;rw[jL];by_cases p:k=.free
   ·subst p;obtain⟨c,hc⟩:=f (n,.free) aL rfl;have e1:cellOf env n=pure c:=by
     unfold cellOf;rw[hc]
    dsimp[cZ,fq,e1,pure_bind];rw[q _ λz j=>f z<|aO _ j];dsimp[wz,cZ,fq,hc,dh]
   ·have hb:(k == NameKind.free)=false:=by simpa using p
    dsimp[hb,bI,cH,pure_bind];rw[q _ λz j=>f z<|aO _ j];dsimp[wz,hb,bI,cH]
 have:=g scope.names [] h;exact(cV (λz=>z >>= λd=>(pure d:Sem<|List<|Str×ak)) this).trans (pure_bind _ _)
theorem zV:∀{l:List<|Str×NameKind}{x:Str}{k:NameKind},l.lookup x=some k->(x,k)∈l
 | [],_,_,h=>nomatch h
 | (n,k')::r,x,k,h=>by
  rw[eT]at h
  cases d:x == n with
  | true=>
   rw[d]at h;have e:x=n:=by simpa using d
   subst e
   cases h
   exact aL
  | false=>rw[d]at h;exact aO _<|zV h
theorem Ci{env:Env}{x:Str}{c:ak}:∀{l:List<|Str×NameKind}{cs:List<|Str×ak},(∀y∈l,y.2=.free->∃c,env.cells.lookup y.1=some c)->(wz env l cs).lookup x=some c->env.cells.lookup x=some c\/cs.lookup x=some c
 | [],cs,_,h=>.inr h
 | (n,k)::r,cs,hl,h=>by
  have h':=Ci (l:=r) (λz g=>hl z<|aO _ g) h
  rcases h' with h'|h'
  ·exact .inl h'
  ·by_cases f:k=.free
   ·subst f;dsimp[cZ,fq]at h';obtain⟨j,hc⟩:=hl (n,.free) aL rfl;rw[hc,dh,eT]at h'
    cases d:x == n with
    | true=>
     rw[d]at h';have e:x=n:=by simpa using d
     subst e;left;rw[hc];exact h'
    | false=>rw[d]at h';exact .inr h'
   ·have hb:(k == NameKind.free)=false:=by simpa using f
    dsimp[hb,bI,cH]at h';exact .inr h'
theorem Ct{env:Env}{x:Str}:∀{l:List<|Str×NameKind}{cs:List<|Str×ak},(cs.lookup x).isSome=true->((wz env l cs).lookup x).isSome=true
 | [],cs,h=>h
 | (n,k)::r,cs,h=>by
  skip
  refine Ct (l:=r) ?_;by_cases d:(k == NameKind.free)=true
  ·rw[aW d,eT]
   cases f:x == n with
   | true=>rfl
   | false=>exact h
  ·rw[aV d];exact h
theorem AJ{env:Env}{x:Str}:∀{l:List<|Str×NameKind}{cs:List<|Str×ak},(x,NameKind.free)∈l->((wz env l cs).lookup x).isSome=true
 | [],_,h=>nomatch h
 | (n,k)::r,cs,h=>by
  rcases bG.mp h with e|h
  ·cases e
   skip
   refine Ct (l:=r) ?_;rw[aW<|by rfl,eT];simp
  ·exact AJ (l:=r) h
theorem rP:∀(names:List<|Str×NameKind) (n:Nat) (acc:List<|Str×ak),cellsFrom n names acc=cellsFrom n names []++acc
 | [],_,_=>rfl
 | (x,k)::r,n,acc=>by
  unfold cellsFrom;split
  ·rw[rP r (n+1) ((x,n)::acc),rP r (n+1) [(x,n)],cQ];rfl
  ·exact rP r n acc
theorem Ad:∀(names:List<|Str×NameKind) (n:Nat) {x:Str}{c:ak},(x,c)∈cellsFrom n names []->(x,NameKind.cell)∈names
 | [],_,_,_,h=>nomatch h
 | (y,k)::r,n,x,c,h=>by
  unfold cellsFrom at h;split at h
  ·rename_i d;rw[rP]at h
   rcases bH.mp h with z|z
   ·exact aO _ (Ad r _ z)
   ·rw[aS]at z
    cases z
    have:k=.cell:=by simpa using d
    rw[this];exact aL
  ·exact aO _<|Ad r _ h
theorem xU{α:Type}{x:Str}:∀{l m:List<|Str×α},(l++m).lookup x=match l.lookup x with|some c=>some c|none=>m.lookup x
 | [],_=>rfl
 | (y,c)::l,m=>by
  rw[jz,eT,eT]
  cases x == y with
  | true=>rfl
  | false=>exact xU
def SN{n:Nat}{acc:List<|Str×ak}{x:Str}{c:ak}(h:(cellsFrom n names acc).lookup x=some c):(cellsFrom n names []).lookup x=some c\/((cellsFrom n names []).lookup x=none/\acc.lookup x=some c):=by
 rw[rP,xU]at h
 cases e:(cellsFrom n names []).lookup x with
 | some d=>rw[e]at h;exact .inl h
 | none=>rw[e]at h;exact .inr ⟨rfl,h⟩
def Y3{n:Nat}{acc:List<|Str×ak}{x:Str}(h:(x,NameKind.cell)∉names):(cellsFrom n names acc).lookup x=acc.lookup x:=by
 rw[rP,xU]
 cases e:(cellsFrom n names []).lookup x with
 | some d=>exact absurd (Ad names n<|c6 e) h
 | none=>rfl
def KN{A:aA}{E:af->aC->Prop}{s:aC}{scope:Scope}{globals:ak}{cl:List<|Str×ak}{env:Env}{Q:Env->aC->Prop}
  (hQ:∀h':aq,h'.Ns s.heap.objs.size (λ_=>none)->(∀b o,s.heap.get? b=some o->h'.get? b=some o)->CellsOk h' (s.heap.objs.size+1) (cellsFrom (s.heap.objs.size+1) scope.names []) ->
   Q (newEnv scope s.heap.objs.size globals (cellsFrom (s.heap.objs.size+1) scope.names cl) qual none .none (some env) builtinsNs) { s with heap:=h',toks:=s.toks+([]:List<|Str×af).length }) :
  wpAny M A (newFunctionEnv scope globals cl [] qual none .none<|some env) Q E s:=by
 dsimp[newFunctionEnv,jh,fq];refine aG<|wpAny_alloc ?_;refine aG (wpAny_layCells _ (λname kind cells=>by cases d:kind == NameKind.cell<;>simp[d]) _ _ _ _ ?_);have ok:=cellsFrom_ok scope.names (s.heap.push { cls:=.type "dict",data:=.dict #[]}) (s.heap.objs.size+1) [] ⟨λ_ _ f=>(nomatch f),List.Pairwise.nil⟩ (by rw[c_];exact aN _);rw[c_]at ok;rw[show({ s with heap:=s.heap.push { cls:=.type "dict",data:=.dict #[]}}:aC).heap.objs.size=s.heap.objs.size+1 from c_ ..];rw[ji];refine aG<|aM<|aM ?_;exact hQ _ ((Heap.Ns.new s.heap<|.type "dict").keeps<|pushCells_keeps _ _) (λb o e=>pushCells_keeps _ _ b o<|aQ _ e) ok
abbrev lR (X:Cx)(scope:Scope)(N:ar)(C:ak)(s₀:aC)(H₀:Hp)(ex:bb):Cx where
 prog:=X.prog
 w:=X.w
 K:=X.K
 mg:=X.mg
 base:=X.base
 A:=X.A
 N:=N
 s₀:=s₀
 H₀:=H₀
 env:=compEnvC scope (cellsFrom (C+1) scope.names<|wz X.env scope.names []) C X.env
 outer:=X.stack
 stack:=X.stack
 ex:=ex
 fn:=λx=>scope.names.lookup x == some .cell
 calm:=X.calm
 pn:=[]
 xe:=λ_ _=>False
structure CpScope (X:Cx)(scope:Scope)(N:ar)(cap:List (bj)):Prop where
 kind:scope.kind=.function
 nocf:∀x,(x,NameKind.free)∈scope.names->(x,NameKind.cell)∉scope.names
 nm:∀y∈scope.names,y.2=.local->scope.names.lookup y.1=some .local
 fr:∀y∈scope.names,y.2=.free->X.env.kindOf y.1=some .cell\/X.env.kindOf y.1=some .free
 rl:∀y,((relabel scope X.env).names.lookup y=some .cell\/(relabel scope X.env).names.lookup y=some .free)->(y,NameKind.free)∈scope.names\/scope.names.lookup y=some .cell
 len:cap.length=N.length
 nolf:∀x,(x,NameKind.free)∈scope.names->scope.names.lookup x≠some .local
 cp:∀(i j:Nat) (x:Str),N[i]?=some x->cap[i]?=some (some j)->X.N[j]?=some x/\(x,NameKind.free)∈scope.names
def Rk{X:Cx}{scope:Scope}{N:ar}{cap:List<|bj}{H:Hp}{s:aC}{fp:bb}{h₁:aq}{m:Str->bd}{tk:Nat}(S:CpScope X scope N cap)(I:Inv X pins σ H s)
  (hf:∀b∈fp,wC X pins H b) (ho:∀b∈fp,∃o,s.heap.get? b=some o) (hn:h₁.Ns s.heap.objs.size m) (hC:CellsOk h₁ (s.heap.objs.size+1)<|cellsFrom (s.heap.objs.size+1) scope.names []) (hk:∀b o,s.heap.get? b=some o->h₁.get? b=some o) :
  Inv (lR X scope N s.heap.objs.size s H fp) [] (cap.map<|Tv σ) H { s with heap:=h₁,toks:=tk }:=by
 mg_lt;have T:∀x c,(wz X.env scope.names []).lookup x=some c->X.env.cells.lookup x=some c:=λx c e=>by
  rcases Ci hfree e with z|z
  ·exact z
  ·cases z
 have f:∀x c,(cellsFrom (s.heap.objs.size+1) scope.names<|wz X.env scope.names []).lookup x=some c->((x,c)∈cellsFrom (s.heap.objs.size+1) scope.names []/\h₁.IsCell c none/\s.heap.objs.size+1<=c)\/X.env.cells.lookup x=some c:=λx c e=>by
  rcases SN e with z|z
  ·exact .inl ⟨c6 z,hC.empty x c<|c6 z⟩
  ·exact .inr<|T x c z.2
 have old:∀x c,X.env.cells.lookup x=some c->c<s.heap.objs.size:=λx c e=>by
  obtain⟨v,z⟩:=I.cell x c e;exact z.lt
 have lt:∀b o,s.heap.get? b=some o->b≠s.heap.objs.size:=λb o e=>bD<|a_ e;refine⟨⟨I.ok.mod,?_,I.ok.glob,I.ok.blt,aN _,?_,?_,?_,I.ok.hd,I.ok.frames,.inl rfl,?_,I.bs,bK I.ok.bsz I.sz,?_,?_,I.stack,I.Ji⟩,rfl,I.bare,Un.kept hk,?_,?_,I.hok.fresh<|aN _,?_,?_,I.hok.kept hk,?_⟩
 ·exact S.kind
 ·intro x y c e1 e2
  rcases f x c e1 with a|a
  ·rcases f y c e2 with b|b
   ·exact name_of_addr hC.apart a.1 b.1
   ·exact absurd (old y c b)<|not_lt.mpr<|dX a.2.2
  ·rcases f y c e2 with b|b
   ·exact absurd (old x c a) (not_lt.mpr<|dX b.2.2)
   ·exact I.ok.inj x y c a b
 ·intro x e;refine dF.mp (fM _ _ _ ?_)
  rcases S.rl x e with t|t
  ·exact .inr (AJ (env:=X.env) (cs:=[]) t)
  ·exact .inl t
 ·intro x c e D;have e:scope.names.lookup x=some .cell:=by
   have e:(scope.names.lookup x == some .cell)=true:=e;simpa using e
  obtain⟨d,hd⟩:=dF.mp<|fM scope.names (s.heap.objs.size+1) []<|.inl e;have D:(cellsFrom (s.heap.objs.size+1) scope.names<|wz X.env scope.names []).lookup x=some c:=D;rw[rP,xU,hd]at D
  cases D
  exact dX (hC.empty x c<|c6 hd).2
 ·intro b hb;obtain⟨o,e⟩:=ho b hb;refine⟨lt b o e,λx c e2=>?_⟩
  rcases f x c e2 with z|z
  ·exact jE (jG (a_ e) z.2.2)
  ·exact(hf b hb).2.2.2.2.1 x c z
 ·intro b o e hb;obtain⟨_,_,_,h3,_⟩:=hf b hb
  rcases h3 with z|z
  ·exact I.ok.noex b o e z
  ·exact absurd (bQ (a_ (I.ok.bs b o e).1) z)<|fW _
 ·intro b hb hz;obtain⟨_,h1,h2,_⟩:=hf b hb
  rcases bG.mp (I.HY b hz)with z|z
  ·exact h1 z
  ·exact h2 z
 ·refine⟨m,hn,λi x v e1 e2 e3=>?_⟩;rw[aR]at e2
  cases hc:cap[i]? with
  | none=>rw[hc]at e2;cases e2
  | some W=>
   rw[hc]at e2
   cases W with
   | none=>cases e2
   | some j=>
    have q:(σ[j]?).getD none=some v:=bg e2;obtain⟨Y,t⟩:=S.cp i j x e1 hc;obtain⟨m0,Z,L⟩:=I.loc;have M:σ[j]?=some (some v):=by
     cases h:σ[j]? with
     | none=>rw[h]at q;cases q
     | some z=>rw[h,dh]at q;rw[q]
    have J:=S.fr (x,.free) t rfl;have hv:Vis X.env.scope x:=.inr J;obtain⟨u,ru,lo⟩:=L j x v Y M hv;refine⟨u,ru,?_⟩
    rcases lo with⟨lo,_⟩|⟨_,c,D,V⟩
    ·rcases J with z|z<;>(rw[z]at lo;cases lo)
    ·have h2:=AJ (env:=X.env) (cs:=[]) t;obtain⟨K,B⟩:=dF.mp h2;have:K=c:=bg<|(T x K B).symm.trans D;subst this;refine .inr ⟨?_,K,(Y3<|S.nocf x t).trans B,?_⟩
     ·rcases e3 with z|z|z
      ·exfalso;have:(relabel scope X.env).names.lookup x=some .local:=z;have F:scope.names.lookup x=some .local:=by
        have G:∃k,(x,k)∈(relabel scope X.env).names/\k=.local:=by
         clear B h2;have:=zV this;exact⟨_,this,rfl⟩
        obtain⟨k,O,rfl⟩:=G;obtain⟨⟨n',k'⟩,P,g⟩:=bq.mp O;dsimp only at g;split at g
        ·cases g
        ·cases g
         exact S.nm (x,.local) P rfl
       exact False.elim<|S.nolf x t F
      ·exact .inl z
      ·exact .inr z
     ·obtain⟨o,C,hd⟩:=V;exact⟨o,hk _ _ C,hd⟩
 ·intro x c e
  rcases f x c e with z|z
  ·exact⟨_,z.2.1⟩
  ·obtain⟨v,o,C,hd⟩:=I.cell x c z;exact⟨v,o,hk _ _ C,hd⟩
 ·intro x c e
  rcases f x c e with z|z
  ·exact I.hok.fresh (dX z.2.2)
  ·exact I.freeC x c z
 ·intro p U
  cases U
 ·rw[aH,S.len];rfl
abbrev SJ (X:Cx)(ifs:List aE)(t:TT):Prop:=
 ∀(pins:bn) (s:aC) (σ:St) (H:Hp) (Q:Bool->Hp->Prop),Inv X pins σ H s->t σ H Q ->
  wpAny (model X.prog X.w) X.A (forIn ifs true λc r=>if r=true then do let ok <- isTrue c X.env (eval c X.env);pure (ForInStep.yield ok)else pure (ForInStep.yield r)) (TP X pins σ Q) X.xe s
abbrev ac_:TT:=λ_ H Q=>Q true H
def U1{X:Cx}:SJ X [] ac_:=λ_ _ _ H _ I h=>wpAny_tests_nil ⟨H,I,h⟩
def Vq{X:Cx}{c:aE}{t:TT}(h:PT X c t):SJ X [c] t:=λpins s σ H Q I q=>wpAny_tests_one<|h pins s σ H Q I q
abbrev Ye (cap:List<|bj)(g:TG)(tc:TT)(te:TE)(σ:St)(Q:VK)(J:It)(H1:Hp):Prop:=∀D,H1 D=none ->
 ∃W:Nat->Nat->St->Hp->Prop,(∃m,W 0 m (cap.map<|Tv σ)<|upd H1 D<|.lst [])/\∀i m f H',W i m f H' ->
  (J.stop i H'/\Q (.ref D) H')\/(J.go i H'/\∀x H2,J.yld i H' x H2->g x f H2 λd H3=>tc d H3 λb p=>
   if b=true then te d p λy k=>∃ys,k D=some (.lst ys)/\ys.length<sizeLine/\∃j,j<m/\W (i+1) j d (upd k D<|.lst<|ys++[y])
   else ∃j,j<m/\W (i+1) j d p)
abbrev tLC (cap:List<|bj)(wi:TI)(g:TG)(tc:TT)(te:TE):TE:=λσ H Q=>wi σ H<|Ye cap g tc te σ Q
def Fb{α:Type}{t:Sem α}{Q Q':α->aC->Prop}{A:aA}{E:af->aC->Prop}(h:wpAny M A t Q (λ_ _=>False) s)(hQ:∀a s,Q a s->Q' a s):wpAny M A t Q' E s:=
 fL h hQ λ_ _ f=>f.elim
structure TurnG (ok:Cx->Prop)(P:aj)(w:ah)(K:au)(tg:aE)(J:It)(fp:bb)(it:ak)(tn:Nat->aq->Prop):Prop where
 obj:∀i h,tn i h->∀b∈fp,∃o,h.get? b=some o/\∀v,o.data≠.cell v
 keep:∀i h h',tn i h->(∀b∈fp,∀o,h.get? b=some o->h'.get? b=some o)->tn i h'
 item:∀(X:Cx),X.prog=P->X.w=w->X.K=K->ok X->∀(i:Nat) (pins:bn) (s:aC) (σ:St) (H:Hp) (E:af->aC->Prop),Inv X pins σ H s->(∀b∈fp,wC X pins H b)->tn i s.heap->J.go i H ->
  wpAny (model P w) X.A (pyNext<|.ref it) (λr s1=>∃u,r=some u /\
   wpAny (model P w) X.A (letOwnedTupleGo tg (.ref it) u) (λ_ s2=>∃x H',Inv X pins σ H' s2/\RelV x u/\J.yld i H x H'/\tn (i+1) s2.heap/\∀b∈fp,H' b=none) E s1) E s
 done:∀(X:Cx),X.prog=P->X.w=w->X.K=K->ok X->∀(i:Nat) (pins:bn) (s:aC) (σ:St) (H:Hp) (E:af->aC->Prop),Inv X pins σ H s->(∀b∈fp,wC X pins H b)->tn i s.heap->J.stop i H ->
  wpAny (model P w) X.A (pyNext<|.ref it) (λr s1=>r=none/\Inv X pins σ H s1) E s
 self:∀(A:aA) (i:Nat) (s:aC) (Q:af->aC->Prop) (E:af->aC->Prop),tn i s.heap->Q (.ref it) s->wpAny (model P w) A (pyIter<|.ref it) Q E s
abbrev acS (ok:Cx->Prop)(X:Cx)(pins:bn)(σ:St)(tg:aE)(R:It->Hp->Prop)(itv:af)(s2:aC):Prop:=
 ∃(it:ak) (d:bb) (f:Nat->aq->Prop) (J:It) (H':Hp),itv=.ref it/\Inv X pins σ H' s2/\TurnG ok X.prog X.w X.K tg J d it f/\f 0 s2.heap/\(∀b∈d,wC X pins H' b)/\R J H'
abbrev PIg (ok:Cx->Prop)(X:Cx)(tg iter:aE)(wi:TI):Prop:=
 ∀(pins:bn) (s:aC) (σ:St) (H:Hp) (R:It->Hp->Prop),Inv X pins σ H s->wi σ H R ->
  wpAny (model X.prog X.w) X.A (eval iter X.env) (λv d=>wpAny (model X.prog X.w) X.A (pyIter v) (acS ok X pins σ tg R) X.xe d) X.xe s
def PI.g{X:Cx}{iter:aE}{wi:TI}(h:PI X tg iter wi):PIg (λY=>Y.calm=true) X tg iter wi:=λpins s σ H R I q=>
 nq (h pins s σ H R I q) λv t h1=>nq h1 λf p ⟨it,j,k,J,H',e,d,T,a,b,c⟩=>⟨it,j,k,J,H',e,d,⟨T.obj,T.keep,T.item,T.done,T.self⟩,a,b,c⟩
def II{ok:Cx->Prop}{X:Cx}{use:Option<|af->Sem Unit}{Q':af->aC->Prop}{iter:aE}{N:ar}{wi:TI}{g:TG}{tc:TT}{te:TE}(S:CpScope X scope N cap)(hok:∀C s₀ H₀ ex,(∀a o u,X.H₀ a=some (.frz o u)->H₀ a=some (.frz o u))->ok (lR X scope N C s₀ H₀ ex))(hi:PIg ok X tg iter wi)
  (hg:∀C s₀ H₀ ex,PG (lR X scope N C s₀ H₀ ex) tg g) (ht:∀C s₀ H₀ ex,SJ (lR X scope N C s₀ H₀ ex) ifs tc) (he:∀C s₀ H₀ ex,PE (lR X scope N C s₀ H₀ ex) elt te)
  (hs:(∀x,foldedSetIterable iter X.env x=pure x)<|>ζ):∀(pins:bn) (s:aC) (σ:St) (H:Hp) (Q:VK),Inv X pins σ H s->tLC cap wi g tc te σ H Q ->
  (∀(s6:aC) (C D:ak) (H5:Hp) (m:Str->bd),s6.heap.Ns C m->wC X pins H5 C->(∀h',Heap.SameBut C s6.heap h'->Inv X pins σ H5 { s6 with heap:=h' })->Q (.ref D) H5->∀v,compPost (model X.prog X.w) X.A X.xe use Q' (.ref D) C (.ok v) s6) ->
  wpAny (model X.prog X.w) X.A (comprehension (.ListComp elt [⟨tg,iter,ifs,0⟩] scope pos) scope X.env (firstIterPos [⟨tg,iter,ifs,0⟩] pos) (newList []) (firstAsync [⟨tg,iter,ifs,0⟩]) (firstIter [⟨tg,iter,ifs,0⟩] X.env) use) Q' X.xe s:=by
 intro pins s σ H Q I h hfin;mg_lt;refine wpAny_comprehension_free (use:=use) rfl hs (AK hfree) S.kind S.nm<|nq (hi pins s σ H _ I h) λxv s1 h1=>nq h1 λitv f h2=>?_;obtain⟨it,fp,tn,J,H2,rfl,I2,T,st2,f2,h2⟩:=h2;refine cC<|KN λP t old k=>?_;obtain⟨W,⟨m0,w0⟩,turn⟩:=h2 f.heap.objs.size I2.fresh;dsimp only at t old k ⊢;have I3:Inv X pins σ (upd H2 f.heap.objs.size<|.lst []) { f with heap:=f.heap.push {}}:=I2.XW (t':=f.toks) (its:=[]) .nil<|bF _;have hfp:∀b∈fp,∃o,f.heap.get? b=some o:=λb hb=>by
  obtain⟨o,e,_⟩:=T.obj 0 _ st2 b hb;exact⟨o,e⟩
 have neD:∀b∈fp,b≠f.heap.objs.size:=λb hb=>by
  obtain⟨o,e⟩:=hfp b hb;exact bD<|a_ e
 have f3:∀b∈fp,wC X pins (upd H2 f.heap.objs.size<|.lst []) b:=λb hb=>⟨by rw[jZ<|neD b hb];exact(f2 b hb).1,(f2 b hb).2⟩;have hDC:f.heap.objs.size≠(f.heap.push {}).objs.size:=by rw[c_];exact bD (dI _)
 have I4:=Rk (tk:=f.toks+([]:List<|Str×af).length) (fp:=fp) S I3 f3 (λb hb=>by
  obtain⟨o,e⟩:=hfp b hb;exact⟨o,aQ _ e⟩) t k old
 have st4:tn 0 P:=T.keep _ _ _ st2 λb hb o e=>old b o<|aQ _ e;have hc:=hok (f.heap.push {}).objs.size { f with heap:=f.heap.push {}} (upd H2 f.heap.objs.size<|.lst []) fp λa o u e=>by
  have z:=I2.base.frzs a o u e;rw[jZ λq=>by rw[q,I2.fresh]at z;cases z];exact z
 have K:∀{H':Hp},(∀b∈fp,H' b=none)->∀b∈fp,wC (lR X scope N (f.heap.push {}).objs.size { f with heap:=f.heap.push {}} (upd H2 f.heap.objs.size<|.lst []) fp) [] H' b:=λhn b hb=>by
  have ok:=I4.ok;refine⟨hn b hb,(ok.exf b hb).1,ok.exfs b hb,.inl hb,λx c e=>(ok.exf b hb).2 x c e,λp hp=>nomatch hp⟩
 have O:∀s4:aC,s4={ f with heap:=P,toks:=f.toks+([]:List<|Str×af).length } ->
   codeAny (model X.prog X.w) X.A (.compLoop (.ListComp elt [⟨tg,iter,ifs,0⟩] scope pos) 0 (.ref it) (.ref f.heap.objs.size)<|compEnvC scope (cellsFrom ((f.heap.push {}).objs.size+1) scope.names<|wz X.env scope.names []) (f.heap.push {}).objs.size X.env)
    (compPost (model X.prog X.w) X.A X.xe use Q' (.ref f.heap.objs.size) (f.heap.push {}).objs.size) s4:=by
  rintro s4 rfl;refine codeAny_loop rfl (λn s'=>∃i G H',Inv (lR X scope N (f.heap.push {}).objs.size { f with heap:=f.heap.push {}} (upd H2 f.heap.objs.size<|.lst []) fp) [] G H' s'/\tn i s'.heap/\(∀b∈fp,H' b=none)/\W i n G H') (λn s5 hI=>?_) m0 ⟨0,_,_,I4,st4,λb hb=>(f3 b hb).1,w0⟩;obtain⟨i,M,H5,I5,st5,fr5,w5⟩:=hI;show wpAny _ X.A ((compTurn (.ListComp elt [⟨tg,iter,ifs,0⟩] scope pos) 0 (.ref it) (.ref f.heap.objs.size)<|compEnvC scope (cellsFrom ((f.heap.push {}).objs.size+1) scope.names<|wz X.env scope.names []) (f.heap.push {}).objs.size X.env).onRaise λx=>do noteFrame x _;theTreesLotGoes x) _ _ s5;refine wpAny_noted ?_;rw[compTurn_list];refine aG (fX<|aG ?_)
  rcases turn i n M H5 w5 with⟨stop,q⟩|⟨go,step⟩
  ·refine nq (T.done (lR X scope N (f.heap.push {}).objs.size { f with heap:=f.heap.push {}} (upd H2 f.heap.objs.size<|.lst []) fp) rfl rfl rfl hc i [] s5 M H5 _ I5 (K fr5) st5 stop) λr s6 h9=>?_;obtain⟨hr,I6⟩:=h9;subst hr;obtain⟨m6,hn6,_⟩:=I6.loc;refine aM<|hfin s6 _ _ H5 m6 hn6 (I3.Ed (aN _) I6.free) (λh' sb=>?_) q _;have U:=I6.base;have nC:∀b o,(f.heap.push {}).get? b=some o->b≠(f.heap.push {}).objs.size:=λb o e=>bD<|a_ e;refine I3.Nt (ch:=fp) I6.os ⟨λb o e n hb Y=>?_,λb o e n hb Y=>?_,λb o e n Y=>?_,λb o e Y=>?_,U.tups,U.frzs,U.tbls⟩ ?_ I6.bare ?_
   ·exact sb.extBut b o (nC b o e) (U.keep b o e n hb Y)
   ·obtain⟨sl,z⟩:=U.slot b o e n hb Y;exact⟨sl,sb.extBut b _ (nC b o e) z⟩
   ·exact U.free b o e n Y
   ·obtain⟨o',z⟩:=U.there b o e Y;exact⟨o',sb.extBut b _ (nC b o e) z⟩
   ·intro b o e;have hb:∀c v,H5 c=some v->c≠(f.heap.push {}).objs.size:=λc v e z=>by
     rw[z]at e;have:=I6.free;rw[show H5 (f.heap.push {}).objs.size=none from this]at e
     cases e
    refine(I6.hok b o e).stay (λc v hc q=>sb.extBut c v ?_ q) (λ_ q=>q) λ_ _ q=>q
    rcases hc with z|z
    ·rw[z];exact hb b o e
    ·exact hb c _ z
   ·intro b hb;obtain⟨_,z1,_,z3,z4,z5⟩:=f3 b hb;exact⟨z3,z1,z4,z5⟩
  ·refine nq (T.item (lR X scope N (f.heap.push {}).objs.size { f with heap:=f.heap.push {}} (upd H2 f.heap.objs.size<|.lst []) fp) rfl rfl rfl hc i [] s5 M H5 _ I5 (K fr5) st5 go) λr s6 h9=>?_;obtain⟨u,hr,h6⟩:=h9;subst hr;refine aG<|nq h6 λ_ s7 ⟨x,H7,I7,r7,y7,Z,fr7⟩=>?_;have I7':=I7.pinned (K fr7)<|T.obj _ _ Z;refine aG<|Fb (hg _ _ _ fp _ s7 M H7 x u _ I7' r7<|step x H7 y7) λ_ s8 ⟨B,H8,I8,q8⟩=>?_;refine aG<|Fb (ht _ _ _ fp _ s8 B H8 _ I8 q8) λok s9 ⟨H9,I9,q9⟩=>?_;have again:∀{F:aC} {j:Hp},Inv (lR X scope N (f.heap.push {}).objs.size { f with heap:=f.heap.push {}} (upd H2 f.heap.objs.size<|.lst []) fp) ([]++yL fp s7.heap) B j F->(∃m',m'<n/\W (i+1) m' B j) ->
     ∃m,m<n/\∃i G H',Inv (lR X scope N (f.heap.push {}).objs.size { f with heap:=f.heap.push {}} (upd H2 f.heap.objs.size<|.lst []) fp) [] G H' F/\tn i F.heap/\(∀b∈fp,H' b=none)/\W i m G H':=λ{F j} L h9=>by
    obtain⟨m',hm,V⟩:=h9;refine⟨m',hm,i+1,B,j,L.tV,T.keep _ _ _ Z λb hb o e=>(L.pin (b,o)<|bM _<|bM _<|oM hb e).1,λb hb=>?_,V⟩;obtain⟨o,e,d⟩:=T.obj _ _ Z b hb;exact(L.pin (b,o)<|bM _<|bM _<|oM hb e).2.1
   cases ok with
   | false=>
    rw[aV bw]at q9;exact aM ⟨rfl,again I9 q9⟩
   | true=>
    rw[aW rfl]at q9;refine aG<|aG<|Fb (he _ _ _ fp _ s9 B H9 _ I9 q9) λy F ⟨v10,j,L,r10,ys,hD,hz,V⟩=>?_;refine aG<|Fb (B8 _ F B j (.ref f.heap.objs.size) [v10] _ [y] (λ_ H'=>H'=upd j f.heap.objs.size (.lst<|ys++[v10])) L rfl (.cons r10 .nil) ⟨_,ys,v10,rfl,rfl,hD,hz,rfl⟩) λ_ s11 ⟨_,H11,I11,_,e11⟩=>?_;subst e11;exact aM<|aM ⟨rfl,again I11 V⟩
 exact codeAny_compStart_list (O _ rfl)<|T.self _ 0 _ _ _ st4<|O _ rfl
def YS{ok:Cx->Prop}{X:Cx}{iter:aE}{N:ar}{wi:TI}{g:TG}{tc:TT}{te:TE}(S:CpScope X scope N cap)(hok:∀C s₀ H₀ ex,(∀a o u,X.H₀ a=some (.frz o u)->H₀ a=some (.frz o u))->ok (lR X scope N C s₀ H₀ ex))(hi:PIg ok X tg iter wi)
  (hg:∀C s₀ H₀ ex,PG (lR X scope N C s₀ H₀ ex) tg g) (ht:∀C s₀ H₀ ex,SJ (lR X scope N C s₀ H₀ ex) ifs tc) (he:∀C s₀ H₀ ex,PE (lR X scope N C s₀ H₀ ex) elt te)
  (hs:(∀x,foldedSetIterable iter X.env x=pure x)<|>ζ):PE X (.ListComp elt [⟨tg,iter,ifs,0⟩] scope pos) (tLC cap wi g tc te):=by
 gn_on;rw[eval_ListComp];exact II (use:=none) (Q':=EP X pins σ Q) S hok hi hg ht he hs pins s σ H Q I h λk C D d m hn j inv q v=>⟨m,hn,λh' f=>⟨.ref D,d,inv h' f,rfl,q⟩⟩
def abg{X:Cx}{iter:aE}{N:ar}{wi:TI}{g:TG}{tc:TT}{te:TE}(hc:X.calm=true)(S:CpScope X scope N cap)(hi:PI X tg iter wi)
  (hg:∀C s₀ H₀ ex,PG (lR X scope N C s₀ H₀ ex) tg g) (ht:∀C s₀ H₀ ex,SJ (lR X scope N C s₀ H₀ ex) ifs tc) (he:∀C s₀ H₀ ex,PE (lR X scope N C s₀ H₀ ex) elt te)
  (hs:(∀x,foldedSetIterable iter X.env x=pure x)<|>ζ):PE X (.ListComp elt [⟨tg,iter,ifs,0⟩] scope pos) (tLC cap wi g tc te):=
 YS S (λ_ _ _ _ _=>hc) hi.g hg ht he hs
section
variable {X:Cx}
def EU{bs:List Bool}:∀{us:ba},Vals (bs.map V.bl) us->LSm.BoolsAre us bs:=by
 induction bs with
 | nil=>intro us r;cases r;exact .nil
 | cons b bs d=>
  intro us r
  cases r with
  | cons h t=>
   have e:_=Value.bool b:=h;subst e;exact .cons b<|d t
def LP(hc:X.calm=true):kM X (.builtin "all") (λxs H Q=>∃(p:ak) (bs:List Bool),xs=[.ref p]/\oS X.K H p (bs.map V.bl)/\Q (.bl<|bs.all id) H):=by
 kt_k;obtain⟨p,bs,rfl,hq,q⟩:=h;kcf_m
 cases rx
 obtain⟨d,t,pl,F⟩:=I.list hq;have hb:=EU t;have f:=pl.isList;have g:p<s.heap.objs.size:=by obtain⟨_,e,_⟩:=f;exact a_ e
 refine call_all_walk<|gU f ?_;refine⟨s.heap.objs.size,[s.heap.objs.size,p],[s.heap.objs.size],d.toArray.size,_,_,λi=>(bs[i]?).getD true,rfl,Walks.list (A:=X.A.in1) (I.ok.hd hc) _ p (bD g) d.toArray,
  ⟨⟨_,br _ rfl,rfl,rfl⟩,f.push _⟩,λi v s' B C hP j=>?_,λh' D k=>?_⟩
 ·obtain⟨b,e,rfl⟩:=hb.get i v (by simpa using hP);dsimp[e,dh]at j;exact cP j
 ·have e:((List.range d.toArray.size).all λi=>(bs[i]?).getD true)=bs.all id:=by
   rw[aX,hb.length];exact LSm.range_all bs
  rw[e];exact⟨.bl _,H,I.kept<|LSm.kept_iter k,rfl,q⟩
def LH(hc:X.calm=true):kM X (.builtin "any") (λxs H Q=>∃(p:ak) (bs:List Bool),xs=[.ref p]/\oS X.K H p (bs.map V.bl)/\Q (.bl<|bs.any id) H):=by
 kt_k;obtain⟨p,bs,rfl,hq,q⟩:=h;kcf_m
 cases rx
 obtain⟨d,t,pl,F⟩:=I.list hq;have hb:=EU t;have f:=pl.isList;have g:p<s.heap.objs.size:=by obtain⟨_,e,_⟩:=f;exact a_ e
 refine call_any_walk<|gU f ?_;refine⟨s.heap.objs.size,[s.heap.objs.size,p],[s.heap.objs.size],d.toArray.size,_,_,λi=>(bs[i]?).getD false,rfl,Walks.list (A:=X.A.in1) (I.ok.hd hc) _ p (bD g) d.toArray,
  ⟨⟨_,br _ rfl,rfl,rfl⟩,f.push _⟩,λi v s' B C hP j=>?_,λh' D k=>?_⟩
 ·obtain⟨b,e,rfl⟩:=hb.get i v (by simpa using hP);dsimp[e,dh]at j;exact cP j
 ·have e:((List.range d.toArray.size).any λi=>(bs[i]?).getD false)=bs.any id:=by
   rw[aX,hb.length];exact LSm.range_any bs
  rw[e];exact⟨.bl _,H,I.kept<|LSm.kept_iter k,rfl,q⟩
def LD:oR X (compareOp .IsNot) (λx y H Q=>∃a b,x=.bl a/\y=.bl b/\Q (.bl<|a != b) H):=by
 kpf_c;obtain⟨a,b,rfl,rfl,q⟩:=h
 cases rx;cases ry
 exact isnot_bool ⟨.bl _,H,I,rfl,q⟩
def CU:kM X (.type "range") (λxs H Q=>∃i j,xs=[.int i,.int j]/\∀p,H p=none->Q (.ref p) (upd H p<|.rng i j)):=by
 kt_k;obtain⟨i,j,rfl,q⟩:=h;obtain⟨u,f,rfl,⟨t,rfl⟩,⟨d,rfl⟩⟩:=vals2 r;refine call_range_2 ⟨.ref s.heap.objs.size,_,I.laid (o:=.rng i j) (λb o e=>aQ _ e) (aN _) ?_,rfl,q _ I.fresh⟩;exact⟨t,d,s.toks,br _ rfl⟩
abbrev l8 (i j:Int):ag:=(List.range (j-i).toNat).map λk:Nat=>i+(k:Int)
def tD(i j:Int):(l8 i j).length=(j-i).toNat:=by unfold l8;rw[aH,bR]
def AA{i:Int}{n:Nat}{acc:Array af}(h:ItemsOf (λk v=>∃t,v=Value.int (i+(k:Int) * 1) t) acc n):Vals (((List.range n).map λk:Nat=>i+(k:Int)).map V.int) acc.toList:=by
 obtain⟨hs,hv⟩:=h;have d:∀(l:ba) (b:Nat),(∀j v,l[j]?=some v->∃t,v=Value.int (i+((b+j:Nat):Int)) t)->Vals (((List.range' b l.length).map λk:Nat=>i+(k:Int)).map V.int) l:=by
  intro l
  induction l with
  | nil=>intro b _;exact .nil
  | cons v l g=>
   intro b hb;rw[bB,iM,bC,bC];refine .cons ?_ ?_
   ·obtain⟨t,e⟩:=hb 0 v rfl;exact⟨t,by rw[e];simp⟩
   ·refine g (b+1) λj w hw=>?_;obtain⟨t,e⟩:=hb (j+1) w hw;exact⟨t,by rw[e,show b+(j+1)=b+1+j by lia]⟩
 have:=d acc.toList 0 λj v f=>by
  obtain⟨t,e⟩:=hv j v (by simpa using f);exact⟨t,by rw[e,cz,Int.mul_one]⟩
 rw[eF,hs,<- f_]at this;exact this
def P_{i j:Int}:Builtin.Range.rangeSize i j 1=(((j-i).toNat:Nat):Int):=by rw[rangeSize_one];split<;>omega
def BI(hc:X.calm=true):kM X (.type "list") (λxs H Q=>∃p i j,xs=[.ref p]/\H p=some (.rng i j)/\(-(2 ^ 62)<=i/\i<2 ^ 62/\-(2 ^ 62)<=j/\j<2 ^ 62)/\(j-i).toNat<=1000/\∀l,H l=none->Q (.ref l) (upd H l<|.lst<|(l8 i j).map V.int)):=by
 kt_k;obtain⟨p,i,j,rfl,k,⟨F,C,D,G⟩,hn,q⟩:=h;kcf_m
 cases rx
 obtain⟨t,K,v,e⟩:=I.hok p _ k;refine call_list_range (n:=(j-i).toNat) (I.ok.hd hc) e (small_one F C D G) P_ () λh' J d B g hS f=>?_;refine⟨.ref s.heap.objs.size,_,I.laid (o:=.lst<|(l8 i j).map V.int) g (aN _) ⟨?_,d.toList,B,AA f,by rw[hS]⟩,rfl,q _ I.fresh⟩;rw[aH,tD,eS];lia
end
section
variable {X:Cx}
def E8{prog:aj}{w:ah}{A:aA}{E:af->aC->Prop}{s:aC}{Q:ba->aC->Prop}{r:ak}{a b c:Int}{t v:Tok}{n:Nat}(hh:A.handled=none)(hr:IsRange s.heap r a b c t u v)(hsmall:Builtin.Range.small a b c=true)
  (hn:Builtin.Range.rangeSize a b c=n) (hlen:n<=2 ^ 24)
  (hQ:∀h' tk (acc':Array af),(∀b o,s.heap.get? b=some o->h'.get? b=some o)->ItemsOf (λi v=>∃t,v=.int (a+i * c) t) acc' n->Q acc'.toList { s with heap:=h',toks:=tk }) :
  wpAny (model prog w) A (collect<|.ref r) Q E s:=by
 unfold collect;refine aG<|wpAny_runValue<|fQ F.entry_proto_collect ?_;rw[d7 F.plain_proto_collect _]
 skip
 refine aG<|cC ?_;refine aM ⟨iP F.plain_list_iadd _,fQ F.entry_list_iadd ?_⟩;rw[d7 F.plain_list_iadd _]
 skip
 have hS:(s.heap.push {}).get? s.heap.objs.size=some { cls:=.type "list",data:=.seq #[] 0 }:=br _ rfl;have k:∀(h':aq) (tk:Nat) (acc':Array af) (j:Nat),(∀b o,b≠s.heap.objs.size->(s.heap.push {}).get? b=some o->h'.get? b=some o) ->
   h'.get? s.heap.objs.size=some { cls:=.type "list",dict:=none,data:=.seq acc' j,slots:=#[]}->ItemsOf (λi v=>∃t,v=.int (a+i * c) t) acc' n ->
   wpAny (model prog w) A (match Value.ref s.heap.objs.size with
   | Value.ref a=>do
    match (<- load a).data with
     | Data.seq xs _=>pure xs.toList
     | _=>unsupported "internal:collect"
   | _=>unsupported "internal:collect") Q E { s with heap:=h',toks:=tk }:=by
  intro h' tk acc' j p g d
  skip
  refine aG<|wpAny_load g ?_;refine aM ?_;exact hQ h' tk acc' (λb o e=>p b o (bD<|a_ e)<|aQ _ e) d
 refine fL (wpAny_extend_range (A:=A) (R:=λC s'=>C=.ok (.ret<|.ref s.heap.objs.size)/\∃h' tk acc' j,s'={ s with heap:=h',toks:=tk }/\(∀b o,b≠s.heap.objs.size->(s.heap.push {}).get? b=some o->h'.get? b=some o) /\
   h'.get? s.heap.objs.size=some { cls:=.type "list",dict:=none,data:=.seq acc' j,slots:=#[]}/\ItemsOf (λi v=>∃t,v=.int (a+i * c) t) acc' n)
  (s:={ s with heap:=s.heap.push {}}) hh (aQ _ hr) hsmall hn hlen s.heap.objs.size (.ref s.heap.objs.size) 0 hS
  (λh' tk acc' j p g d=>⟨rfl,h',tk,acc',j,rfl,p,g,d⟩)) (λq s' h=>?_) λe s' h=>?_
 ·cases q with
  | done f=>
   obtain⟨e,h',tk,acc',j,rfl,p,g,d⟩:=h
   cases e
   exact k h' tk acc' j p g d
  | again j=>exact⟨h.1,jF h.2 λr B hr=>by
    obtain⟨rfl,h',tk,acc',j,rfl,p,g,d⟩:=hr;exact k h' tk acc' j p g d⟩
 ·exact absurd h.1<|by simp
def wA(l:ak){a b:Int}{t v:Tok}{n:Nat}(hsmall:Builtin.Range.small a b 1=true)
  (hn:Builtin.Range.rangeSize a b 1=n) (hlen:n<=1000) :
  Meets (Builtin.«tuple.__new__» ⟨[.type "tuple",.ref l],[]⟩)
   (λA R s=>A.handled=none/\IsRange s.heap l a b 1 t u v/\∀(h':aq) (tk:Nat) (acc':Array af),(∀b o',s.heap.get? b=some o'->h'.get? b=some o')->ItemsOf (λi v=>∃t,v=.int (a+i * 1) t) acc' n->R (.ok<|.ret<|.ref h'.objs.size) { s with heap:=h'.push { cls:=.type "tuple",data:=.seq acc' },toks:=tk }):=
 .of_wp λprog w A R s h=>by
  obtain⟨F,g,d,tk,C⟩:=s;obtain⟨J,p,h⟩:=h;have B:=sub_tuple_self;have q:=init_tuple_lookup;have G:=madeHere_tuple;have K:Shared.TypeIs ⟨F,g,d,tk,C⟩ (.ref l) "range" := ⟨_,p,rfl⟩;have k:A.in1.handled=none:=J
  wp_walk using dY p,gZ K,E8 (A:=A.in1) k p hsmall hn (by omega)
  intro h' j acc' D f;show wpAny _ _ (Builtin.Tuple.tupleExact acc'.toList.toArray >>= λv=>ret v) _ _ _;unfold Builtin.Tuple.tupleExact;have e:acc'.toList.toArray=acc':=by simp
  refine aG (cC ?_<|by show acc'.toList.toArray.size<=sizeLine;rw[e,f.1,eS];omega);refine aM ⟨_,rfl,?_⟩;rw[e];exact h h' j acc' D f
def Ba(hc:X.calm=true):kM X (.type "tuple") (λxs H Q=>∃p i j,xs=[.ref p]/\H p=some (.rng i j)/\(-(2 ^ 62)<=i/\i<2 ^ 62/\-(2 ^ 62)<=j/\j<2 ^ 62)/\(j-i).toNat<=1000/\∀l,H l=none->Q (.ref l) (upd H l<|.tup<|(l8 i j).map V.int)):=by
 kt_k;obtain⟨p,i,j,rfl,D,⟨K,G,J,L⟩,hn,q⟩:=h;kcf_m
 cases rx
 obtain⟨t,M,v,e⟩:=I.hok p _ D;refine callType_new F.called_tuple ⋯ (F.typeCall_tuple_1 _) (F.newCall_tuple_1 _) (λg=>F.args_object_init_2 g _) F.entry_tuple_new
  (wA (n:=(j-i).toNat) p (small_one K G J L) P_ hn) ⟨I.ok.hd hc,e,λh' k d C f=>⟨⟨_,br _ rfl,rfl⟩,?_⟩⟩
 have B:Inv X pins σ H { s with heap:=h',toks:=k }:=I.kept C;refine⟨.ref h'.objs.size,_,B.laid (t':=k) (o:=.tup<|(l8 i j).map V.int) (λb o e=>aQ _ e) (aN _) ⟨?_,d.toList,AA f,?_⟩,rfl,q _<|B.hok.fresh<|aN _⟩
 ·rw[aH,tD,eS];lia
 ·have e:d.toList.toArray=d:=by simp
  rw[e];exact rR.new _ _
def FI{c:String}:kM X (.builtin "isinstance") (λxs H Q=>∃x t b,xs=[x,.ty c]/\TyOf X.K H x t/\PySem.W.kitOne X.K t (.type c)=some b/\Q (.bl b) H):=by
 kt_k;obtain⟨x,t,b,rfl,ty,e,q⟩:=h;obtain⟨u,g,rfl,rx,f⟩:=vals2 r
 cases f
 exact MR I rx ty e λd=>⟨.bl b,H,I.tok d,rfl,q⟩
abbrev YR (K:au):R2:=λx y H Q=>∃a b ys,x=.ref a/\y=.ref b/\nh K H a []/\nh K H b ys/\Q (.ref b) H
def Rb:oR X (binaryOp .Add) (YR X.K):=by
 kpf_c;obtain⟨a,b,ys,rfl,rfl,h1,h2,q⟩:=h
 cases rx
 cases ry
 obtain⟨us,r1,p1,_⟩:=I.tuple h1;obtain⟨D,r2,p2,_⟩:=I.tuple h2
 cases r1
 obtain⟨⟨cls,F,data,J⟩,t,hc,n,C⟩:=id p1;obtain⟨⟨B,k,p,j⟩,f,g,G,d⟩:=id p2;simp only at hc C g d;subst hc C g d;exact concat_meets ⟨_,t,rfl⟩ ⟨_,f,rfl⟩ noFill_tuple_add seq_tuple_add gW gQ (gF _ _)
   (tuple_addW0 a b _ D.toArray n G F k J j<|by simp) ⟨t,f,⟨.ref b,H,I,rfl,q⟩⟩
end
def sI:bootBuiltins "len" = some (.builtin "len"):=by decide +kernel
def Yb:bootBuiltins "abs" = some (.builtin "abs"):=by decide +kernel
def G8:bootBuiltins "all" = some (.builtin "all"):=by decide +kernel
def W7:bootBuiltins "any" = some (.builtin "any"):=by decide +kernel
def nN:bootBuiltins "sorted" = some (.builtin "sorted"):=by decide +kernel
def nR:bootBuiltins "isinstance" = some (.builtin "isinstance"):=by decide +kernel
def YI:bootBuiltins "int" = some (.type "int"):=by decide +kernel
def Td:bootBuiltins "bool" = some (.type "bool"):=by decide +kernel
def yb:bootBuiltins "list" = some (.type "list"):=by decide +kernel
def vQ:bootBuiltins "tuple" = some (.type "tuple"):=by decide +kernel
def M0:bootBuiltins "range" = some (.type "range"):=by decide +kernel
structure Blt (mg:Str->bd):Prop where
 len:mg "len" = none
 abs:mg "abs" = none
 all:mg "all" = none
 any:mg "any" = none
 max:mg "max" = none
 min:mg "min" = none
 sorted:mg "sorted" = none
 isinstance:mg "isinstance" = none
 int:mg "int" = none
 bool:mg "bool" = none
 str:mg "str" = none
 list:mg "list" = none
 tuple:mg "tuple" = none
 range:mg "range" = none
def Ve:∀{a b:ag},a.Perm b->a.Pairwise (·<=·)->b.Pairwise (·<=·)->a=b:=λp ha hb=>
 dZ (λx y _ _ h1 h2=>Int.le_antisymm h1 h2) ha hb p
def acA(i j:Int):(l8 i j).Pairwise (·<=·):=by
 unfold l8;rw[cI];exact g_.imp λh=>()
def rG(i j:Int):(l8 i j).Nodup:=by
 unfold l8;rw[List.Nodup,cI];exact g_.imp λh=>()
def qh{i j k:Int}:k∈l8 i j ↔ i<=k/\k<j:=by
 unfold l8;rw[bq];constructor
 ·rintro⟨a,ha,rfl⟩;have:=cy.mp ha;omega
 ·rintro⟨h1,h2⟩;exact⟨(k-i).toNat,cy.mpr<|by omega,by omega⟩
theorem zb:∀{l m:ag},l.Nodup->(∀x∈l,x∈m)->m.length<=l.length->l.Perm m
 | [],m,_,_,h=>by
  have:m=[]:=fG.mp<|Nat.le_zero.mp h;rw[this]
 | a::l,m,nd,hs,hl=>by
  have ha:a∈m:=hs a aL;have d:=bT.mp nd;have j:m.Perm (a::m.erase a):=List.perm_cons_erase ha;have k:=zb (l:=l) (m:=m.erase a) d.2 (λx g=>by
   have f:x≠a:=λe=>d.1<|e ▸ g;exact(List.mem_erase_of_ne f).mpr (hs x<|aO _ g)) (by
   rw[List.length_erase_of_mem ha];dsimp[bB]at hl;omega)
  exact(List.Perm.cons a k).trans j.symm
abbrev Kn (P:aj)(w:ah)(K:au)(mg:Str->bd)(base:aq)(k:Nat)(x:Str)(ps:ar)(sp:Sp):Prop:=
 ∃(f:ak) (fd:FuncData),FnOk P w K mg base qf k f fd ps sp/\mg x=some (.ref f)/\PySem.W.keepIn K (.ref f)=true/\Binds K fd ps []
def abT{X:Cx}{k:Nat}{x:Str}{sp:Sp}{e:aE}{t:TA}{p:Pos}(G:Kn X.prog X.w X.K X.mg X.base k x ps sp)(hr:Room k X.A)(ha:PA X (e::es) t)(hg:Gl X x<|>ε)
  (hdb:(x == ("__debug__" : Str))=false<|>δ) (hs:starEach (e::es) X.env=(false,eval e X.env)::starEach es X.env<|>ε) (hplain:((backTo pos<|starEach es X.env).any (·.1)=false)<|>ε) :
  PE X (.Call (.Name x p) (e::es) [] pos) (WM sp [] E0 t):=by
 obtain⟨f,fd,F,g,d,hb⟩:=G;exact Ur F hr hg g d hb .nil aau ha hdb hs hplain
abbrev Af (XN fs:ar):ar->List (bj)->Prop
 | [],[]=>True
 | _::N,none::c=>Af XN fs N c
 | x::N,some j::c=>XN[j]?=some x/\x∈fs/\Af XN fs N c
 | _,_=>False
theorem Af.len{fs:ar}:∀{N:ar}{c:List<|bj},Af XN fs N c->c.length=N.length
 | [],[],_=>rfl
 | _::N,none::c,h=>cV (·+1) (Af.len (N:=N) (c:=c) h)
 | _::N,some j::c,h=>cV (·+1) (Af.len (N:=N) (c:=c) h.2.2)
 | [],_::_,h=>h.elim
 | _::_,[],h=>h.elim
theorem Af.cp{fs:ar}:∀{N:ar}{c:List<|bj},Af XN fs N c->∀(i j:Nat) (x:Str),N[i]?=some x->c[i]?=some (some j)->XN[j]?=some x/\x∈fs
 | [],[],_,i,j,x,h1,_=>by simp at h1
 | y::N,none::c,h,i,j,x,h1,h2=>by
  cases i with
  | zero=>simp at h2
  | succ i=>exact Af.cp (N:=N) (c:=c) h i j x (by simpa using h1)<|by simpa using h2
 | y::N,some k::c,h,i,j,x,h1,h2=>by
  cases i with
  | zero=>
   simp at h1 h2;subst h1 h2;exact⟨h.1,h.2.1⟩
  | succ i=>exact Af.cp (N:=N) (c:=c) h.2.2 i j x (by simpa using h1)<|by simpa using h2
 | [],_::_,h,_,_,_,_,_=>h.elim
 | _::_,[],h,_,_,_,_,_=>h.elim
def oX{X:Cx}{scope:Scope}{N:ar}(fs:ar)(kind:scope.kind=.function)(nocf:∀y∈scope.names,y.2=.cell->scope.names.lookup y.1=some .cell/\(y.1,NameKind.free)∉scope.names)(nm:∀y∈scope.names,y.2=.local->scope.names.lookup y.1=some .local)
  (nolf:∀y∈scope.names,y.2=.free->scope.names.lookup y.1≠some .local) (hf:∀y∈scope.names,y.2=.free->y.1∈fs) (hfs:∀x∈fs,(x,NameKind.free)∈scope.names) (hk:∀x∈fs,X.env.kindOf x=some .cell\/X.env.kindOf x=some .free) (cp:Af X.N fs N cap):CpScope X scope N cap where
 kind:=kind
 nocf:=λx hf hc=>(nocf (x,.cell) hc rfl).2 hf
 nm:=nm
 fr:=λy hy e=>hk _ (hf y hy e)
 rl:=λy h=>by
  have g:∀k,(k=NameKind.cell\/k=NameKind.free)->(relabel scope X.env).names.lookup y=some k->(y,NameKind.free)∈scope.names\/scope.names.lookup y=some .cell:=λk hk e=>by
   obtain⟨⟨t,q⟩,f,d⟩:=bq.mp<|zV e;dsimp only at d;split at d
   ·rename_i hc
    cases d
    have:q=.free:=by
     dsimp[dU]at hc;simpa using hc.1.1
    subst this;exact .inl f
   ·cases d
    rcases hk with rfl|rfl
    ·exact .inr (nocf _ f rfl).1
    ·exact .inl f
  rcases h with h|h
  ·exact g _ (.inl rfl) h
  ·exact g _ (.inr rfl) h
 len:=cp.len
 nolf:=λx p=>nolf (x,.free) p rfl
 cp:=λi j x h1 h2=>by
  obtain⟨a,b⟩:=cp.cp i j x h1 h2;exact⟨a,hfs x b⟩
inductive Kd where
 | non|bl|int|str|lst|tup
 deriving DecidableEq
abbrev Kd.ty:Kd->af
 | .non=>.type "NoneType" | .bl=>.type "bool" | .int=>.type "int" | .str=>.type "str" | .lst=>.type "list" | .tup=>.type "tuple"
abbrev ZH (H:Hp)(x:V):Kd->Prop
 | .non=>x=.non
 | .bl=>∃b,x=.bl b
 | .int=>∃i,x=.int i
 | .str=>∃s,x=.str s
 | .lst=>∃a xs,x=.ref a/\H a=some (.lst xs)
 | .tup=>∃a xs,x=.ref a/\H a=some (.tup xs)
def ZH.ad1{K:au}{H:Hp}{x:V}{k:Kd}(h:ZH H x k):TyOf K H x k.ty:=by
 cases k with
 | non=>cases h;exact .non
 | bl=>obtain⟨b,rfl⟩:=h;exact .bl b
 | int=>obtain⟨b,rfl⟩:=h;exact .int b
 | str=>obtain⟨b,rfl⟩:=h;exact .str b
 | lst=>obtain⟨a,xs,rfl,e⟩:=h;exact .lst e
 | tup=>obtain⟨a,xs,rfl,e⟩:=h;exact .tup e
def VH{K:au}(k:Kd):PySem.W.kitOne K k.ty (.type "int")=some (decide<|k=.int\/k=.bl):=by cases k<;>rfl
def Pq{K:au}(k:Kd):PySem.W.kitOne K k.ty (.type "bool")=some (decide<|k=.bl):=by cases k<;>rfl
def kit_tuple{K:au}(k:Kd):PySem.W.kitOne K k.ty (.type "tuple")=some (decide<|k=.tup):=by cases k<;>rfl
def Sa{K:au}(k:Kd):PySem.W.kitOne K k.ty (.type "list")=some (decide<|k=.lst):=by cases k<;>rfl
section
variable {prog:aj}{w:ah}{A:aA}{E:af->aC->Prop}{s:aC}
def xG{t:ak}{i:Nat}{x:af}{Q:af->aC->Prop}(hit:s.heap.IsTupleIter it t i)
  (ht:s.heap.IsTuple t items) (hx:items[i]?=some x) (hQ:∀h',h'.IsTupleIter it t (i+1)->Heap.SameBut it s.heap h'->Q x { s with heap:=h' }) :
  wpAny (model prog w) A (Builtin.SmallTypes.nextOf<|.ref it) Q E s:=by
 obtain⟨o,f,hc,d⟩:=id hit;obtain⟨p,g,_,k,j⟩:=ht;unfold Builtin.SmallTypes.nextOf;refine aG (dJ (name:=Str.ofString "__next__") hit.typeIs eV
  (cB eV hit.typeIs F.entry_tuple_iterator_next ?_<|F.args_tuple_iterator_next_1 _))
 show wpAny _ _ (field (.ref it) 0 >>= _) _ _ s;refine aG (jn f d (x:=.ref t) rfl ?_)
 skip
 rw[aV<|show ¬((Value.ref t == Value.none)=true)from bw]
 skip
 refine aG (jn f d (x:=.int i 0) rfl ?_)
 skip
 refine aG<|h_ g j ?_;dsimp[cR,hx];refine aG (gb f d (by simp)<|aM ⟨x,rfl,aM<|hQ _ ?_<|eG ..⟩);exact⟨_,f6 _ f<|iF<|eW d _,(jo ..).trans hc,by
  rw[eW d];simp[rawInt]⟩
def yv{t:ak}{i:Nat}{Q:af->aC->Prop}(hh:A.handled=none)
  (hit:s.heap.IsTupleIter it t i) (ht:s.heap.IsTuple t items) (hx:items[i]?=none)
  (hE:∀h' e,Heap.ExtBut it s.heap h'->(∃o,h'.get? e=some o/\o.cls=.type "StopIteration")->E (.ref e) { s with heap:=h' }) :
  wpAny (model prog w) A (Builtin.SmallTypes.nextOf<|.ref it) Q E s:=by
 obtain⟨o,j,hc,f⟩:=id hit;obtain⟨p,d,_,k,g⟩:=ht;unfold Builtin.SmallTypes.nextOf;refine aG (dJ (name:=Str.ofString "__next__") hit.typeIs eV
  (cB eV hit.typeIs F.entry_tuple_iterator_next ?_<|F.args_tuple_iterator_next_1 _))
 show wpAny _ _ (field (.ref it) 0 >>= _) _ _ s;refine aG (jn j f (x:=.ref t) rfl ?_)
 skip
 rw[aV<|show ¬((Value.ref t == Value.none)=true)from bw]
 skip
 refine aG (jn j f (x:=.int i 0) rfl ?_)
 skip
 refine aG<|h_ d g ?_;dsimp[cR,hx];refine aG (gc<|aG<|gb j f (by simp) ?_)
 skip
 refine aG ?_;dsimp[newExc,newTuple];refine aG (cC ?_<|by size_fits);refine aG (m:=firstArgMember _ _) (wpAny_of_eq (a:=Value.none) (by first|rfl|(dsimp[firstArgMember];rfl)) ?_);refine cC ?_ (by size_fits);dsimp[raiseNew];refine aG (wpAny_handled ?_)
 first|rw[show A.in1.handled=none from hh]|rw[hh]
 refine aG<|aM<|wpAny_throw ?_;exact hE _ _ (((eG ..).extBut.push _).push _) ⟨_,br _ rfl,rfl⟩
end
def Pz{prog:aj}{w:ah}{A:aA}(hh:A.handled=none)(it l:ak)(hne:l≠it)(items:Array af) :
  Draws prog w A it [it,l] items.size (λi v=>items[i]?=some v) (λi h=>h.IsTupleIter it l i/\h.IsTuple l items) where
 live:=λ_ _ st=>let⟨o,ho,_⟩:=st.1;⟨o,ho⟩
 frame:=λ_ _ _ st j=>⟨st.1.at λo e=>j it (by simp) o e,let⟨o,ho,r⟩:=st.2;⟨o,j l (by simp) o ho,r⟩⟩
 item:=λi s Q E g st k=>by
  refine xG st.1 st.2 (x:=items[i]) (by simp[g]) λh' d f=>?_;exact k _ h' s.toks (by simp[g]) ⟨d,let⟨o,ho,r⟩:=st.2;⟨o,f.extBut l o hne ho,r⟩⟩ f
 done:=λs Q E st p=>yv hh st.1 st.2 (by simp) p
def FU(l:ak)(items:Array af) :
  Meets (Builtin.«enumerate.__new__» ⟨[.type "enumerate",.ref l],[]⟩) (λ_ R s=>s.heap.IsTuple l items /\
   R (.ok<|.ret<|.ref (s.heap.push { cls:=.type "tuple_iterator",data:=.fields #[.ref l,.int 0 0]}).objs.size)
    { s with heap:=(s.heap.push { cls:=.type "tuple_iterator",data:=.fields #[.ref l,.int 0 0]}).push { cls:=.type "enumerate",data:=.fields #[.none,.bool false,.ref s.heap.objs.size,rawInt 0,.none,.none]}}):=
 .of_wp λprog w A R s h=>by
  obtain⟨B,g,d,C,t⟩:=s;obtain⟨j,h⟩:=h;have k:=sub_enumerate;obtain⟨F,f,p,D,q⟩:=id j
  wp_walk using dY f
  refine wpAny_stack_any λst=>aM ?_;split
  ·rename_i c _ _ _ _ _
   cases(c == Value.type "enumerate")
   ·wp_walk using dY f,gM j
    exact⟨_,rfl,h⟩
   ·wp_walk using dY f,gM j
    exact⟨_,rfl,h⟩
  ·wp_walk using dY f,gM j
   exact⟨_,rfl,h⟩
abbrev Ite (K:au)(a:ak):It:=
 ⟨λi H=>∃xs x,nh K H a xs/\xs[i]?=some x,λi H x H'=>∃T,H T=none/\x=.ref T/\∀xs y,nh K H a xs->xs[i]?=some y->H'=upd H T (.tup [.int i,y]),λi H=>∃xs,nh K H a xs/\xs.length=i⟩
def HU{P:aj}{w:ah}{K:au}(a e it:ak)(hei:e≠it):Turn P w K (.Tuple elts x1 tpos) (Ite K a) [e,it] e (λi h=>(∃old,IsEnum h e it i old)/\h.IsTupleIter it a i) where
 mem:=by simp
 obj:=λi h st b hb=>by
  obtain⟨⟨old,f⟩,g⟩:=st;have D:b=e\/b=it:=by simpa using hb
  rcases D with rfl|rfl
  ·exact⟨_,f,λv z=>by cases z⟩
  ·obtain⟨o,e,c,d⟩:=g;exact⟨o,e,λv z=>by rw[d]at z;cases z⟩
 keep:=λi h h' st k=>by
  obtain⟨⟨old,f⟩,g⟩:=st;exact⟨⟨old,k e (by simp) _ f⟩,g.at λo B=>k it (by simp) o B⟩
 item:=by
  fin2;subst hP hw hK;obtain⟨⟨old,f⟩,g⟩:=st;obtain⟨xs,x,hq,Z⟩:=hg;obtain⟨C,rv,p,hz⟩:=I.tuple hq;obtain⟨u,hu,ru⟩:=rv.get Z;have M:a≠it:=by
   obtain⟨o,B,G,_⟩:=p;obtain⟨o2,O,F,_⟩:=g;intro z;rw[z,O]at B
   cases B
   rw[G]at F;exact absurd (Value.type.inj F) ⋯
  have hea:e≠a:=by
   obtain⟨o,B,G,_⟩:=p;intro z;rw[<- z,f]at B
   cases B
   exact absurd (Value.type.inj G) ⋯
  have hlt:i<C.toArray.size:=by
   rw[aX];exact(aJ.mp hu).1
  refine wpAny_pyNext_enum_itemD (Pz (A:=X.A.in1) (I.ok.hd hc) it a M C.toArray) f ⟨g,p⟩ hlt hei (by simp[hei,hea]) λY h' tk hP U hst hT hsz hk=>?_;have ex:Y=u:=by
   have:C.toArray[i]?=some u:=by simpa using hu
   rw[this]at hP;exact(bg hP).symm
  subst ex;refine⟨_,rfl,wpAny_letOwnedTupleGo_enum U λh2 he2 N=>?_⟩;have T:H s.heap.objs.size=none:=I.hok.fresh<|aN _;have W:e<s.heap.objs.size:=a_ f;have hil:it<s.heap.objs.size:=by obtain⟨o,B,_⟩:=g;exact a_ B
  have V:∀b o,b≠e->b≠it->s.heap.get? b=some o->h2.get? b=some o:=λb o h1 h3 q=>N.extBut b o h1<|hk b o h1 h3 q;have hT2:h2.get? s.heap.objs.size=some { cls:=.type "tuple",data:=.seq #[.int i tk,Y]}:=N.extBut _ _ (jE W) hT;obtain⟨e0,e1,e2,e3,e4,e5⟩:=hf e (by simp);obtain⟨i0,i1,i2,i3,i4,i5⟩:=hf it (by simp);have nT:∀b o,s.heap.get? b=some o->b≠s.heap.objs.size:=λb o q=>bD<|a_ q;have t:∀c v,H c=some v->c≠e/\c≠it:=λc v q=>⟨(λz=>by rw[z,e0]at q;cases q),(λz=>by rw[z,i0]at q;cases q)⟩;have I2:Inv X pins σ (upd H s.heap.objs.size<|.tup [.int i,x]) { s with heap:=h2,toks:=tk+1 }:=by
   refine I.step (g':=s.gens) (d':=s.drawn) (ch:=[e,it]) (λb hb=>?_) (λb o _ _ j q _=>?_) (λb o _ _ j q _=>?_) (λb o j q n=>?_) (λb o j q=>?_) (λb ys q=>?_) (λb o u' q=>?_) (λb ps q=>?_) (λm hm=>?_) (λb u' q=>?_) I.bare
   ·have D:b=e\/b=it:=by simpa using hb
    rcases D with rfl|rfl
    ·exact⟨e3,e1,e4,e5⟩
    ·exact⟨i3,i1,i4,i5⟩
   ·exact V b o (λz=>j<|by simp[z]) (λz=>j<|by simp[z]) q
   ·exact⟨o.slots,V b o (λz=>j<|by simp[z]) (λz=>j<|by simp[z]) q⟩
   ·rw[jZ<|nT b o q];exact n
   ·exact⟨o,V b o (λz=>j<|by simp[z]) (λz=>j<|by simp[z]) q⟩
   ·rw[jZ<|kg q T];exact q
   ·rw[jZ<|kg q T];exact q
   ·exact⟨#[],by rw[jZ<|kg q T,q];simp⟩
   ·obtain⟨o,es,ep,B,r⟩:=hm;exact⟨o,es,ep,V _ o (cO e1) (cO i1) B,r⟩
   ·by_cases z:b=s.heap.objs.size
    ·subst z;rw[kK]at q
     cases q
     exact⟨by show 2<=sizeLine;decide,[.int i tk,Y],.cons ⟨tk,rfl⟩<|.cons ru .nil,⟨_,hT2,rfl,rfl,0,rfl⟩⟩
    ·rw[jZ z]at q;refine(I.hok b u' q).stay (λc v hc J=>V c v ?_ ?_ J) (λc J=>?_) λc ys J=>?_
     ·rcases hc with z|z
      ·rw[z];exact(t b u' q).1
      ·exact(t c _ z).1
     ·rcases hc with z|z
      ·rw[z];exact(t b u' q).2
      ·exact(t c _ z).2
     ·rw[jZ<|kg J T];exact J
     ·rw[jZ<|kg J T];exact J
  refine⟨.ref s.heap.objs.size,_,I2,rfl,⟨s.heap.objs.size,T,rfl,λys y hy L=>?_⟩,⟨⟨Y,by simpa using he2⟩,?_⟩,λb hb=>?_⟩
  ·rw[I.wk hy hq]at L;rw[Z]at L
   cases L
   rfl
  ·exact hst.1.at λo B=>N.extBut it o (cO hei) B
  ·have D:b=e\/b=it:=by simpa using hb
   rcases D with rfl|rfl
   ·rw[jZ<|bD W];exact e0
   ·rw[jZ<|bD hil];exact i0
 done:=by
  fin2;subst hP hw hK;obtain⟨⟨old,f⟩,g⟩:=st;obtain⟨xs,hq,Z⟩:=hg;obtain⟨C,rv,p,hz⟩:=I.tuple hq;obtain⟨i0,i1,i2,i3,i4,i5⟩:=hf it (by simp);have M:a≠it:=by
   obtain⟨o,B,G,_⟩:=p;obtain⟨o2,O,F,_⟩:=g;intro z;rw[z,O]at B
   cases B
   rw[G]at F;exact absurd (Value.type.inj F) ⋯
  have hl:=rv.length;have ei:C.toArray.size=i:=by rw[aX,<- hl,Z]
  exact wpAny_pyNext_enum_endD (Pz (A:=X.A.in1) (I.ok.hd hc) it a M C.toArray) f ⟨by rw[ei];exact g,p⟩ λh' eb=>⟨rfl,I.turned (t':=s.toks) (λb o hb q=>eb b o hb q) i0 i1 i3 i4 i5⟩
 self:=λ_ _ _ _ _ st h=>let⟨⟨_,f⟩,_⟩:=st;wpAny_pyIter_enum f h
def DH:bootBuiltins "enumerate" = some (.type "enumerate"):=by decide +kernel
section
variable {X:Cx}
abbrev abn (K:au)(ta:TA):TI:=λσ H R=>ta σ H λd H1=>∃a xs,d=[.ref a]/\nh K H1 a xs/\R (Ite K a) H1
def Rj{a:aE}{ta:TA}{p:Pos}(hg:Gl X "enumerate")(hm:X.mg "enumerate" = none)(ha:PA X [a] ta)(hs:starEach [a] X.env=[(false,eval a X.env)]<|>ε):PI X (.Tuple elts x1 tpos) (.Call (.Name "enumerate" p) [a] [] pos) (abn X.K ta):=by
 intro pins s σ H R I h;refine Call_<|yX I hg hm DH<|eN (nq (ha pos pins s σ H _ I h) λus d ⟨O,H1,I1,r1,L⟩=>?_) hs rfl;obtain⟨t,xs,e,hq,q⟩:=L;subst e;obtain⟨u,rfl,rx⟩:=vals1 r1
 cases rx
 obtain⟨B,M,J,N⟩:=I1.tuple hq;refine callType_new F.called_enumerate ⋯ (F.typeCall_enumerate_1 _) (F.newCall_enumerate_1 _) (λf=>F.args_object_init_2 f _) F.entry_enumerate_new (FU t B.toArray) ⟨J,⟨_,br _ rfl,rfl⟩,?_⟩;have C:Inv X pins σ H1 { d with heap:=d.heap.push { cls:=.type "tuple_iterator",data:=.fields #[.ref t,.int 0 0]}}:=I1.kept (t':=d.toks) λb o e=>aQ _ e;have G:Inv X pins σ H1 { d with heap:=(d.heap.push { cls:=.type "tuple_iterator",data:=.fields #[.ref t,.int 0 0]}).push { cls:=.type "enumerate",data:=.fields #[.none,.bool false,.ref d.heap.objs.size,rawInt 0,.none,.none]}}:=C.kept (t':=d.toks) λb o e=>aQ _ e;have D:IsEnum ((d.heap.push { cls:=.type "tuple_iterator",data:=.fields #[.ref t,.int 0 0]}).push { cls:=.type "enumerate",data:=.fields #[.none,.bool false,.ref d.heap.objs.size,rawInt 0,.none,.none]}) (d.heap.push { cls:=.type "tuple_iterator",data:=.fields #[.ref t,.int 0 0]}).objs.size d.heap.objs.size 0 .none:=br _ rfl;have k:((d.heap.push { cls:=.type "tuple_iterator",data:=.fields #[.ref t,.int 0 0]}).push { cls:=.type "enumerate",data:=.fields #[.none,.bool false,.ref d.heap.objs.size,rawInt 0,.none,.none]}).IsTupleIter d.heap.objs.size t 0:=⟨_,aQ _<|br _ rfl,rfl,rfl⟩;have g:(d.heap.push { cls:=.type "tuple_iterator",data:=.fields #[.ref t,.int 0 0]}).objs.size≠d.heap.objs.size:=by rw[c_];exact jE (dI _)
 refine wpAny_pyIter_enum D ⟨_,[_,d.heap.objs.size],_,_,H1,rfl,G,HU t _ d.heap.objs.size g,⟨⟨.none,D⟩,k⟩,λb hb=>?_,q⟩;have j:b=(d.heap.push { cls:=.type "tuple_iterator",data:=.fields #[.ref t,.int 0 0]}).objs.size\/b=d.heap.objs.size:=by simpa using hb
 rcases j with rfl|rfl
 ·exact I1.Ed (by rw[c_];exact Nat.le_succ _) (C.hok.fresh<|aN _)
 ·exact I1.Ed (aN _)<|I1.hok.fresh<|aN _
end
end L2
namespace L2
open PySem PySem.Spec PyProof.Rows
open PySem.SeqAt
open PySem.AutoSeq1 (wpAny_loadPart')
open PySem.MeetsSeq PySem.MeetsSeq2 PySem.MeetsSeq3 PySem.SeqAt
theorem ints_get:∀{vs:ba}{ns:ag}{i:Nat},IntsAre vs ns->i<vs.length->∃a t,vs[i]?=some (.int a t)/\ns.drop i=a::ns.drop (i+1)
 | _,_,_,.nil,h=>absurd h (by simp)
 | _,_,0,.cons a t _,_=>⟨a,t,rfl,rfl⟩
 | _,_,i+1,.cons a t q,h=>by
  obtain⟨b,u,e,f⟩:=ints_get q (i:=i) (by simpa using h);exact⟨b,u,by simpa using e,by simpa using f⟩
section
variable {X:Cx}
def OA:oR X (binaryOp .FloorDiv) (rI (λ_ j=>0<j/\j<18446744073709551616) λi j=>.int<|i / j):=opI λi j _ _ _ _ _ hc q=>by
 have h1:(0:Int)<j:=hc.1;have h2:j<18446744073709551616:=hc.2;refine floordiv_int (by omega) (by rw[Int.fdiv_eq_ediv_of_nonneg i<|by omega];exact q)<|.inl<|PyProof.noPylong_of_log2 ?_;exact bQ ((Nat.log2_lt<|by omega).mpr<|show j.natAbs<2 ^ 64 by omega) ⋯
end
end L2
namespace L2
open PySem PySem.Spec PyProof.Rows
abbrev Its (x:Str):It:=⟨λi _=>i<x.cps.size,λi H v H'=>H'=H/\∃c,x.cps[i]?=some c/\v=.str ⟨#[c]⟩,λi _=>i=x.cps.size⟩
def OD{P:aj}{w:ah}{K:au}(x:Str)(t:Tok)(it:ak):Turn P w K tg (Its x) [it] it (λi h=>h.IsStrIter it "str_ascii_iterator" x t i) where
 mem:=by simp
 obj:=λi h st b hb=>by
  have e:b=it:=by simpa using hb
  subst e;obtain⟨o,e,c,d⟩:=st;exact⟨o,e,λv z=>by rw[d]at z;cases z⟩
 keep:=λi h h' st k=>let⟨o,ho,r⟩:=st;⟨o,k it (by simp) o ho,r⟩
 item:=by
  fin2;subst hP hw hK;ksr_p;have W:=Walks.strAscii (prog:=X.prog) (w:=X.w) (I.ok.hd hc) it x t;refine W.item i s _ _ hg st λv h' p hv f g=>?_;obtain⟨c,u,j,rfl⟩:=hv;have B:Inv X pins σ H { s with heap:=h',toks:=p }:=I.turned (λb o hb e=>g b o (by simpa using hb) e) f0 f1 f3 f4 f5;obtain⟨o,e,q,d⟩:=id f;exact⟨_,rfl,Ga (s:={ s with heap:=h',toks:=p }) e q d ⋯ ⟨.str ⟨#[c]⟩,H,B,⟨u,rfl⟩,⟨rfl,c,j,rfl⟩,f,λb hb=>(hf b hb).1⟩⟩
 done:=by
  fin2;subst hP hw hK;ksr_p;have hg:i=x.cps.size:=hg;subst hg;have W:=Walks.strAscii (prog:=X.prog) (w:=X.w) (I.ok.hd hc) it x t;exact W.done s _ _ st λh' p g=>⟨rfl,I.turned (λb o hb e=>g b o (by simpa using hb) e) f0 f1 f3 f4 f5⟩
 self:=λ_ _ _ _ _ st h=>wpAny_pyIter_striter_ascii st h
section
variable {X:Cx}{tg:aE}
abbrev ads (tl:TE):TI:=λσ H R=>tl σ H λx H1=>∃y:Str,x=.str y/\y.cps.all (· < 128)=true/\R (Its y) H1
def Y8{l:aE}{tl:TE}(hl:PE X l tl):PI X tg l (ads tl):=by
 intro pins s σ H R I h;refine nq (hl pins s σ H _ I h) λv d h9=>?_;obtain⟨x,H1,I1,r1,f⟩:=h9;obtain⟨y,e,ha,q⟩:=f;subst e;obtain⟨t,rfl⟩:=r1;refine wpAny_pyIter_ascii ha ?_;refine⟨d.heap.objs.size,[d.heap.objs.size],_,_,H1,rfl,I1.kept (t':=d.toks) λb o e=>aQ _ e,OD y t _,⟨_,br _ rfl,rfl,rfl⟩,λb hb=>?_,q⟩;have e:b=d.heap.objs.size:=by simpa using hb
 subst e;exact I1.Ed (aN _)<|I1.hok.fresh<|aN _
end
section
variable {κ:Type}[DecidableEq κ]
abbrev pV (kvs:List<|κ×V)(k:κ):Option V:=(kvs.find? λkv=>decide<|kv.1=k).map (·.2)
abbrev putK (kvs:List<|κ×V)(k:κ)(v:V):List (κ×V):=
 if (kvs.any λkv=>decide<|kv.1=k)=true then kvs.map (λkv=>if kv.1=k then(kv.1,v)else kv)else kvs++[(k,v)]
def tX{p:κ×V}{r:List<|κ×V}{k:κ}(e:p.1=k):pV (p::r) k=some p.2:=by simp[pV,bU,e]
def tK{p:κ×V}{r:List<|κ×V}{k:κ}(e:¬p.1=k):pV (p::r) k=pV r k:=by simp[pV,bU,e]
theorem vU(k:κ):∀kvs:List<|κ×V,(kvs.any λkv=>decide<|kv.1=k)=(pV kvs k).isSome
 | []=>rfl
 | p::r=>by
  rw[fY];by_cases e:p.1=k
  ·dsimp[tX e,bf e,Bool.true_or,jh]
  ·rw[tK e,bz e,gG];exact vU k r
def qj(kvs:List<|κ×V)(k:κ)(v:V):(putK kvs k v).length<=kvs.length+1:=by
 unfold putK;split
 ·rw[aH];lia
 ·rw[bh,bB,ez];lia
def yV.tF{o:Option V}{u:bd}(r:yV o u):o.isSome=u.isSome:=by
 cases o with
 | none=>cases u with
  | none=>rfl
  | some _=>exact(show False from r).elim
 | some _=>cases u with
  | none=>exact(show False from r).elim
  | some _=>rfl
def yV.getD{o:Option V}{u:bd}{d:V}(r:yV o u)(rd:RelV d d'):RelV (o.getD d) (u.getD d'):=by
 cases o with
 | none=>cases u with
  | none=>exact rd
  | some _=>exact(show False from r).elim
 | some _=>cases u with
  | none=>exact(show False from r).elim
  | some _=>exact r
def KV.val(r:KV kvs vs)(k:κ):yV (pV kvs k) (valueAt vs k):=by
 unfold KV at r
 induction r with
 | nil=>exact True.intro
 | @cons p q ps d h t g=>
  obtain⟨h1,h2⟩:=h;by_cases e:p.1=k
  ·have f:q.1=k:=h1.symm.trans e;have b:valueAt (q::d) k=some q.2:=by simp[valueAt,bU,f]
   rw[tX e,b];exact h2
  ·have f:¬q.1=k:=λz=>e<|h1.trans z;have b:valueAt (q::d) k=valueAt d k:=by simp[valueAt,bU,f]
   rw[tK e,b];exact g
def KV.any{kvs:List<|κ×V}{vs:List<|κ×af}(r:KV kvs vs)(k:κ):(kvs.any λkv=>decide<|kv.1=k)=vs.any λkv=>decide (kv.1=k):=by
 unfold KV at r
 induction r with
 | nil=>rfl
 | cons h t d=>rw[fY,fY,d,h.1]
def KV.repl{kvs:List<|κ×V}{vs:List<|κ×af}(r:KV kvs vs)(k:κ)(ry:RelV y u) :
  KV (kvs.map λkv=>if kv.1=k then(kv.1,y)else kv) (vs.map λkv=>if kv.1=k then(kv.1,u)else kv):=by
 unfold KV at r ⊢
 induction r with
 | nil=>exact .nil
 | @cons p q ps f h t d=>
  rw[bC,bC];refine .cons ?_ d;obtain⟨h1,h2⟩:=h;by_cases e:p.1=k
  ·rw[aW e,aW<|h1.symm.trans e];exact⟨h1,ry⟩
  ·rw[aV e,aV λz=>e<|h1.trans z];exact⟨h1,h2⟩
def KV.put(r:KV kvs vs)(k:κ)(ry:RelV y u):KV (putK kvs k y) (stored vs k u):=by
 unfold putK stored;rw[r.any k];by_cases e:(vs.any λkv=>decide<|kv.1=k)=true
 ·rw[aW e,aW e];exact r.repl k ry
 ·rw[aV e,aV e];exact Paired.snoc r ⟨rfl,ry⟩
def KV.length{kvs:List<|κ×V}{vs:List<|κ×af}(r:KV kvs vs):kvs.length=vs.length:=iO r
end
def Au{P:aj}{w:ah}{k:Key}(r:RelV (kV k) u):(kZ P w).is k u=true:=by
 cases k with
 | inl i=>obtain⟨t,e⟩:=(show ∃t,u=Value.int i t from r);subst e;exact E2 P w i t
 | inr x=>obtain⟨t,e⟩:=(show ∃t,u=Value.str x t from r);subst e;exact GD P w x t
theorem Cm{P:aj}{w:ah}:∀{ks:List Key}{us:ba},Vals (ks.map kV) us->ItemsAre (kZ P w) ks us
 | [],_,r=>by rw[fN]at r;cases r;exact .nil
 | k::ks,_,r=>by
  rw[bC]at r
  cases r with
  | cons h t=>exact .cons (Au h)<|Cm t
meta abbrev KT (H:Hp):List (List Key×V)->List (List Key×ak×af)->Prop:=Paired λp q=>p.1=q.1/\H q.2.1=some (.tup<|p.1.map kV)/\RelV p.2 q.2.2
def KT.val{H:Hp}(r:KT H kvs xs)(k:List Key):yV (pV kvs k) ((atKey xs k).map (·.2)):=by
 induction r with
 | nil=>exact True.intro
 | @cons p q ps d h t g=>
  obtain⟨h1,_,h2⟩:=h;by_cases e:p.1=k
  ·have f:q.1=k:=h1.symm.trans e;have b:atKey (q::d) k=some q.2:=by simp[atKey,bU,f]
   rw[tX e,b];exact h2
  ·have f:¬q.1=k:=λz=>e<|h1.trans z;have b:atKey (q::d) k=atKey d k:=by simp[atKey,bU,f]
   rw[tK e,b];exact g
def KT.repl{H:Hp}{kvs:List<|List Key×V}{xs:List<|List Key×ak×af}(r:KT H kvs xs)(k:List Key)(ry:RelV y u) :
  KT H (kvs.map λkv=>if kv.1=k then(kv.1,y)else kv) (xs.map<|putAt k u):=by
 induction r with
 | nil=>exact .nil
 | @cons p q ps f h t d=>
  rw[bC,bC];refine .cons ?_ d;obtain⟨h1,h2,h3⟩:=h;unfold putAt;by_cases e:p.1=k
  ·rw[aW e,aW<|h1.symm.trans e];exact⟨h1,h2,ry⟩
  ·rw[aV e,aV λz=>e<|h1.trans z];exact⟨h1,h2,h3⟩
def KT.put{H:Hp}(r:KT H kvs xs)(k:List Key)(hb:H b=some (.tup<|k.map kV))(ry:RelV y u) :
  KT H (putK kvs k y) (storedH xs k b u):=by
 have e:(kvs.any λkv=>decide<|kv.1=k)=(atKey xs k).isSome:=by
  rw[vU,(r.val k).tF,dB]
 unfold putK storedH;rw[e];by_cases q:(atKey xs k).isSome=true
 ·rw[aW q,aW q];exact r.repl k ry
 ·rw[aV q,aV q];exact Paired.snoc r ⟨rfl,hb,ry⟩
def KT.keeps{H H':Hp}(r:KT H kvs xs)(ht:∀b ys,H b=some (.tup ys)->H' b=some (.tup ys)):KT H' kvs xs:=
 Paired.Xd r λ_ _ z=>⟨z.1,ht _ _ z.2.1,z.2.2⟩
section
variable {P:aj}{w:ah}{H:Hp}{h:aq}{a:ak}
def VU(ok:xD P w H h)(e:Rd H a u):lE P w H h a u:=e.ok ok
def B3{kvs:List<|Key×V}(ok:xD P w H h)(e:Rd H a<|.dK kvs):kvs.length<=sizeLine/\(a == sysModules)=false/\∃vs,KV kvs vs/\h.DictOf (kZ P w) a vs:=
 show lE P w H h a (.dK kvs)from VU ok e
def KQ{kvs:List<|Key×V}(ok:xD P w H h)(e:H a=some (.dK kvs)):kvs.length<=sizeLine/\(a == sysModules)=false/\∃vs,KV kvs vs/\h.DictOf (kZ P w) a vs:=B3 ok<|.inl e
def uA{ks:List Key}(ok:xD P w H h)(e:H a=some (.tup<|ks.map kV)):(tupleKind<|kZ P w).is h ks a:=by
 obtain⟨_,d,r,o,h1,h2,_,n,h3⟩:=(show lE P w H h a (.tup<|ks.map kV)from ok a _ e);exact⟨o,d.toArray,n,h1,h2,h3,by simpa using Cm r⟩
def Bg{kvs:List<|List Key×V}(ok:xD P w H h)(e:Rd H a<|.dT kvs):kvs.length<=sizeLine/\(a == sysModules)=false /\
  ∃xs,KT H kvs xs/\h.DictOfH (tupleKind<|kZ P w) a xs:=by
 obtain⟨z,y,xs,r,o,es,ep,h1,h2,h3,f,j⟩:=(show lE P w H h a (.dT kvs)from VU ok e);refine⟨z,y,xs,r,o,es,ep,h1,h2,h3,f,λx d=>?_,j⟩;have all:∀{l:List<|List Key×V} {m:List<|List Key×ak×af},KT H l m->∀x∈m,(tupleKind<|kZ P w).is h x.1 x.2.1:=by
  intro l m q
  induction q with
  | nil=>intro x d;exact nomatch d
  | @cons p q ps k hq t g=>
   intro x d
   rcases bG.mp d with e|d
   ·subst e;exact uA ok (by rw[<- hq.1];exact hq.2.1)
   ·exact g x d
 exact all r x d
def CA{kvs:List<|List Key×V}(ok:xD P w H h)(e:H a=some (.dT kvs)):kvs.length<=sizeLine/\(a == sysModules)=false /\
  ∃xs,KT H kvs xs/\h.DictOfH (tupleKind<|kZ P w) a xs:=Bg ok<|.inl e
end
abbrev uH (H:Hp)(a:ak)(y:V)(r:Option V):Prop:=
 (∃kvs k,Rd H a (.dK kvs)/\y=kV k/\r=pV kvs k)\/∃kvs k b,Rd H a (.dT kvs)/\y=.ref b/\H b=some (.tup<|k.map kV)/\r=pV kvs k
abbrev yu (H:Hp)(a:ak)(y v:V)(H':Hp):Prop:=
 (∃kvs k,H a=some (.dK kvs)/\y=kV k/\kvs.length<sizeLine/\H'=upd H a (.dK<|putK kvs k v)) \/
 ∃kvs k b,H a=some (.dT kvs)/\y=.ref b/\H b=some (.tup<|k.map kV)/\kvs.length<sizeLine/\H'=upd H a (.dT<|putK kvs k v)
theorem uH.k{H:Hp}{a:ak}{k:Key}(e:H a=some (.dK kvs)):uH H a (kV k) (pV kvs k):=.inl ⟨kvs,k,.inl e,rfl,rfl⟩
def uH.t{H:Hp}{a:ak}{k:List Key}(e:H a=some (.dT kvs))(eb:H b=some (.tup<|k.map kV)):uH H a (.ref b) (pV kvs k):=.inr ⟨kvs,k,b,.inl e,rfl,eb,rfl⟩
theorem yu.k{H:Hp}{a:ak}{kvs:List<|Key×V}{k:Key}{v:V}(e:H a=some (.dK kvs))(hl:kvs.length<sizeLine):yu H a (kV k) v (upd H a<|.dK<|putK kvs k v):=.inl ⟨kvs,k,e,rfl,hl,rfl⟩
def yu.t{H:Hp}{a:ak}{kvs:List<|List Key×V}{k:List Key}{v:V}(e:H a=some (.dT kvs))(eb:H b=some (.tup<|k.map kV))(hl:kvs.length<sizeLine) :
  yu H a (.ref b) v (upd H a<|.dT<|putK kvs k v):=.inr ⟨kvs,k,b,e,rfl,eb,hl,rfl⟩
section
variable {X:Cx}{pins:bn}{σ:St}{H:Hp}{s:aC}{a:ak}{y v:V}{u r:af}{o:Option V}{A:aA}{E:af->aC->Prop}
def Inv.big(I:Inv X pins σ H s):sysModules<s.heap.objs.size:=by
 have h:mainGlobals<s.heap.objs.size:=(I.mod.glob.keeps I.bk).lt;exact jG ⋯ h
def LF{Q:af->aC->Prop}(hu:A.units+1<cLine)(I:Inv X pins σ H s)(g:uH H a y<|some v)(ry:RelV y u)(h:∀w' s',Inv X pins σ H s'->RelV v w'->Q w' s') :
  wpAny (model X.prog X.w) A (getItem (.ref a) u) Q E s:=by
 rcases g with⟨kvs,k,e,q,l⟩|⟨kvs,k,b,e,q,D,l⟩
 ·subst q;obtain⟨z,F,C,f,j⟩:=B3 I.hok e;obtain⟨w',hw,d⟩:=yV.some_of (v:=v) (o:=valueAt C k) (by rw[l];exact f.val k);exact wpAny_getItem_of (Au ry) j.mapOf hw (h w' _ (I.tok _) d)
 ·subst q
  cases(show u=Value.ref b from ry)
  obtain⟨z,F,xs,f,j⟩:=Bg I.hok e;obtain⟨w',hw,d⟩:=yV.some_of (v:=v) (o:=(atKey xs k).map (·.2)) (by rw[l];exact f.val k);obtain⟨p,B,t⟩:=aP.mp hw;refine wpAny_getItem_heap (eX hu) (uA I.hok D) j B ?_;rw[t];exact h w' _ (I.tok _) d
def adZ{Q:af->aC->Prop}(hu:A.units+1<cLine)(I:Inv X pins σ H s)(g:uH H a y o)(ry:RelV y u)(h:∀s',Inv X pins σ H s'->Q (.bool o.isSome) s') :
  wpAny (model X.prog X.w) A (compareOp .In u<|.ref a) Q E s:=by
 rcases g with⟨kvs,k,e,f,l⟩|⟨kvs,k,b,e,f,t,l⟩
 ·subst f;obtain⟨z,j,B,d,p⟩:=B3 I.hok e;refine wpAny_in_of (Au ry) j p.mapOf ?_;rw[<- (d.val k).tF,<- l];exact h _ (I.tok _)
 ·subst f
  cases(show u=Value.ref b from ry)
  obtain⟨z,j,xs,d,p⟩:=Bg I.hok e;refine wpAny_in_heap (eX hu) (uA I.hok t) j p ?_;have q:=(d.val k).tF;rw[dB]at q;rw[<- q,<- l];exact h _<|I.tok _
def Vz{Q:af->aC->Prop}(hu:A.units+1<cLine)(I:Inv X pins σ H s)(g:uH H a y o)(ry:RelV y u)(h:∀s',Inv X pins σ H s'->Q (.bool<|!o.isSome) s') :
  wpAny (model X.prog X.w) A (compareOp .NotIn u<|.ref a) Q E s:=by
 rcases g with⟨kvs,k,e,f,l⟩|⟨kvs,k,b,e,f,t,l⟩
 ·subst f;obtain⟨z,j,B,d,p⟩:=B3 I.hok e;refine wpAny_notIn_of (Au ry) j p.mapOf ?_;rw[<- (d.val k).tF,<- l];exact h _ (I.tok _)
 ·subst f
  cases(show u=Value.ref b from ry)
  obtain⟨z,j,xs,d,p⟩:=Bg I.hok e;refine wpAny_notIn_heap (eX hu) (uA I.hok t) j p ?_;have q:=(d.val k).tF;rw[dB]at q;rw[<- q,<- l];exact h _<|I.tok _
def t_{h':aq}{t':Nat}{ob:HO}(I:Inv X pins σ H s)(mu:Mut<|H a)(hs:Heap.SameBut a s.heap h')(he:∃q,h'.get? a=some q)(new:lE X.prog X.w (upd H a ob) h' a ob) :
  Inv X pins σ (upd H a ob) { s with heap:=h',toks:=t' }:=
 I.write (x:=a) (e:=a) mu (.inl rfl) (λb q hb z=>(hs.2 b hb).trans z) he new
def G4{P:aj}{w:ah}{H':Hp}{h':aq}{kvs:List<|Key×V}(z:kvs.length<=sizeLine)(hd:(a == sysModules)=false)(rel:KV kvs vs)(dd:h'.DictOf (kZ P w) a vs) :
  lE P w H' h' a (.dK kvs):=⟨z,hd,vs,rel,dd⟩
def Mz{H':Hp}{Q:Unit->aC->Prop}(hu:A.units+1<cLine)(I:Inv X pins σ H s)(g:yu H a y v H')(ry:RelV y u)(rv:RelV v r)(h:∀s',Inv X pins σ H' s'->Q Unit.unit s') :
  wpAny (model X.prog X.w) A (setItem (.ref a) u r) Q E s:=by
 rcases g with⟨kvs,k,e,t,l,B⟩|⟨kvs,k,b,e,t,G,l,B⟩
 ·subst t B;obtain⟨z,C,K,d,j⟩:=KQ I.hok e;have D:K.length<=sizeLine:=by rw[<- d.length];exact z
  have p:(putK kvs k v).length<=sizeLine:=by have:=qj kvs k v;lia
  refine wpAny_setItem_pairs (hsz:=D) (Au ry) j λh' f hs=>h _ ?_;have M:∃q,h'.get? a=some q:=let⟨q,_,_,hq,_⟩:=f;⟨q,hq⟩
  exact t_ I (by rw[e];exact True.intro) hs M<|G4 p C (d.put k rv) f
 ·subst t B
  cases(show u=Value.ref b from ry)
  obtain⟨z,C,xs,d,j⟩:=CA I.hok e;have D:xs.length<=sizeLine:=by rw[<- iO d];exact z
  have p:(putK kvs k v).length<=sizeLine:=by have:=qj kvs k v;lia
  refine wpAny_setItem_heap (hsz:=D) (eX hu) (uA I.hok G) j λh' f hs=>h _ ?_;obtain⟨q,es,ep,hq,h2,h3,J,_,L⟩:=f;refine t_ I (by rw[e];exact True.intro) hs ⟨q,hq⟩ ⟨p,C,_,(d.put k G rv).keeps λc ys F=>?_,q,es,ep,hq,h2,h3,J,L⟩;rw[jZ<|Iw F e λz=>nomatch z];exact F
end
def Gh{X:Cx}{H:Hp}{s:aC}{a:ak}(I:Inv X pins σ H s)(g:uH H a y o):s.TypeIs (.ref a) "dict" := by
 rcases g with⟨kvs,k,e,_,_⟩|⟨kvs,k,b,e,_,_,_⟩
 ·obtain⟨_,_,f,_,d⟩:=B3 I.hok e;exact d.typeIs
 ·obtain⟨_,_,xs,_,d⟩:=Bg I.hok e;exact d.typeIs
def M_{P:aj}{w:ah}{H:Hp}(h:aq)(hb:sysModules<h.objs.size):lE P w H (h.push { cls:=.type "dict",data:=.dict #[]}) h.objs.size (.dK []):=
 ⟨bF _,c5.mpr<|cO<|bD hb,[],.nil,Heap.DictOf.new h⟩
def Bk{P:aj}{w:ah}{H:Hp}(h:aq)(hb:sysModules<h.objs.size):lE P w H (h.push { cls:=.type "dict",data:=.dict #[]}) h.objs.size (.dT []):=
 ⟨bF _,c5.mpr<|cO<|bD hb,[],.nil,_,#[],0,br _ rfl,⟨rfl,rfl,rfl⟩,rfl,rfl,dc⟩
abbrev ZF:TE:=λ_ H Q=>∀p,H p=none->Q (.ref p) (upd H p<|.dK [])
abbrev Ze:TE:=λ_ H Q=>∀p,H p=none->Q (.ref p) (upd H p<|.dT [])
section
variable {X:Cx}{pos:Pos}
def Gi:PE X (.Dict [] [] pos) ZF:=λpins s σ H Q I h=>
 wpAny_Dict_empty ⟨.ref s.heap.objs.size,_,I.laid (a:=s.heap.objs.size) (o:=.dK []) (t':=s.toks) (λ_ _ q=>aQ _ q) (aN _)<|M_ s.heap I.big,rfl,h _<|I.hok.fresh<|aN _⟩
def PC:PE X (.Dict [] [] pos) Ze:=λpins s σ H Q I h=>
 wpAny_Dict_empty ⟨.ref s.heap.objs.size,_,I.laid (a:=s.heap.objs.size) (o:=.dT []) (t':=s.toks) (λ_ _ q=>aQ _ q) (aN _)<|Bk s.heap I.big,rfl,h _<|I.hok.fresh<|aN _⟩
end
structure M1 (X:Cx)(o:aE)(m:Str)(apos:Pos)(e:aE)(cpos:Pos):Prop where
 base:attributeBase o m X.env (eval o X.env)=eval o X.env
 few:((backTo cpos<|starEach [e] X.env).all (λx=>!x.1) && (backToKw cpos<|keywordEach [] X.env).all (λx=>x.1.isSome)
  && decide (([e]:List aE).length+([]:List Keyword).length+(if ([]:List Keyword).isEmpty then 0 else 1)<30))=true
 line:(apos.endLine == cpos.line)=true
 trees:backTo cpos (starEach [e] X.env)=[(false,eval e X.env)]
structure M2 (X:Cx)(o:aE)(m:Str)(apos:Pos)(e f:aE)(cpos:Pos):Prop where
 base:attributeBase o m X.env (eval o X.env)=eval o X.env
 few:((backTo cpos<|starEach [e,f] X.env).all (λx=>!x.1) && (backToKw cpos<|keywordEach [] X.env).all (λx=>x.1.isSome)
  && decide (([e,f]:List aE).length+([]:List Keyword).length+(if ([]:List Keyword).isEmpty then 0 else 1)<30))=true
 line:(apos.endLine == cpos.line)=true
 trees:backTo cpos (starEach [e,f] X.env)=[(false,eval e X.env),(false,eval f X.env)]
section
variable {X:Cx}{pins:bn}{σ:St}{H:Hp}{s:aC}{a:ak}{y d:V}{u r:af}{o:Option V}{A:aA}{E:af->aC->Prop}
def Oe{Q:af->aC->Prop}(hu:A.units+1<cLine)(I:Inv X pins σ H s)(g:uH H a y o)(ry:RelV y u)(rd:RelV d r)(h:∀w' s',Inv X pins σ H s'->RelV (o.getD d) w'->Q w' s') :
  wpAny (model X.prog X.w) A (call (.builtin "dict.get") [.ref a,u,r]) Q E s:=by
 rcases g with⟨kvs,k,e,p,l⟩|⟨kvs,k,b,e,p,t,l⟩
 ·subst p;obtain⟨z,q,B,f,j⟩:=B3 I.hok e;refine call_meetsIn c7 j.typeIs ie (gR _ _ _) (meets_dict_get_default (kZ X.prog X.w) a (Au ry) q r) ⟨_,j.mapOf,h _ _ (I.tok _) ?_⟩;rw[l];exact(f.val k).getD rd
 ·subst p
  cases(show u=Value.ref b from ry)
  obtain⟨z,q,xs,f,j⟩:=Bg I.hok e;refine call_meetsIn c7 j.typeIs ie (gR _ _ _) (meetsH_dict_get_default (tupleKind<|kZ X.prog X.w) a b q r) ⟨eX hu,k,xs,uA I.hok t,j,h _ _ (I.tok _) ?_⟩;rw[l];exact(f.val k).getD rd
end
meta abbrev ni:=ag×ag
abbrev tN (x:ag):Int:=reduceHash<|Builtin.Tuple.tupleHashOf<|x.map hashInt
abbrev KD (k:ni):Int:=reduceHash<|Builtin.Tuple.tupleHashOf [tN k.1,tN k.2]
abbrev dpE (x:(ni×ak×af)):DictEntry:=⟨KD x.1,.ref x.2.1,x.2.2⟩
abbrev xw (a:ak)(xs:List<|ni×ak×af)(h:aq):Prop:=(a == sysModules)=false/\xs.length<=sizeLine/\∃o es ep,h.get? a=some o/\o.ExactDict/\o.data=.dict es ep/\es.toList=xs.map dpE/\(xs.map (·.1)).Nodup
abbrev tY (H:Hp)(b:ak)(k:ni):Prop:=∃r1 r2,H b=some (.tup [.ref r1,.ref r2])/\H r1=some (.tup<|k.1.map V.int)/\H r2=some (.tup<|k.2.map V.int)
section
variable {P:aj}{w:ah}{A:aA}{E:af->aC->Prop}{s:aC}
meta abbrev TK (h:aq)(x:ag)(a:ak):Prop:=∃o d n,h.get? a=some o/\o.cls=.type "tuple" /\ o.data=.seq d n/\IntsAre d.toList x
theorem AQ{P:aj}{w:ah}:∀{x:ag}{vs:ba},IntsAre vs x->ItemsAre (intKind P w) x vs
 | _,_,.nil=>.nil
 | _,_,.cons n t h=>.cons (intKind_is _ _ _ _)<|AQ h
def xj{x:ag}{a:ak}:TK h x a->IsTupleKey (intKind P w) h x a:=λ⟨o,d,n,h1,h2,h3,f⟩=>⟨o,d,n,h1,h2,h3,AQ f⟩
theorem FQ:∀{x y:ag}{vs:ba},IntsAre vs x->IntsAre vs y->x=y
 | _,_,_,.nil,.nil=>rfl
 | _,_,_,.cons n t h,.cons _ _ h'=>by rw[FQ h h']
abbrev wm (h:aq)(k:ni)(a:ak):Prop:=∃o n d f,h.get? a=some o/\o.cls=.type "tuple" /\ o.data=.seq #[.ref d,.ref f] n/\TK h k.1 d/\TK h k.2 f
def wm.ty{k:ni}{a:ak}(x:wm s.heap k a):s.TypeIs (.ref a) "tuple" := let⟨o,_,_,_,ho,hc,_⟩:=x;⟨o,ho,hc⟩
def TK.inj{a:ak}{x:ag}(hx:TK h x a)(hy:TK h y a):x=y:=by
 obtain⟨o,j,n,t,_,q,p⟩:=hx;obtain⟨o',f,B,k,_,d,g⟩:=hy;obtain rfl:o=o':=bg<|t.symm.trans k;rw[q]at d
 injection d with h1 _
 subst h1;exact FQ p g
def wm.inj{a:ak}{x:ni}(hx:wm h x a)(hy:wm h y a):x=y:=by
 obtain⟨o,n,q,t,k,_,p,h1,h2⟩:=hx;obtain⟨o',C,D,B,j,_,d,f,g⟩:=hy;obtain rfl:o=o':=bg<|k.symm.trans j;rw[p]at d
 injection d with e _
 have e:=cV Array.toList e
 injection e with e1 e2
 injection e2 with e2 _
 injection e1 with e1
 injection e2 with e2
 subst e1 e2;exact Prod.ext (h1.inj f)<|h2.inj g
def Fc{h:aq}{x:ag}{a d:ak}{o:Obj}{es ep}(k:TK h x a)(ho:h.get? d=some o)(hd:o.data=.dict es ep)(hs:Heap.SameBut d h h'):TK h' x a:=by
 obtain⟨o',f,n,j,hc,g,q⟩:=k;have p:a≠d:=by
  rintro rfl;obtain rfl:o'=o:=bg<|j.symm.trans ho;rw[hd]at g;exact nomatch g
 exact⟨o',f,n,(hs.2 a p).trans j,hc,g,q⟩
def wm.keeps{h:aq}{k:ni}{a d:ak}{o:Obj}{es ep}(x:wm h k a)(ho:h.get? d=some o)(hd:o.data=.dict es ep)(hs:Heap.SameBut d h h'):wm h' k a:=by
 obtain⟨o',n,q,p,g,hc,f,h1,h2⟩:=x;have j:a≠d:=by
  rintro rfl;obtain rfl:o'=o:=bg<|g.symm.trans ho;rw[hd]at f;exact nomatch f
 exact⟨o',n,q,p,(hs.2 a j).trans g,hc,f,Fc h1 ho hd hs,Fc h2 ho hd hs⟩
def LG{k:ni}{a:ak}{Q:Int->aC->Prop}(hu:A.units+8<cLine)(hk:wm s.heap k a)(h:Q (KD k) { s with toks:=s.toks+(k.1.length+1+(k.2.length+1)+1)}) :
  wpAny (model P w) A (pyHash<|.ref a) Q E s:=by
 have f:=hk.ty;obtain⟨o,n,j,g,p,_,q,h1,h2⟩:=hk;unfold pyHash
 first|unfold pyHashByItsType|skip
 first|refine aG (wpAny_cRoomFor_or (.inr<|by omega) ?_)|skip
 refine aG<|gJ f ig.lookup ?_;show wpAny _ _ (if (some (Value.builtin "tuple.__hash__") == some Value.none)=true then _ else _) Q E s;rw[aV<|by rw[beq_builtin_none];exact bw];refine aG<|gJ f ig.lookup ?_;show wpAny _ _ (callSpecialIfBoundUnlessNone? (.ref a) "__hash__" _ >>= _) Q E s;refine aG<|wpAny_callSpecialIfBoundUnlessNone?_slot f ig<|cB ig f F.entry_tuple_hash ?_<|F.args_tuple_hash_1 _;show wpAny _ _ (Builtin.Tuple.tupleItemsOf (.ref a) >>= _) _ _ s;refine aG<|jj p q ?_;refine aG ?_;rw[<- jk];refine fF _
  (λrest (b:Array Int) s'=>(rest=[.ref j,.ref g]/\b.toList=[]/\s'=s)\/(rest=[.ref g]/\b.toList=[tN k.1]/\s'={ s with toks:=s.toks+(k.1.length+1)})\/(rest=[]/\b.toList=[tN k.1,tN k.2]/\s'={ s with toks:=s.toks+(k.1.length+1)+(k.2.length+1)}))
  _ ?_ ?_ _ _ (.inl ⟨rfl,rfl,rfl⟩)
 ·rintro x rest b s' (⟨e,hb,rfl⟩|⟨e,hb,rfl⟩|⟨e,_,_⟩)
  ·cases e
   refine aG (wpAny_pyHash_tuple (knd:=intKind P w) (ks:=k.1) (by simp;omega) (xj h1) ?_)
   first
    | exact aM (.inr<|.inl ⟨rfl,by rw[ir,hb];rfl,rfl⟩)
    | exact aG<|aM<|aM<|.inr<|.inl ⟨rfl,by rw[ir,hb];rfl,rfl⟩
  ·cases e
   refine aG (wpAny_pyHash_tuple (knd:=intKind P w) (ks:=k.2) (by simp;omega) (xj h2) ?_)
   first
    | exact aM (.inr<|.inr ⟨rfl,by rw[ir,hb];rfl,rfl⟩)
    | exact aG<|aM<|aM<|.inr<|.inr ⟨rfl,by rw[ir,hb];rfl,rfl⟩
  ·cases e
 ·rintro b s' (⟨e,_,_⟩|⟨e,_,_⟩|⟨_,hb,rfl⟩)
  ·cases e
  ·cases e
  ·show wpAny _ _ (retInt<|Builtin.Tuple.tupleHashOf b.toList) _ _ _;rw[hb];refine wpAny_ret_mkInt ?_;show wpAny _ _ (if (decide (-(2:Int) ^ 63<=Builtin.Tuple.tupleHashOf [tN k.1,tN k.2]) && decide (Builtin.Tuple.tupleHashOf [tN k.1,tN k.2]<2 ^ 63))=true then _ else _) Q E _;unfold KD reduceHash at h;by_cases d:(decide (-(2:Int) ^ 63<=Builtin.Tuple.tupleHashOf [tN k.1,tN k.2]) && decide (Builtin.Tuple.tupleHashOf [tN k.1,tN k.2]<2 ^ 63))=true
   ·rw[aW d];rw[aW d]at h;exact aM (by simpa[Nat.add_assoc]using h)
   ·rw[aV d];rw[aV d]at h;exact aG<|gc<|aM<|by simpa[Nat.add_assoc]using h
def C3{x:ni}{a:ak}{R:Fin->aC->Prop}(hu:A.units+8<cLine)(hx:wm s.heap x a)(hy:wm s.heap y b)(h:R (.done<|.ret<|.bool<|decide<|x=y) s) :
  wpAny (model P w) A (Builtin.«tuple.__eq__» ⟨[.ref a,.ref b],[]⟩) R E s:=by
 have k:=hy.ty;obtain⟨J,na,F,C,t,_,q,h1,h2⟩:=hx;obtain⟨ob,nb,G,D,g,_,f,j,p⟩:=hy;show wpAny _ _ (isInstance (.ref b) (.type "tuple") >>= _) _ _ s;refine aG<|gu k iG ?_;dsimp[bY,bI,cH];refine aG<|jj t q ?_;refine aG<|jj g f ?_;refine aG ?_;refine fF _
  (λrest r s'=>r.1=none/\s'=s/\((rest=[(.ref F,.ref G),(.ref C,.ref D)])\/(rest=[(.ref C,.ref D)]/\x.1=y.1)\/(rest=[]/\x=y)))
  _ ?_ ?_ _ _ ⟨rfl,rfl,.inl rfl⟩
 ·rintro⟨u,v⟩ rest r s' ⟨B,rfl,e|⟨e,hq⟩|⟨e,_⟩⟩
  ·cases e
   refine aG<|wpAny_eqBool_tuple (knd:=intKind P w) (x:=x.1) (y:=y.1) () (xj h1) (xj j) ?_;by_cases d:x.1=y.1
   ·rw[bf d];dsimp[bY,bI,cH];exact aM ⟨rfl,rfl,.inr<|.inl ⟨trivial,d⟩⟩
   ·rw[bz d];dsimp[dg,fq];rw[bz λz=>d<|by rw[z]]at h;exact aG<|aM<|aM<|aM h
  ·cases e
   refine aG<|wpAny_eqBool_tuple (knd:=intKind P w) (x:=x.2) (y:=y.2) () (xj h2) (xj p) ?_;by_cases d:x.2=y.2
   ·rw[bf d];dsimp[bY,bI,cH];exact aM ⟨rfl,rfl,.inr<|.inr ⟨trivial,Prod.ext hq d⟩⟩
   ·rw[bz d];dsimp[dg,fq];rw[bz λz=>d<|by rw[z]]at h;exact aG<|aM<|aM<|aM h
  ·cases e
 ·rintro⟨r1,r2⟩ s' ⟨B,rfl,e|⟨e,_⟩|⟨_,e⟩⟩
  ·cases e
  ·cases e
  ·simp only at B;subst B;refine aM ?_;rw[bf e]at h;exact h
def U5{x:ni}{a:ak}{Q:Bool->aC->Prop}(hu:A.units+16<cLine)(hx:wm s.heap x a)(hy:wm s.heap y b)(h:Q (decide<|x=y) s):wpAny (model P w) A (eqBool (.ref a)<|.ref b) Q E s:=by
 unfold eqBool
 try with_reducible refine cY ?_
 show wpAny _ _ (if (Value.ref a == Value.ref b)=true then _ else _) Q E s;by_cases d:(Value.ref a == Value.ref b)=true
 ·rw[aW d];have e:a=b:=by have:=eq_of_beq d;injection this
  subst e;obtain rfl:=hx.inj hy;exact aG<|gc<|aM<|by simpa using h
 ·rw[aV d];exact aG (wpAny_richCompare_same_room (op:=.Eq) hx.ty hy.ty i9
   (cB i9 hx.ty F.entry_tuple_eq (C3 (by simp;lia) hx hy ⟨_,rfl,(λe=>nomatch e),cP h⟩)<|F.args_tuple_eq_2 _ _) ())
def Ni{n:Nat}{x:ag}{a:ak}{Q:Bool->aC->Prop}(hk:TK s.heap x a)(h:Q true s):wpAny (model P w) A (eqIsQuiet (n+1)<|.ref a) Q E s:=by
 have hk:=xj (P:=P) (w:=w) hk;have k:=hk.typeIs;obtain⟨o,f,m,q,_,t,p⟩:=hk;unfold eqIsQuiet;refine aG<|gJ k i9.lookup ?_;show wpAny _ _ (isInstance (.ref a) (.type "tuple") >>= _) _ _ s;refine aG<|gu k iG ?_;dsimp[bY,bI,cH];refine aG<|h_ q t ?_;refine aG ?_;show wpAny _ _ (forIn f _ _) _ _ s;rw[<- jk];refine fF _ (λrest r s'=>r.1=none/\s'=s/\∀v∈rest,carriedByValue v=true) _ ?_ ?_ _ _ ⟨rfl,rfl,p.byValue⟩
 ·rintro v rest r s' ⟨g,rfl,d⟩;rw[eqIsQuiet_byValue _<|d v aL];refine aG<|aM ?_;dsimp[bY,bI,cH];exact aM ⟨rfl,rfl,λu j=>d u<|aO _ j⟩
 ·rintro⟨r1,r2⟩ s' ⟨g,rfl,_⟩;simp only at g;subst g;exact aM h
def Ib{k:ni}{a:ak}{Q:Bool->aC->Prop}(hk:wm s.heap k a)(h:Q true s):wpAny (model P w) A (eqIsQuiet 8<|.ref a) Q E s:=by
 have q:=hk.ty;obtain⟨o,m,j,p,B,_,C,h1,h2⟩:=hk;unfold eqIsQuiet;refine aG<|gJ q i9.lookup ?_;show wpAny _ _ (isInstance (.ref a) (.type "tuple") >>= _) _ _ s;refine aG<|gu q iG ?_;dsimp[bY,bI,cH];refine aG<|h_ B C ?_;refine aG ?_;show wpAny _ _ (forIn (#[Value.ref j,.ref p]:Array af) _ _) _ _ s;rw[<- jk];refine fF _ (λrest r s'=>r.1=none/\s'=s/\∀v∈rest,∃c x,v=Value.ref c/\TK s.heap x c) _ ?_ ?_ _ _ ⟨rfl,rfl,λv hv=>by
  rcases bG.mp hv with e|hv
  ·exact⟨j,k.1,e,h1⟩
  ·exact⟨p,k.2,by simpa using hv,h2⟩⟩
 ·rintro v rest r s' ⟨f,rfl,d⟩;obtain⟨c,x,rfl,t⟩:=d v aL;refine aG<|Ni t ?_;dsimp[bY,bI,cH];exact aM ⟨rfl,rfl,λu g=>d u<|aO _ g⟩
 ·rintro⟨r1,r2⟩ s' ⟨f,rfl,_⟩;simp only at f;subst f;exact aM h
end
abbrev EY (P:aj)(w:ah):HeapKind P w ni where
 is:=wm
 hash:=KD
 draws:=λk=>k.1.length+1+(k.2.length+1)+1
 room:=λA=>A.units+16<cLine
 inj:=λd hy=>d.inj hy
 keeps:=λx p j hs=>x.keeps p j hs
 pyHash:=λg f h=>LG () f h
 eqBool:=λg d hy h=>U5 g d hy h
 quiet:=λf h=>Ib f h
section
variable {X:Cx}
def Dv(hu:X.A.units+1<cLine):UA X (λx y H Q=>∃a v,x=.ref a/\uH H a y (some v)/\Q v H):=by
 intro f j pins s σ H x y v u Q I rx ry h hs;obtain⟨a,z,rfl,g,q⟩:=h
 cases rx
 have t:=Gh I g;unfold subscriptTail;refine aG ?_;rw[getitemInPython_of_ne t.not_modules];refine aG<|gJ t PySem.F.slot_dict_getitem.lookup ?_;have d:wpAny (model X.prog X.w) X.A (subscripted j false (.ref a) u) (λr k=>wpAny (model X.prog X.w) X.A (letTemporaryGo f (.ref a) r >>= λ_=>pure r) (EP X pins σ Q) X.xe k) X.xe s:=by
  rw[hs];exact wpAny_operating<|LF hu I g ry λD C B p=>aG<|wpAny_letTemporaryGo<|aM ⟨z,H,B,p,q⟩
 first
  | exact aM (aG d)
  | exact aG (aM<|aG d)
  | exact aG d
def ZI(hu:X.A.units+1<cLine):oR X (compareOp .In) (λy x H Q=>∃a o,x=.ref a/\uH H a y o/\Q (.bl o.isSome) H):=by
 intro pins s σ H y x v u Q I ry rx h;obtain⟨a,o,rfl,g,q⟩:=h
 cases rx
 exact adZ hu I g ry λf d=>⟨.bl o.isSome,H,d,rfl,q⟩
def LW(hu:X.A.units+1<cLine):oR X (compareOp .NotIn) (λy x H Q=>∃a o,x=.ref a/\uH H a y o/\Q (.bl<|!o.isSome) H):=by
 intro pins s σ H y x v u Q I ry rx h;obtain⟨a,o,rfl,g,q⟩:=h
 cases rx
 exact Vz hu I g ry λf d=>⟨.bl<|!o.isSome,H,d,rfl,q⟩
def set_dict(hu:X.A.units+1<cLine):C1 X (λo i v H Q=>∃a H',o=.ref a/\yu H a i v H'/\Q H'):=by
 intro pins s σ H o i v p iv u Q I d f j h;obtain⟨a,H',rfl,g,q⟩:=h
 cases d
 exact Mz hu I g f j λt k=>⟨H',k,q⟩
abbrev YF (tk tv:TE):TE:=λσ H Q=>∀p,H p=none->tk σ (upd H p<|.dT []) λx H1=>tv σ H1 λy H2=>H2 p=some (.dT [])/\∃b ks,x=.ref b/\H2 b=some (.tup<|ks.map kV)/\Q (.ref p) (upd H2 p<|.dT [(ks,y)])
def O_{k v:aE}{tk tv:TE}(hu:X.A.units+1<cLine)(hk:PE X k tk)(hv:PE X v tv):PE X (.Dict [some k] [v] pos) (YF tk tv):=by
 intro pins s σ H Q I q;have hn:=I.hok.fresh<|aN s.heap.objs.size;have M:=I.laid (a:=s.heap.objs.size) (o:=.dT []) (h':=s.heap.push { cls:=.type "dict",data:=.dict #[]}) (t':=s.toks) (λ_ _ q=>aQ _ q) (aN _)<|Bk s.heap I.big;refine wpAny_Dict_any rfl rfl (by simp) (show 1<=15 by decide) ?_;refine pairTrees_cons_walk<|nq (hk pins _ σ _ _ M<|q _ hn) λkv F ⟨x,H1,G,rx,L⟩=>nq (hv pins F σ H1 _ G L) λvv N ⟨y,H2,d,ry,e,b,ks,ex,t,D⟩=>pairTrees_nil_walk ?_;subst ex
 cases rx
 obtain⟨z,K,xs,g,C⟩:=CA d.hok e
 cases g
 unfold storeAll;rw[jL];refine aG (aG<|wpAny_dictSet_heap (hsz:=by simp) (show X.A.units<cLine by lia) (uA d.hok t) C λh' f hs=>aM ?_);dsimp only;rw[ji];refine aM ⟨.ref s.heap.objs.size,_,?_,rfl,D⟩;obtain⟨j,es,ep,hq,h2,h3,B,_,J⟩:=f;refine t_ d (by rw[e];exact True.intro) hs ⟨j,hq⟩ ⟨by show 1<=sizeLine;decide,K,_,(KT.put (kvs:=[]) .nil ks t ry).keeps λc ys p=>?_,j,es,ep,hq,h2,h3,B,J⟩;rw[jZ<|Iw p e λz=>nomatch z];exact p
abbrev abU:V->List V->Hp->VK->Prop:=λx d H Q=>∃a b ks kvs y,x=.ref a/\d=[.ref b,y]/\H a=some (.dT kvs)/\H b=some (.tup<|ks.map kV)/\Q ((pV kvs ks).getD y) H
def Tr(hu:X.A.units+1<cLine):Z9 X "dict.get" abU:=by
 intro pins s σ H x F v us Q I rx f h;obtain⟨a,b,ks,kvs,y,rfl,rfl,C,k,q⟩:=h
 cases rx
 cases f with
 | @cons _ G _ DM r1 f=>
  cases f with
  | @cons _ p _ Ez r2 f=>
   cases f
   cases r1
   obtain⟨z,B,xs,g,j⟩:=CA I.hok C;refine call_meetsIn c7 j.typeIs ie (gR _ _ _) (meetsH_dict_get_default (tupleKind<|kZ X.prog X.w) a b B p) ⟨eX hu,ks,xs,uA I.hok k,j,?_⟩;refine⟨(pV kvs ks).getD y,H,I.tok _,?_,q⟩;have d:=g.val ks
   cases e1:pV kvs ks with
   | none=>
    rw[e1]at d
    cases e2:(atKey xs ks).map (·.2)with
    | none=>exact r2
    | some t=>rw[e2]at d;exact d.elim
   | some D=>
    rw[e1]at d
    cases e2:(atKey xs ks).map (·.2)with
    | none=>rw[e2]at d;exact d.elim
    | some t=>rw[e2]at d;exact d
end
section
theorem kt_at{H:Hp}:∀{kvs:List<|List Key×V}{xs:List<|List Key×ak×af},KT H kvs xs->kvs.length=xs.length/\∀(i:Nat) (p:List Key×V),kvs[i]?=some p->∃y:List Key×ak×af,xs[i]?=some y/\p.1=y.1/\H y.2.1=some (.tup<|p.1.map kV)/\RelV p.2 y.2.2
 | [],[],_=>⟨rfl,λi p h=>by simp at h⟩
 | [],_::_,r=>nomatch r
 | _::_,[],r=>nomatch r
 | a::kvs,b::xs,.cons z r=>by
  obtain⟨l,q⟩:=kt_at r;refine⟨by simp[l],λi p h=>?_⟩
  cases i with
  | zero=>
   have:a=p:=by simpa using h
   subst this;exact⟨b,rfl,z⟩
  | succ i=>exact q i p<|by simpa using h
end
abbrev C0 (e:ak)(h:aq):Prop:=∃o d,h.get? e=some o/\o.data=.fields d/\d[2]?=some .none/\o.dict=none
structure Fly (l:List Env)(g:aq)(pn:bn)(H:Hp)(e:ak)(cls:af)(h:aq):Prop where
 ex:∃(B:aq) (a0:af),Heap.FlyingW B l e cls a0 h/\(∀a u,H a=some u->∃o,B.get? a=some o)/\(∀b o,g.get? b=some o->b∉frs l->∃o',B.get? b=some o')/\(∀p∈pn,∃o',B.get? p.1=some o')/\C0 e h
structure Made (X:Cx)(H:Hp)(e:ak)(cls:af)(g:aq)(h:aq):Prop where
 ex:∃(g':aq) (vs:ba),Heap.MadeExcOf g' h e cls vs/\g'.FunFrames X.base X.stack/\(∀a u,H a=some u->∃o,g'.get? a=some o)/\(∀b o,g.get? b=some o->∃o',g'.get? b=some o')/\(∀p∈X.pn,∃o',g'.get? p.1=some o')
abbrev Y9 (X:Cx)(H:Hp)(e:ak)(cls:af)(s':aC):Prop:=Made X H e cls X.s₀.heap s'.heap\/Fly X.stack X.s₀.heap X.pn H e cls s'.heap
section
abbrev EX (X:Cx):XK:=λcls _ H'=>X.ex=[]/\∀pins d s' e,Inv X pins d H' s'->Y9 X H' e cls s'->X.xe (.ref e) s'
end
inductive FParts (X:Cx):List aE->List (Str ⊕ TE)->Prop
 | nil:FParts X [] []
 | txt {x:Str} {j pos} {es:List aE} {ps:List<|Str ⊕ TE} (h:FParts X es ps):FParts X (.Constant (.str x) j pos::es) (.inl x::ps)
 | val {e:aE} {pos:Pos} {t:TE} {es:List aE} {ps:List<|Str ⊕ TE} (he:PE X e t) (h:FParts X es ps):FParts X (.FormattedValue e (-1) none pos::es) (.inr t::ps)
abbrev xu:HO:=.ext λ_=>True
structure XO (C:ak)(o:Obj):Prop where
 cls:o.cls=.ref C
 dict:o.dict=none
 ctx:∃vs,o.data=.fields vs/\vs[2]?=some .none
structure Fr0 (X:Cx)(e:ak):Prop where
 no:∀o,X.s₀.heap.get? e≠some o
 tup:∀xs,X.H₀ e≠some (.tup xs)
 frz:∀o u,X.H₀ e≠some (.frz o u)
 tbl:∀ps,X.H₀ e≠some (.tbl ps)
abbrev mroIn (K:au)(C:ak):Option (ba):=match K.lookup C with
 | some ⟨.type "type",_,.cls cd,sl⟩=>(match cd.mro,sl.toList with
  | .ref C'::bm,[_,_,_,_,some<|.builtin _,_]=>if C'=C/\cd.hasDel=false then some bm else none
  | _,_=>none)
 | _=>none
structure ClsAt (h:aq)(C:ak)(bm:ba):Prop where
 ex:∃nm q N bs hdct sn sub ab col dd k0 k1 k2 k3 k5 newId,h.get? C=some (excClassObj nm q C N bs bm hdct sn sub ab col dd k0 k1 k2 k3 k5 newId)
open PySem.W in
structure XCls (K:au)(C:ak):Prop where
 ga:findIn K (.ref C) "__getattribute__" = some (some<|.builtin "BaseException.__getattribute__")
 gt:findIn K (.ref C) "__getattr__" = some none
 fc:findObj K C none "__class__" = some (.bind (.builtin "getset_descriptor.__get__")<|.builtin "object.__class__")
 ob:PySem.W.mroIn K C (.type "object")=some true
 bs:subIn K (.ref C) (.type "BaseException")=some true
abbrev Yu (A:aA):aA:={ A with handled:=none }
abbrev abS (k:Nat)(A:aA):Prop:=Room k<|Yu A
structure Hnd (A:aA)(H:Hp)(e:ak)(oe:Obj)(C:ak):Prop where
 hh:A.handled=some (.ref e)
 h0:H e=some (.frz oe xu)
 xo:XO C oe
structure FnOkH (P:aj)(w:ah)(K:au)(mg:Str->bd)(base:aq)(k:Nat)(f:ak)(fd:FuncData)(ps:ar)(sp:Sp):Prop where
 len:∀vs H Q E,sp vs H Q E->vs.length=ps.length
 run:∀(A:aA) (outer:List Env) (s:aC) (H:Hp) (args:Args) (us:ba) (vs:List V) (Q:VK) (e:ak) (oe:Obj) (C:ak),abS k A->Hnd A H e oe C->Env0 P w K mg base A outer s H->BindsTo s fd args (ps.zip us)->Vals vs us->sp vs H Q E0 ->
  codeAny (model P w) A (.call (.ref f) args) (CR qf outer P w H s Q E0) s
end L2
namespace L2
open PySem PySem.Spec PyProof.Rows PySem.SeqAt
def Aw{prog:aj}{w:ah}{A:aA}{E:af->aC->Prop}{β:Type}{f:Nat->β->Sem (ForInStep β)}(I:Nat->β->aC->Prop)(Q:β->aC->Prop)
  (turn:∀i c s,i<b->I i c s->wpAny (model prog w) A (f i c) (λr s'=>match r with | .done c'=>Q c' s' | .yield c'=>I (i+1) c' s') E s)
  (fin:∀c s,I b c s->Q c s) {c:β} {s:aC} (h:I 0 c s):wpAny (model prog w) A (forIn [0:b] c f) Q E s:=by
 rw[Std.Legacy.Range.forIn_eq_forIn_range'];dsimp[Std.Legacy.Range.size,Nat.sub_zero,Nat.add_sub_cancel,Nat.div_one];refine fF f (λl c s=>∃i,i<=b/\l=List.range' i (b-i) 1/\I i c s) Q ?_ ?_ _ _ ⟨0,bF _,rfl,h⟩
 ·rintro x rest c s ⟨i,j,d,k⟩;have g:i<b:=by
   rcases lt_or_ge i b with h'|h'
   ·exact h'
   ·rw[show b-i=0 by lia]at d;simp at d
  obtain⟨n,hn⟩:∃n,b-i=n+1:=⟨b-i-1,()⟩;rw[hn,iM]at d;obtain⟨rfl,rfl⟩:=List.cons.inj d;refine fL (turn x c s g k) (λr s' h'=>?_) λ_ _ q=>q
  cases r with
  | done c'=>exact h'
  | yield c'=>exact⟨x+1,g,by congr 1;lia,h'⟩
 ·rintro c s ⟨i,j,d,k⟩;have:b-i=0:=by
   rcases Nat.eq_zero_or_pos (b-i)with z|z
   ·exact z
   ·obtain⟨n,hn⟩:∃n,b-i=n+1:=⟨b-i-1,()⟩;rw[hn,iM]at d;cases d
  have:i=b:=()
  subst this;exact fin c s k
def BA(l:ak)(items:Array af)(n:Nat)(dd:Option ak)(sl:Array<|bd)(x:af)(e:af->Bool)(j:Nat)(hj:j<items.size)(hit:e items[j]=true)(hno:∀m (hm:m<items.size),m<j->e items[m]=false) :
  Meets (Builtin.«tuple.index» ⟨[.ref l,x],[]⟩)
   (λA R s=>s.heap.get? l=some { cls:=.type "tuple",dict:=dd,data:=.seq items n,slots:=sl }/\(∀y,y∈items->EqAt A.in1 s y x (e y))/\R (.ok<|.ret<|.int j s.toks) { s with toks:=s.toks+1 }):=
 .of_wp λprog w A R s h=>by
  obtain⟨B,g,d,C,p⟩:=s;obtain⟨t,D,h⟩:=h
  wp_walk using cX t,Aw (λi b s'=>b.1=none/\s'=⟨B,g,d,C,p⟩/\i<=j) _
  case turn=>
   rintro i b s' F ⟨hb,rfl,k⟩;have f:i<items.size:=()
   rw[cT f];refine aG (D _ (Array.getElem_mem f) prog w _ _ ?_)
   rcases lt_or_ge i j with q|q
   ·rw[hno i f q]
    wp_walk
    exact⟨rfl,rfl,q⟩
   ·have:i=j:=()
    subst this;rw[hit]
    wp_walk
    exact⟨_,rfl,h⟩
  case fin=>
   rintro⟨J,G⟩ s' ⟨hb,rfl,k⟩
   lia
  case h=>exact⟨rfl,rfl,bF _⟩
abbrev WT (K:au)(tup:Bool):V->List V->Hp->VK->Prop:=λx f H Q=>∃(p:ak) (y:V) (xs:List V) (k:Nat) (z:V),x=.ref p/\f=[y]/\(if tup=true then nh K H p xs else oS K H p xs)/\uW y=true/\xs.all uW=true/\xs[k]?=some z/\GW z y=true/\(∀(m:Nat) (d:V),m<k->xs[m]?=some d->GW d y=false)/\Q (.int k) H
section
variable {X:Cx}
def Ql{xs:List V}{its:ba}{k:Nat}(r:Vals xs its)(f:xs.all uW=true)(hk:xs[k]?=some z)(hz:GW z y=true)(hno:∀m z',m<k->xs[m]?=some z'->GW z' y=false) :
  ∃hj:k<its.toArray.size,eqU y its.toArray[k]=true/\∀m (hm:m<its.toArray.size),m<k->eqU y its.toArray[m]=false:=by
 have fl:∀m z',xs[m]?=some z'->uW z'=true:=λm z' h=>dM.mp f z'<|aZ h;obtain⟨u,t,q⟩:=r.get hk;obtain⟨hj,e⟩:=aJ.mp t;refine⟨by simpa using hj,?_,λm hm p=>?_⟩
 ·rw[gf,e,HD q<|fl k z hk];exact hz
 ·have d:m<xs.length:=by have:=(aJ.mp hk).1;lia
  obtain⟨C,j,g⟩:=r.get<|aI d;obtain⟨_,B⟩:=aJ.mp j;rw[gf,B,HD g<|fl m _<|aI d];exact hno m _ p<|aI d
def VF:E_ X "tuple.index" (WT X.K true):=by
 intro pins s σ H x T v us Q I rx J ⟨p,y,xs,k,z,B,d,hq,G,fs,C,P,f,q⟩;subst B d
 cases rx
 obtain⟨u,rfl,O⟩:=J.one;obtain⟨g,r,pl,N⟩:=I.tuple hq;obtain⟨M,h1,h2⟩:=Ql r fs C P f;obtain⟨⟨cls,D,data,L⟩,j,hc,n,t⟩:=id pl;simp only at hc t;subst hc t;exact eU F.slot_tuple_index ⟨_,j,rfl⟩ F.entry_tuple_index (F.args_tuple_index_2 _ _) (BA p g.toArray n D L u (eqU y) k M h1 h2) ⟨j,λw hw=>Ai O G r fs w<|by simpa using hw,.int k,H,I.tok _,⟨_,rfl⟩,q⟩
def Ub:E_ X "list.index" (WT X.K false):=by
 intro pins s σ H x U v us Q I rx J ⟨p,y,xs,k,z,C,d,hq,G,fs,j,T,f,q⟩;subst C d
 cases rx
 obtain⟨u,rfl,P⟩:=J.one;obtain⟨g,r,pl,O⟩:=I.list hq;obtain⟨M,h1,h2⟩:=Ql r fs j T f;obtain⟨⟨cls,D,data,L⟩,t,hc,n,B⟩:=id pl.isList;simp only at hc B;subst hc B;have:=xh;have N:k<xs.length:=(aJ.mp j).1;exact eU F.slot_list_index ⟨_,t,rfl⟩ F.entry_list_index (F.args_list_index_2 _ _) (SeqAt.list_indexAt p g.toArray n D L u (eqU y) k M () h1 h2) ⟨t,λw hw=>Ai P G r fs w<|by simpa using hw,.int k,H,I.tok _,⟨_,rfl⟩,q⟩
abbrev adW (K:au)(to:TE)(t:TA):TE:=λσ H Q=>to σ H λx H1=>∃(b:Bool) (p:ak) (xs:List V),x=.ref p/\(if b=true then nh K H1 p xs else oS K H1 p xs)/\t σ H1 λd H2=>WT K b x d H2 Q
def WX{e:aE}{to:TE}{t:TA}{apos cpos:Pos}(ho:PE X o to)(ha:PA X (e::es) t)
  (hbase:attributeBase o "index" X.env (eval o X.env)=eval o X.env<|>ε)
  (hfew:(((backTo cpos<|starEach (e::es) X.env).all (λx=>!x.1) && (backToKw cpos<|keywordEach [] X.env).all (λx=>x.1.isSome)
   && decide ((e::es).length+([]:List Keyword).length+(if ([]:List Keyword).isEmpty then 0 else 1)<30))=true)<|>ε)
  (hline:(apos.endLine == cpos.line)=true<|>ε) (hs:starEach (e::es) X.env=(false,eval e X.env)::starEach es X.env<|>ε) (hplain:((backTo cpos<|starEach es X.env).any (·.1)=false)<|>ε) :
  PE X (.Call (.Attribute o "index" apos) (e::es) [] cpos) (adW X.K to t):=by
 gn_on;refine wpAny_Call_method_late hbase hfew hline rfl<|nq (ho pins s σ H _ I h) λv D ⟨x,H1,I1,r1,b,p,xs,J,hq,G⟩=>?_;subst J
 cases r1
 cases b with
 | true=>
  obtain⟨ob,f,B,q⟩:=I1.Yl hq;refine⟨"tuple", "tuple.index",PySem.F.plainAttrs_tuple,PySem.F.slot_tuple_index,PySem.F.type_tuple_index,⟨ob,f,B⟩,λa e=>by cases e;exact⟨ob,f,q⟩,?_⟩;have d:=ha cpos pins D σ H1 _ I1 G;rw[hs]at d ⊢;refine eO (by show(false || (backTo cpos<|starEach es X.env).any (·.1))=false;rw[hplain]<;>rfl)<|iT ?_;exact nq d λus g ⟨j,H2,C,r2,k⟩=>VF pins g σ H2 (.ref p) j _ us Q C rfl r2 k
 | false=>
  obtain⟨L,r,⟨ob,n,f,B,q,N⟩,M⟩:=I1.list hq;refine⟨"list", "list.index",gS,PySem.F.slot_list_index,PySem.F.type_list_index,⟨ob,f,B⟩,λa e=>by cases e;exact⟨ob,f,q⟩,?_⟩;have d:=ha cpos pins D σ H1 _ I1 G;rw[hs]at d ⊢;refine eO (by show(false || (backTo cpos<|starEach es X.env).any (·.1))=false;rw[hplain]<;>rfl)<|iT ?_;exact nq d λus g ⟨j,H2,C,r2,k⟩=>Ub pins g σ H2 (.ref p) j _ us Q C rfl r2 k
end
end L2
namespace L2
open PySem PySem.Spec PyProof.Rows
def N3{X:Cx}{i:Nat}{spos:Pos}{iter:aE}{N:ar}{wi:TI}{g:TG}{tc:TT}{te:TE}
  (hN:X.N.Nodup) (hi':X.N[i]?=some y) (hx:Loc X.env.scope y) (hc:X.calm=true) (S:CpScope X scope N cap) (hi:PI X tg iter wi)
  (hg:∀C s₀ H₀ ex,PG (lR X scope N C s₀ H₀ ex) tg g) (ht:∀C s₀ H₀ ex,SJ (lR X scope N C s₀ H₀ ex) ifs tc) (he:∀C s₀ H₀ ex,PE (lR X scope N C s₀ H₀ ex) elt te)
  (hsw:swapsWith (.ListComp elt [⟨tg,iter,ifs,0⟩] scope pos) (some<|.Name y py) spos.line X.env=pure true)
  (hf:X.fn y=true\/X.env.scope.names.lookup y=some .local) (hs:(∀x,foldedSetIterable iter X.env x=pure x)<|>ζ) :
  PS X (.Assign [.Name y py] (.ListComp elt [⟨tg,iter,ifs,0⟩] scope pos) spos) (Uk (tLC cap wi g tc te)<|PX i):=by
 intro pins s σ H D I h;rw[exec_Assign_Name_used _ _ _ _ hsw];refine aG (fX<|aG ?_)
 skip
 refine aG<|fL (II (ok:=λY=>Y.calm=true) (Q':=λ_ s'=>SP X pins D .next s') S (λ_ _ _ _ _=>hc) (PI.g hi) hg ht he hs pins s σ H _ I h ?_) (λ_ s' hq=>aM<|aM hq) λ_ _ e=>e;intro B C L P m hn j inv q v;have O:=inv B.heap<|Heap.SameBut.refl _ _;obtain⟨F,f⟩:∃o,B.heap.get? C=some o/\∀v,o.data≠.cell v:=by
  obtain⟨o,es,ep,e,d,_⟩:=hn;exact⟨o,e,λv z=>by rw[d]at z;cases z⟩
 have T:=O.pinned (fp:=[C]) (λb hb=>by rw[aS]at hb;rw[hb];exact j) (λb hb=>by rw[aS]at hb;rw[hb];exact⟨F,f⟩)
 skip
 refine nq (JB hN hi' hx hf _ B σ P (.ref L) (.ref L) _ T rfl q) λ_ U h9=>?_;obtain⟨t,J,p,M⟩:=h9;have G:=p.pin (C,F)<|bM _<|bM _<|oM (aS.mpr rfl) f.1;refine⟨m,hn.at' λo e=>by rw[f.1]at e;cases e;exact G.1,λh' k=>?_⟩;have K:∀c v,J c=some v->c≠C:=λc v e z=>by rw[z,G.2.1]at e;cases e
 refine⟨t,J,?_,M⟩;refine p.tV.Nt (ch:=[C]) rfl ⟨λb o e n hb hx=>?_,λb o e n hb hx=>?_,λb o e n hx=>n,λb o e hx=>?_,λ_ _ e=>e,λ_ _ _ e=>e,λ_ _ e=>⟨#[],by rw[Array.append_empty];exact e⟩⟩ ?_ p.bare ?_
 ·exact k.extBut b o (by simpa using hx) e
 ·exact⟨o.slots,k.extBut b o (by simpa using hx) e⟩
 ·exact⟨o,k.extBut b o (by simpa using hx) e⟩
 ·intro b o e;refine(p.hok b o e).stay (λc v hc q=>k.extBut c v ?_ q) (λ_ q=>q) λ_ _ q=>q
  rcases hc with z|z
  ·rw[z];exact K b o e
  ·exact K c _ z
 ·intro b hb;rw[aS]at hb;rw[hb];exact⟨j.2.2.2.1,j.2.1,j.2.2.2.2.1,j.2.2.2.2.2⟩
end L2
namespace Sx
open PySem PyProof.Rows
structure Ord where
 lt:Nat->Nat->Bool
 MK:∀i,lt i i=false
 tr:∀i j k,lt i j=true->lt j k=true->lt i k=true
 neg:∀i j k,lt i k=true->lt i j=true\/lt j k=true
abbrev P (o:Ord)(i j:Nat):Prop:=o.lt i j=true\/(o.lt j i=false/\i<j)
def Ord.ado(o:Ord)(h:o.lt i j=true):o.lt j i=false:=by
 cases e:o.lt j i with
 | false=>rfl
 | true=>have:=o.tr _ _ _ h e;rw[o.MK]at this;cases this
def P.MK(h:P o i i):False:=by
 rcases h with h|⟨_,h⟩
 ·rw[o.MK]at h;cases h
 ·lia
def P.trans{k:Nat}(a:P o i j)(b:P o j k):P o i k:=by
 rcases a with a|⟨a,f⟩
 ·rcases b with b|⟨b,d⟩
  ·exact .inl (o.tr _ _ _ a b)
  ·rcases o.neg i k j a with z|z
   ·exact .inl z
   ·rw[b]at z;cases z
 ·rcases b with b|⟨b,d⟩
  ·rcases o.neg j i k b with z|z
   ·rw[a]at z;cases z
   ·exact .inl z
  ·refine .inr ⟨?_,()⟩
   cases e:o.lt k i with
   | false=>rfl
   | true=>
    rcases o.neg k j i e with z|z
    ·rw[b]at z;cases z
    ·rw[a]at z;cases z
def P.of_lt{o:Ord}(h:o.lt i j=true):P o i j:=.inl h
def P.JK{o:Ord}(h:o.lt j i=false)(hij:i<j):P o i j:=.inr ⟨h,hij⟩
def P.ge{o:Ord}(h:P o i j):o.lt j i=false:=by
 rcases h with h|⟨h,_⟩
 ·exact o.ado h
 ·exact h
abbrev So (o:Ord)(g:Nat->Nat)(a b:Nat):Prop:=∀i j,a<=i->i<j->j<b->P o (g i) (g j)
abbrev Cl (g:Nat->Nat)(a b:Nat):Prop:=∀i,a<=i->i<b->a<=g i/\g i<b
abbrev rev (g:Nat->Nat)(i j:Nat):Nat->Nat:=λk=>if i<=k/\k<j then g (i+j-1-k)else g k
abbrev mv (g:Nat->Nat)(src dst:Nat):Nat->Nat:=λk=>if k=dst then g src else if dst<k/\k<=src then g (k-1)else g k
def z7{g:Nat->Nat}{k:Nat}(h:i<=k)(h2:k<j):rev g i j k=g (i+j-1-k):=aW ⟨h,h2⟩
def qV{g:Nat->Nat}{k:Nat}(h:k<i\/j<=k):rev g i j k=g k:=aV ()
def O9{g:Nat->Nat}{d:Nat}:mv g s d d=g s:=aW rfl
def Gz{g:Nat->Nat}{d k:Nat}(h:d<k)(h2:k<=s):mv g s d k=g (k-1):=by
 unfold mv;rw[aV (),aW ⟨h,h2⟩]
def Di{g:Nat->Nat}{d k:Nat}(hd:d<=s)(h:k<d\/s<k):mv g s d k=g k:=by
 unfold mv;rw[aV (),aV ()]
section
variable {prog:aj}{w:ah}{A:aA}{E:af->aC->Prop}{s:aC}{o:Ord}{N:Nat}{f:Nat->Keyed}{kd:SortKind}{g:Nat->Nat}{p:Array (Nat×Nat×Nat)}{st:SortSt}
abbrev SE (prog:aj)(w:ah)(A:aA)(s:aC)(o:Ord)(N:Nat)(f:Nat->Keyed)(kd:SortKind):Prop:=
 ∀i j,i<N->j<N->∀(d:af->aC->Prop) (Q:Bool->aC->Prop),Q (o.lt i j) s->wpAny (model prog w) A (keyLt' kd (f i).1 (f j).1) Q d s
structure Sg (N:Nat)(f:Nat->Keyed)(kd:SortKind)(g:Nat->Nat)(p:Array (Nat×Nat×Nat))(st:SortSt):Prop where
 size:(arrOf st).size=N
 get:∀i,i<N->(arrOf st)[i]?=some (f<|g i)
 lt:∀i,i<N->g i<N
 kind:kindOf st=kd
 failed:failedOf st=none
 pend:pendingOf st=p
def XA(C:SE prog w A s o N f kd)(hk:kindOf st=kd)(hi:i<N)(hj:j<N){Q:bi->SortSt->Prop}(q:Q (some<|o.lt i j) st):wpS (model prog w) A E s (lt' (f i)<|f j) Q st:=by
 rw[lt'_eq];refine cD<|wpS_get ?_;rw[hk];refine cD<|wpS_lift<|iQ<|C i j hi hj _ _ ⟨rfl,?_⟩;exact dN q
def Gq{xs:Array Keyed}{i:Nat}{x:Keyed}(e:xs[i]?=some x){Q:Keyed->SortSt->Prop}(q:Q x st):wpS (model prog w) A E s (elem' xs i) Q st:=by
 rw[elem'_eq,e];exact dN q
def xM(C:SE prog w A s o N f kd)(h:Sg N f kd g p st)(hi:i<N)(hj:j<N){Q:bi->SortSt->Prop}(q:Q (some<|o.lt (g i)<|g j) st):wpS (model prog w) A E s (ltAt' i j) Q st:=by
 rw[ltAt'_eq];refine cD (wpS_get ?_)
 skip
 exact cD<|Gq (h.get i hi)<|cD<|Gq (h.get j hj)<|XA C h.kind (h.lt i hi) (h.lt j hj) q
def Sg.arr(h:Sg N f kd g p st){xs:Array Keyed}{g':Nat->Nat}(hs:xs.size=N)(hg:∀i,i<N->xs[i]?=some (f<|g' i))(hl:∀i,i<N->g' i<N):Sg N f kd g' p (setArr st xs):=⟨hs,hg,hl,h.kind,h.failed,h.pend⟩
def zD(h:Sg N f kd g p st)(hj:j<=N){Q:Unit->SortSt->Prop}(q:∀st',Sg N f kd (rev g i j) p st'->Q Unit.unit st'):wpS (model prog w) A E s (reverseSlice' i j) Q st:=by
 rw[reverseSlice'_eq];refine wpS_modify (q _<|h.arr (by rw[mirror_size];exact h.size) (λk d=>?_) λk d=>?_)
 ·rw[getElem?_mirror_all<|by rw[h.size];exact hj];unfold rev;by_cases c:i<=k/\k<j
  ·rw[aW c,aW c];exact h.get _ (by omega)
  ·rw[aV c,aV c];exact h.get _ d
 ·unfold rev;by_cases c:i<=k/\k<j
  ·rw[aW c];exact h.lt _ (by omega)
  ·rw[aV c];exact h.lt _ d
def Zl(h:Sg N f kd g p st){a:Nat}(ha:a<N)(hb:b<=a){Q:Unit->SortSt->Prop}(q:∀st',Sg N f kd (mv g a b) p st'->Q Unit.unit st'):wpS (model prog w) A E s (moveDown' a b) Q st:=by
 rw[moveDown'_eq];refine wpS_modify (q _<|h.arr (by rw[bubble_size];exact h.size) (λk d=>?_) λk d=>?_)
 ·rw[getElem?_bubble (by rw[h.size];exact ha) _ (),show a-(a-b)=b by lia];unfold mv;by_cases c:k=b
  ·rw[aW c,aW c];exact h.get _ ha
  ·rw[aV c,aV c];by_cases c2:b<k/\k<=a
   ·rw[aW c2,aW c2];exact h.get _ ()
   ·rw[aV c2,aV c2];exact h.get _ d
 ·unfold mv;by_cases c:k=b
  ·rw[aW c];exact h.lt _ ha
  ·rw[aV c];by_cases c2:b<k/\k<=a
   ·rw[aW c2];exact h.lt _ ()
   ·rw[aV c2];exact h.lt _ d
structure Rn (o:Ord)(g0 g:Nat->Nat)(a b:Nat):Prop where
 out:∀i,i<a\/b<=i->g i=g0 i
 cl:Cl g a b
 so:So o g a b
def YB{g0:Nat->Nat}{lo k l:Nat}(R:Rn o g0 g lo<|lo+k)(hk:g (lo+k)=lo+k)(hl:l<=k)(h1:∀i,i<l->P o (g<|lo+i) (lo+k))(h2:∀i,l<=i->i<k->P o (lo+k) (g<|lo+i)):Rn o g0 (mv g (lo+k)<|lo+l) lo (lo+(k+1)) where
 out i hi:=by rw[Di () ()];exact R.out i ()
 cl i a b:=by
  by_cases c:i=lo+l
  ·subst c;rw[O9,hk];lia
  ·by_cases c2:lo+l<i
   ·rw[Gz c2 ()];have:=R.cl (i-1) () ()
    lia
   ·rw[Di () ()];have:=R.cl i () ()
    lia
 so i j a b d:=by
  by_cases c:i=lo+l
  ·subst c;rw[O9,Gz b (),hk];have:=h2 (j-1-lo) () ()
   rwa [show lo+(j-1-lo)=j-1 by lia]at this
  ·by_cases c2:lo+l<i
   ·rw[Gz c2 (),Gz () ()];exact R.so _ _ () () ()
   ·rw[Di (k:=i) () ()];by_cases c3:j=lo+l
    ·subst c3;rw[O9,hk];have:=h1 (i-lo) ()
     rwa [show lo+(i-lo)=i by lia]at this
    ·by_cases f:lo+l<j
     ·rw[Gz f ()];exact R.so _ _ () () ()
     ·rw[Di () ()];exact R.so _ _ () () ()
def Zj(C:SE prog w A s o N f kd){g0:Nat->Nat}{lo n ok:Nat}(h:Sg N f kd g p st)(hn:lo+n<=N)(h1:1<=ok)(hok:ok<=n)(R:Rn o g0 g lo<|lo+ok)(hid:∀i,lo+ok<=i->i<lo+n->g0 i=i)
  {Q:Bool->SortSt->Prop} (q:∀g' st',Sg N f kd g' p st'->Rn o g0 g' lo (lo+n)->Q true st'):wpS (model prog w) A E s (binarySort' lo n ok) Q st:=by
 rw[binarySort'_eq,show max ok 1=ok by lia];refine cD (wpS_mono (iu (I:=λk c st'=>c=(none,Unit.unit)/\∃g',Sg N f kd g' p st'/\Rn o g0 g' lo (lo+min k n))
  (Q:=λc st'=>c=(none,Unit.unit)/\∃g',Sg N f kd g' p st'/\Rn o g0 g' lo (lo+n)) ?step ?fin ?init) ?post)
 case post=>
  rintro c st' ⟨rfl,g',h',j⟩;exact dN<|q g' st' h' j
 case init=>exact⟨rfl,g,h,by rw[show min ok n=ok by lia];exact R⟩
 case fin=>
  rintro c st' ⟨hc,g',h',j⟩;exact⟨hc,g',h',by rwa [show min (max ok n) n=n by lia]at j⟩
 case step=>
  rintro k c st' T O ⟨rfl,g',h',j⟩;rw[show min k n=k by lia]at j;have K:g' (lo+k)=lo+k:=by rw[j.out _ ()];exact hid _ () ()
  refine cD (wpS_mono (iu (I:=λx c D=>D=st'/\∃u v,c=(none,u,v)/\u<=v/\v<=k/\v-u<=k-x /\
    (∀i,i<u->P o (g'<|lo+i) (lo+k))/\(∀i,v<=i->i<k->P o (lo+k) (g'<|lo+i)))
   (Q:=λc D=>D=st'/\∃u v,c=(none,u,v)/\u<=k /\
    (∀i,i<u->P o (g'<|lo+i) (lo+k))/\(∀i,u<=i->i<k->P o (lo+k) (g'<|lo+i))) ?istep ?ifin ?iinit) ?ipost)
  case iinit=>exact⟨rfl,0,k,rfl,(),(),(),λi Y=>(),λi h1 h2=>()⟩
  case ifin=>
   rintro c D ⟨rfl,u,v,rfl,G,B,V,low,top⟩;have:u=v:=()
   subst this;exact⟨rfl,u,u,rfl,B,low,top⟩
  case istep=>
   rintro x c D _ U ⟨rfl,u,v,rfl,G,B,V,low,top⟩;dsimp only;by_cases F:u>=v
   ·rw[aW F];have:u=v:=()
    subst this;exact dN ⟨rfl,u,u,rfl,B,low,top⟩
   ·rw[aV F];have W:(u+v) / 2<k:=()
    have M:=j.cl (lo+(u+v) / 2) () ();refine cD<|xM C h' () () ?_;rw[K]
    cases d:o.lt (lo+k) (g'<|lo+(u+v) / 2)
    case true=>
     dsimp[fq];refine dN ⟨rfl,u,(u+v) / 2,rfl,(),(),(),low,λi h1 h2=>?_⟩;by_cases c:i=(u+v) / 2
     ·subst c;exact .inl d
     ·exact(P.of_lt d).trans (j.so _ _ () () ())
    case false=>
     dsimp[bI,cH];refine dN ⟨rfl,(u+v) / 2+1,v,rfl,(),(),(),λi h1=>?_,top⟩;have t:=P.JK d M.2;by_cases c:i=(u+v) / 2
     ·subst c;exact t
     ·exact(j.so _ _ () () ()).trans t
  case ipost=>
   rintro c D ⟨rfl,u,v,rfl,J,low,top⟩;dsimp only;refine cD<|Zl h' () () λL h3=>?_;refine dN ⟨rfl,_,h3,?_⟩;rw[show min (k+1) n=k+1 by lia];exact YB j K J low top
end
meta abbrev As:=Option (bj)×Nat
meta abbrev Ds:=Option (bj)×Nat×Nat
abbrev P0 (lo a nrem:Nat):StateT SortSt Sem As:=
 forIn [a:nrem] ((none,a):As) λ_ c=>do
  let x <- ltAt' (lo+c.2) (lo+c.2-1)
  match x with
  | some b=>if b=true then pure (ForInStep.done (none,c.2))else pure (ForInStep.yield (none,c.2+1))
  | _=>pure<|ForInStep.done (some none,c.2)
abbrev F3 (lo n nrem:Nat):StateT SortSt Sem (bj):=do
 reverseSlice' lo (lo+n)
 let c <- P0 lo n nrem
 match c.1 with
 | some r=>pure r
 | none=>pure<|some c.2
abbrev U3 (lo n nrem:Nat):StateT SortSt Sem Ds:=
 forIn [n:nrem] ((none,n,0):Ds) λ_ c=>do
  let x <- ltAt' (lo+c.2.1) (lo+c.2.1-1)
  match x with
  | some b=>
   if b=true then
    if c.2.2>0 then do
     reverseSlice' (lo+c.2.1-(c.2.2+1)) (lo+c.2.1)
     pure (ForInStep.yield (none,c.2.1+1,0))
    else pure (ForInStep.yield (none,c.2.1+1,0))
   else do
    let x <- ltAt' (lo+c.2.1-1) (lo+c.2.1)
    match x with
    | some b=>
     if b=true then pure (ForInStep.done (none,c.2.1,c.2.2))
     else pure (ForInStep.yield (none,c.2.1+1,c.2.2+1))
    | _=>pure<|ForInStep.done (some none,c.2.1,c.2.2)
  | _=>pure<|ForInStep.done (some none,c.2.1,c.2.2)
abbrev OG (lo n nrem:Nat):StateT SortSt Sem (bj):=do
 liftM (rule "list.sort.descending-run")
 let c <- U3 lo (n+1) nrem
 match c.1 with
 | some r=>pure r
 | none=>
  if c.2.2>0 then do
   reverseSlice' (lo+c.2.1-(c.2.2+1)) (lo+c.2.1)
   F3 lo c.2.1 nrem
  else F3 lo c.2.1 nrem
def count_eq(lo nrem:Nat):countRun' lo nrem=(do
  let c <- P0 lo 1 nrem
  match c.1 with
  | some r=>pure r
  | none=>
   if (c.2 == nrem)=true then pure (some c.2)
   else if c.2>1 then do
    let x <- ltAt' lo (lo+c.2-1)
    match x with
    | some b=>if b=true then pure (some c.2)else do
      reverseSlice' lo (lo+c.2)
      OG lo c.2 nrem
    | _=>pure none
   else OG lo c.2 nrem):=by
 rw[countRun'_eq];dsimp only;unfold OG F3 U3 P0;congr 1
 funext c
 obtain⟨r,n⟩:=c
 cases r with
 | some r=>rfl
 | none=>
  dsimp only;split
  ·rfl
  ·split
   ·congr 1
    funext x
    cases x with
    | none=>rfl
    | some b=>
     dsimp only;split
     ·rfl
     ·congr 1
      funext _r
      congr 1
      funext _u
      congr 1;congr 1
      funext s2
      obtain⟨r2,g,j⟩:=s2
      cases r2 with
      | some r2=>rfl
      | none=>
       dsimp only;split
       ·congr 1
        funext _v
        congr 1
        funext _w
        congr 1
        funext s3
        obtain⟨d,f⟩:=s3
        cases d<;>rfl
       ·congr 1
        funext _w
        congr 1
        funext s3
        obtain⟨d,f⟩:=s3
        cases d<;>rfl
   ·congr 1
    funext _u
    congr 1;congr 1
    funext s2
    obtain⟨r2,g,j⟩:=s2
    cases r2 with
    | some r2=>rfl
    | none=>
     dsimp only;split
     ·congr 1
      funext _v
      congr 1
      funext _w
      congr 1
      funext s3
      obtain⟨d,f⟩:=s3
      cases d<;>rfl
     ·congr 1
      funext _w
      congr 1
      funext s3
      obtain⟨d,f⟩:=s3
      cases d<;>rfl
section
variable {prog:aj}{w:ah}{A:aA}{E:af->aC->Prop}{s:aC}{o:Ord}{N:Nat}{f:Nat->Keyed}{kd:SortKind}{g g0:Nat->Nat}{p:Array (Nat×Nat×Nat)}{st:SortSt}
def Rn.snoc{a:Nat}(R:Rn o g0 g a b)(hab:a<b)(hb:g b=b)(h:o.lt b (g<|b-1)=false):Rn o g0 g a (b+1) where
 out i hi:=R.out i ()
 cl i h1 h2:=by
  by_cases c:i=b
  ·subst c;lia
  ·have:=R.cl i h1 ();lia
 so i j h1 h2 h3:=by
  by_cases c:j=b
  ·subst c;rw[hb];have l:=R.cl (j-1) () ();have d:P o (g<|j-1) j:=P.JK h l.2;by_cases c2:i=j-1
   ·subst c2;exact d
   ·exact(R.so i (j-1) h1 () ()).trans d
  ·exact R.so i j h1 h2 ()
def Nz(C:SE prog w A s o N f kd){lo a:Nat}(h:Sg N f kd g p st)(hn:lo+nrem<=N)(h1:1<=a)(han:a<=nrem)(R:Rn o g0 g lo<|lo+a)(hid:∀i,lo+a<=i->i<lo+nrem->g0 i=i)
  {Q:As->SortSt->Prop} (q:∀n,a<=n->n<=nrem->Rn o g0 g lo (lo+n)->(n=nrem\/o.lt (lo+n) (g<|lo+n-1)=true)->Q (none,n) st):wpS (model prog w) A E s (P0 lo a nrem) Q st:=by
 unfold P0;refine iu (I:=λx c d=>d=st/\c=(none,x)/\Rn o g0 g lo (lo+x)) ?step ?fin ⟨rfl,rfl,R⟩
 case fin=>
  rintro c d ⟨rfl,rfl,j⟩;rw[show max a nrem=nrem by lia]at j ⊢;exact q nrem han (aN _) j<|.inl rfl
 case step=>
  rintro x c d k D ⟨rfl,rfl,j⟩;dsimp only;have t:g (lo+x)=lo+x:=by rw[j.out _ ()];exact hid _ () ()
  refine cD<|xM C h () () ?_;rw[t]
  cases B:o.lt (lo+x) (g<|lo+x-1)
  case true=>
   dsimp[fq];exact dN<|q x k () j<|.inr B
  case false=>
   dsimp[bI,cH];exact dN ⟨rfl,rfl,j.snoc () t B⟩
structure Dc (o:Ord)(g0 g:Nat->Nat)(a b q:Nat):Prop where
 out:∀i,i<a\/b<=i->g i=g0 i
 cl:Cl g a b
 few:a+(q+1)<=b
 dn:∀i j,a<=i->i<j->j<b->i<b-(q+1)->P o (g j) (g i)
 id:∀i,b-(q+1)<=i->i<b->g i=i
 al:∀i j,b-(q+1)<=i->i<b->b-(q+1)<=j->j<b->o.lt i j=false
def Dc.turn{a q:Nat}(D:Dc o g0 g a b q):(∀i,i<a\/b<=i->rev g (b-(q+1)) b i=g0 i)/\Cl (rev g (b-(q+1)) b) a b/\(∀i j,a<=i->i<j->j<b->P o (rev g (b-(q+1)) b j) (rev g (b-(q+1)) b i))/\(∀i,b-(q+1)<=i->i<b->∃k,rev g (b-(q+1)) b i=k/\b-(q+1)<=k/\k<b):=by
 have few:=D.few;have d:∀i,b-(q+1)<=i->i<b->rev g (b-(q+1)) b i=b-(q+1)+b-1-i:=λi h1 h2=>by
  rw[z7 h1 h2];exact D.id _ (by omega)<|by omega
 refine⟨λi f=>?_,λi h1 h2=>?_,λi j h1 h2 h3=>?_,λi h1 h2=>⟨_,d i h1 h2,by omega,by omega⟩⟩
 ·rw[qV<|by omega];exact D.out i f
 ·by_cases c:i<b-(q+1)
  ·rw[qV<|by omega];exact D.cl i h1 h2
  ·rw[d i (by omega) h2];omega
 ·by_cases c:i<b-(q+1)
  ·rw[qV (k:=i)<|by omega];by_cases c2:j<b-(q+1)
   ·rw[qV<|by omega];exact D.dn i j h1 h2 h3 c
   ·rw[d j (by omega) h3];have:=D.dn i (b-(q+1)+b-1-j) h1 (by omega) (by omega) c
    rwa [D.id _ (by omega)<|by omega]at this
  ·rw[d i (by omega)<|by omega,d j (by omega) h3];exact P.JK (D.al _ _ (by omega) (by omega) (by omega)<|by omega)<|by omega
abbrev Fin (o:Ord)(g0 g:Nat->Nat)(a b:Nat):Prop:=(∀i,i<a\/b<=i->g i=g0 i)/\Cl g a b/\(∀i j,a<=i->i<j->j<b->P o (g j) (g i))
def Dc.aba{a:Nat}(D:Dc o g0 g a b 0):Fin o g0 g a b:=⟨D.out,D.cl,λi j h1 h2 h3=>D.dn i j h1 h2 h3 ()⟩
def Fin.rn{a:Nat}(D:Fin o g0 g a b):Rn o g0 (rev g a b) a b where
 out i hi:=by rw[qV hi];exact D.1 i hi
 cl i h1 h2:=by
  rw[z7 h1 h2];exact D.2.1 _ () ()
 so i j h1 h2 h3:=by
  rw[z7 h1 (),z7 () h3];exact D.2.2 _ _ () () ()
def Fin.add{a:Nat}(D:Fin o g0 g a b)(hb:g b=b)(hab:a<b)(h:∀i,a<=i->i<b->P o b (g i)):Dc o g0 g a (b+1) 0 where
 out i hi:=D.1 i ()
 cl i h1 h2:=by
  by_cases c:i=b
  ·subst c;lia
  ·have:=D.2.1 i h1 ();lia
 few:=()
 dn i j h1 h2 h3 _:=by
  by_cases c:j=b
  ·subst c;rw[hb];exact h i h1 h2
  ·exact D.2.2 i j h1 h2 ()
 id i h1 h2:=by
  have:i=b:=()
  rw[this,hb]
 al i j h1 h2 h3 h4:=by
  have:i=j:=()
  rw[this];exact o.MK _
def Jc(C:SE prog w A s o N f kd){lo n:Nat}(h:Sg N f kd g p st)(hn:lo+nrem<=N)(h1:1<=n)(han:n<=nrem)(D:Fin o g0 g lo<|lo+n)(hid:∀i,lo<=i->i<lo+nrem->g0 i=i)
  {Q:bj->SortSt->Prop} (q:∀m g' st',Sg N f kd g' p st'->1<=m->m<=nrem->Rn o g0 g' lo (lo+m)->Q (some m) st'):wpS (model prog w) A E s (F3 lo n nrem) Q st:=by
 unfold F3;refine cD<|zD h () λj h2=>?_;exact cD<|Nz C h2 hn h1 han D.rn (λi a b=>hid i () b) λm k d R _=>dN<|q m _ _ h2 () d R
def Yj(C:SE prog w A s o N f kd){lo n:Nat}(h:Sg N f kd g p st)(hn:lo+nrem<=N)(h1:1<=n)(han:n<=nrem)(D:Dc o g0 g lo (lo+n) 0)(hid:∀i,lo<=i->i<lo+nrem->g0 i=i)
  {Q:Ds->SortSt->Prop} (q:∀m e g' st',Sg N f kd g' p st'->1<=m->m<=nrem->Dc o g0 g' lo (lo+m) e->Q (none,m,e) st'):wpS (model prog w) A E s (U3 lo n nrem) Q st:=by
 unfold U3;refine iu (I:=λx c st'=>∃e g',c=(none,x,e)/\Sg N f kd g' p st'/\Dc o g0 g' lo (lo+x) e) ?step ?fin ⟨0,g,rfl,h,D⟩
 case fin=>
  rintro c st' ⟨e,g',rfl,h',t⟩;rw[show max n nrem=nrem by lia]at t ⊢;exact q nrem e g' st' h' () (aN _) t
 case step=>
  rintro x c st' L O ⟨e,g',rfl,h',t⟩;dsimp only;have few:=t.few;have F:g' (lo+x)=lo+x:=by rw[t.out _ ()];exact hid _ () ()
  have B:g' (lo+x-1)=lo+x-1:=t.id _ () ();refine cD<|xM C h' () () ?_;rw[F,B]
  cases G:o.lt (lo+x) (lo+x-1)
  case true=>
   dsimp[fq];by_cases K:e>0
   ·rw[aW K];obtain⟨U,T,M,t4⟩:=t.turn;refine cD<|zD h' () λW h2=>dN ⟨0,_,rfl,h2,?_⟩;refine Fin.add (b:=lo+x) ⟨U,T,M⟩ (by rw[qV ()];exact F) () λi a b=>?_;by_cases c:lo+x-(e+1)<=i
    ·obtain⟨k,ek,V,Y⟩:=t4 i c b;rw[ek]
     rcases o.neg _ k _ G with z|z
     ·exact .inl z
     ·rw[t.al _ _ V Y () ()]at z;cases z
    ·rw[qV ()];have:=t.dn i (lo+x-1) a () () ();rw[B]at this;exact(P.of_lt G).trans this
   ·rw[aV K];have:e=0:=()
    subst this;refine dN ⟨0,_,rfl,h',Fin.add (b:=lo+x) t.aba F () λi a b=>?_⟩;by_cases c:i=lo+x-1
    ·subst c;rw[B];exact .inl G
    ·have:=t.dn i (lo+x-1) a () () ();rw[B]at this;exact(P.of_lt G).trans this
  case false=>
   dsimp[bI,cH];refine cD<|xM C h' () () ?_;rw[F,B]
   cases hg:o.lt (lo+x-1) (lo+x)
   case true=>
    dsimp[fq];exact dN<|q x e g' st' h' () () t
   case false=>
    dsimp[bI,cH];refine dN ⟨e+1,g',rfl,h',?_⟩;have J:∀i,lo+x-(e+1)<=i->i<lo+x->o.lt i (lo+x)=false/\o.lt (lo+x) i=false:=λi a b=>by
     constructor
     ·cases z:o.lt i (lo+x)with
      | false=>rfl
      | true=>
       rcases o.neg _ (lo+x-1) _ z with y|y
       ·rw[t.al _ _ a b () ()]at y;cases y
       ·rw[hg]at y;cases y
     ·cases z:o.lt (lo+x) i with
      | false=>rfl
      | true=>
       rcases o.neg _ (lo+x-1) _ z with y|y
       ·rw[G]at y;cases y
       ·rw[t.al _ _ () () a b]at y;cases y
    exact {
     out:=λi Z=>t.out i ()
     cl:=λi a b=>by
      by_cases c:i=lo+x
      ·subst c;lia
      ·have:=t.cl i a ();lia
     few:=()
     dn:=λi j a b c d=>by
      by_cases z:j=lo+x
      ·subst z;rw[F];have y:=t.dn i (lo+x-1) a () () ();rw[B]at y;have gi:=t.cl i a ()
       rcases y with y|⟨_,y⟩
       ·rcases o.neg _ (lo+x) _ y with v|v
        ·rw[hg]at v;cases v
        ·exact .inl v
       ·lia
      ·exact t.dn i j a b () ()
     id:=λi a b=>by
      by_cases z:i=lo+x
      ·subst z;exact F
      ·exact t.id i () ()
     al:=λi j a b c d=>by
      by_cases z:i=lo+x
      ·subst z;by_cases y:j=lo+x
       ·subst y;exact o.MK _
       ·exact(J j () ()).2
      ·by_cases y:j=lo+x
       ·subst y;exact(J i () ()).1
       ·exact t.al i j () () () ()}
def IL(C:SE prog w A s o N f kd){lo n:Nat}(h:Sg N f kd g p st)(hn:lo+nrem<=N)(han:n+1<=nrem)(D:Dc o g0 g lo (lo+(n+1)) 0)(hid:∀i,lo<=i->i<lo+nrem->g0 i=i)
  {Q:bj->SortSt->Prop} (q:∀m g' st',Sg N f kd g' p st'->1<=m->m<=nrem->Rn o g0 g' lo (lo+m)->Q (some m) st'):wpS (model prog w) A E s (OG lo n nrem) Q st:=by
 unfold OG;refine cD<|wpS_lift<|gc ⟨rfl,?_⟩;refine cD<|Yj C h hn () han D hid λm e g' st' h' k d j=>?_;dsimp only;by_cases t:e>0
 ·rw[aW t];obtain⟨F,G,J,_⟩:=j.turn;exact cD (zD h' () λB h2=>Jc C h2 hn k d ⟨F,G,J⟩ hid q)
 ·rw[aV t];have:e=0:=()
  subst this;exact Jc C h' hn k d j.aba hid q
def QJ(C:SE prog w A s o N f kd){lo:Nat}(h:Sg N f kd g p st)(hn:lo+nrem<=N)(h1:1<=nrem)(hid:∀i,lo<=i->i<lo+nrem->g i=i)
  {Q:bj->SortSt->Prop} (q:∀m g' st',Sg N f kd g' p st'->1<=m->m<=nrem->Rn o g g' lo (lo+m)->Q (some m) st'):wpS (model prog w) A E s (countRun' lo nrem) Q st:=by
 rw[count_eq];refine cD (Nz C h hn (aN 1) h1 (g0:=g) ⟨λ_ _=>rfl,λi a b=>?_,λi j a b c=>()⟩ (λi a b=>hid i () b) λn M K R F=>?_)
 ·have:i=lo:=()
  subst this;rw[hid i (aN _) ()];lia
 dsimp only;by_cases B:n=nrem
 ·rw[aW<|by simpa using B];exact dN (q n g st h M K R)
 ·rw[aV<|by simpa using B];have k:=F.resolve_left B;rw[hid (lo+n-1) () ()]at k;have J:g (lo+n)=lo+n:=hid _ () ();by_cases D:n>1
  ·rw[aW D];refine cD<|xM C h () () ?_;rw[hid lo () (),hid (lo+n-1) () ()]
   cases T:o.lt lo (lo+n-1)
   case true=>
    dsimp[fq];exact dN<|q n g st h M K R
   case false=>
    dsimp[bI,cH];have d:∀i,lo<=i->i<lo+n->g i=i:=λi a b=>hid i a ();have L:∀i j,lo<=i->i<j->j<lo+n->o.lt i j=false/\o.lt j i=false:=λi j a b c=>by
     have r:=R.so i j a b c;rw[d i a (),d j () c]at r;refine⟨?_,r.ge⟩
     cases z:o.lt i j with
     | false=>rfl
     | true=>
      rcases o.neg _ lo _ z with y|y
      ·by_cases x:i=lo
       ·subst x;rw[o.MK]at y;cases y
       ·have r2:=R.so lo i () () ();rw[d i a (),d lo () ()]at r2;rw[r2.ge]at y;cases y
      ·rcases o.neg _ (lo+n-1) _ y with x|x
       ·rw[T]at x;cases x
       ·by_cases v:j=lo+n-1
        ·subst v;rw[o.MK]at x;cases x
        ·have r2:=R.so j (lo+n-1) () () ();rw[d j () c,d (lo+n-1) () ()]at r2;rw[r2.ge]at x;cases x
    refine cD<|zD h () λO h2=>IL C h2 hn () ?_ hid q;have t:∀i,lo<=i->i<lo+n->rev g lo (lo+n) i=lo+(lo+n)-1-i:=λi a b=>by rw[z7 a b];exact d _ () ()
    refine Fin.add (b:=lo+n) ⟨λi G=>qV G,λi a b=>by rw[t i a b];lia,λi j a b c=>?_⟩ (by rw[qV ()];exact J) () λi a b=>?_
    ·rw[t i a (),t j () c];exact P.JK (L _ _ () () ()).2 ()
    ·rw[t i a b];by_cases x:lo+(lo+n)-1-i=lo+n-1
     ·rw[x];exact .inl k
     ·rcases o.neg _ (lo+(lo+n)-1-i) _ k with z|z
      ·exact .inl z
      ·rw[(L _ _ () () ()).1]at z;cases z
  ·rw[aV D];have:n=1:=()
   subst this;refine IL C h hn () ?_ hid q;refine Fin.add (b:=lo+1) ⟨λi G=>rfl,R.cl,λi j a b c=>()⟩ J () λi a b=>?_;have:i=lo:=()
   subst this;rw[hid i () ()];rw[show i+1-1=i by lia]at k;exact .inl k
end
abbrev Uy (N:Nat):Prop:=∀{prog:aj}{w:ah}{A:aA}{E:af->aC->Prop}{s:aC}{o:Ord}{f:Nat->Keyed}{kd:SortKind}{st:SortSt}{Q:Unit->SortSt->Prop},SE prog w A s o N f kd->Sg N f kd (λi=>i) #[] st->(∀g j d,Sg N f kd g j d->Cl g 0 N->So o g 0 N->Q Unit.unit d)->wpS (model prog w) A E s sortRuns' Q st
abbrev RO (N:Nat):Prop:=2<=N->Uy N
def Sg.pen{N:Nat}{f:Nat->Keyed}{kd:SortKind}{g:Nat->Nat}{p:Array<|Nat×Nat×Nat}{st:SortSt}(h:Sg N f kd g p st)(p':Array<|Nat×Nat×Nat):Sg N f kd g p' (setPending st p'):=⟨h.size,h.get,h.lt,h.kind,h.failed,rfl⟩
def Um{N:Nat}(h64:N<64):RO N:=by
 intro h2 prog w A E s o f kd st Q C h q;rw[sortRuns'_eq];refine cD<|wpS_get ?_;dsimp only;have G:minRun' N N 0=N:=by
  obtain⟨k,K⟩:∃k,N=k+1:=⟨N-1,()⟩;have:minRun' (k+1) N 0=N:=by rw[minRun'_succ,aW h64];rfl
  rwa [<- K]at this
 rw[h.size,G];refine cD (wpS_mono (iu
  (I:=λx c j=>(x=0/\c=(none,0)/\Sg N f kd (λi=>i) #[] j)\/(1<=x/\c=(none,N)/\∃g p,Sg N f kd g p j/\Cl g 0 N/\So o g 0 N/\p.size=1))
  (Q:=λc j=>c=(none,N)/\∃g p,Sg N f kd g p j/\Cl g 0 N/\So o g 0 N/\p.size=1) ?step ?fin (.inl ⟨rfl,rfl,h⟩)) ?post)
 case fin=>
  rintro c j (⟨J,_,_⟩|⟨_,hc,D⟩)
  ·lia
  ·exact⟨hc,D⟩
 case step=>
  rintro x c j _ J (⟨rfl,rfl,V⟩|⟨M,rfl,D⟩)
  ·dsimp only;rw[aV ()];refine cD<|QJ C V () () (λi a b=>rfl) λm U W t O Z R1=>?_;dsimp only;by_cases c2:m<N
   ·rw[aW c2];refine cD<|wpS_lift<|gc ⟨rfl,?_⟩;rw[show min (N-0) N=N by lia];refine cD<|Zj C t () O () R1 (λi a b=>rfl) λT P B R2=>?_;rw[aV ⋯];refine cD<|wpS_get ?_;rw[B.pend];show wpS _ _ _ _ _ _ _;refine cD (wpS_modify<|dN<|.inr ⟨(),by rw[cz],T,_,B.pen _,by have:=R2.cl;rwa [cz]at this,by have:=R2.so;rwa [cz]at this,?_⟩);rw[B.pend];rfl
   ·rw[aV c2];have L:m=N:=()
    subst L;refine cD<|wpS_get ?_;rw[t.pend];refine cD (wpS_modify<|dN<|.inr ⟨(),by rw[cz],U,_,t.pen _,by have:=R1.cl;rwa [cz]at this,by have:=R1.so;rwa [cz]at this,?_⟩);rw[t.pend];rfl
  ·dsimp only;rw[aW<|aN _];exact dN ⟨rfl,D⟩
 case post=>
  rintro c j ⟨rfl,g,p,h1,F,h3,Y⟩;dsimp only;refine cD (wpS_mono (iu (I:=λx c d=>c=(none,Unit.unit)/\Sg N f kd g p d) (Q:=λc d=>c=(none,Unit.unit)/\Sg N f kd g p d) ?fstep (λ_ _ z=>z) ⟨rfl,h1⟩) ?fpost)
  case fstep=>
   rintro x c d _ J ⟨rfl,h1⟩;refine cD<|wpS_get ?_;rw[h1.pend,aW ()];exact dN ⟨rfl,h1⟩
  case fpost=>
   rintro c d ⟨rfl,h1⟩;dsimp only;exact dN<|q g p d h1 F h3
abbrev Kr:Bool->Keyed->Array Keyed->Nat->Nat->Nat->StateT SortSt Sem (bj):=sortPriv% PySem.Builtin.gallop
abbrev ab9:Nat->StateT SortSt Sem Unit:=sortPriv% PySem.Builtin.setMinGallop
section
variable {o:Ord}{N:Nat}{f:Nat->Keyed}{A B hs:am}{ia ib:Nat}
abbrev fa (f:Nat->Keyed)(l:am):Array Keyed:=(l.map f).toArray
structure Ab (o:Ord)(N:Nat)(A B:am):Prop where
 sa:A.Pairwise (P o)
 sb:B.Pairwise (P o)
 lt:∀x∈A,∀y∈B,x<y
 nb:∀y∈B,y<N
 na:∀x∈A,x<N
structure Mg (o:Ord)(A B hs:am)(ia ib:Nat):Prop where
 la:ia<=A.length
 lb:ib<=B.length
 len:hs.length=ia+ib
 so:hs.Pairwise (P o)
 mem:∀x∈hs,x∈A\/x∈B
 ua:∀x∈hs,∀y∈A.drop ia,P o x y
 ub:∀x∈hs,∀y∈B.drop ib,P o x y
abbrev Res (o:Ord)(f:Nat->Keyed)(A B:am)(out:Array Keyed):Prop:=∃hs:am,out=fa f hs/\hs.length=A.length+B.length/\hs.Pairwise (P o)/\∀x∈hs,x∈A\/x∈B
end
structure Sm (st st':SortSt):Prop where
 a:arrOf st'=arrOf st
 k:kindOf st'=kindOf st
 p:pendingOf st'=pendingOf st
 f:failedOf st'=failedOf st
meta abbrev G:=Option (Array Keyed)×Array Keyed×Nat×Nat×Nat×Nat×Nat
abbrev T3 (a b out:Array Keyed)(ia ib mg ac bc:Nat):StateT SortSt Sem (ForInStep G):=do
 let x <- elem' a ia
 if (ia+1+1 == a.size)=true then pure (ForInStep.done (some<|out.push x++b.extract ib b.size++a.extract (ia+1) a.size,out.push x,ia+1,ib,mg,ac,bc))
 else if (decide (ac<7) && decide (bc<7))=true then pure (ForInStep.done (none,out.push x,ia+1,ib,mg,ac,bc))
 else pure (ForInStep.yield (none,out.push x,ia+1,ib,mg,ac,bc))
abbrev T2 (a b out:Array Keyed)(ia ib mg ac bc:Nat):StateT SortSt Sem (ForInStep G):=do
 let x <- elem' b ib
 if (ib+1 == b.size)=true then pure (ForInStep.done (some<|out.push x++a.extract ia a.size++b.extract (ib+1) b.size,out.push x,ia,ib+1,mg,ac,bc))
 else
  let y <- elem' a ia
  let r <- Kr true y b (ib+1) (b.size-(ib+1)) 0
  match r with
  | some k=>
   if k>0 then
    if (ib+1+k == b.size)=true then pure (ForInStep.done (some<|out.push x++b.extract (ib+1) (ib+1+k)++a.extract ia a.size++b.extract (ib+1+k) b.size,out.push x++b.extract (ib+1) (ib+1+k),ia,ib+1+k,mg,ac,k))
    else T3 a b (out.push x++b.extract (ib+1) (ib+1+k)) ia (ib+1+k) mg ac k
   else T3 a b (out.push x) ia (ib+1) mg ac k
  | _=>pure<|ForInStep.done (some<|out.push x++a.extract ia a.size++b.extract (ib+1) b.size,out.push x,ia,ib+1,mg,ac,bc)
abbrev T1 (a b out:Array Keyed)(ia ib mg ac bc:Nat):StateT SortSt Sem (ForInStep G):=do
 ab9 mg
 let x <- elem' b ib
 let r <- Kr false x a ia (a.size-ia) 0
 match r with
 | some k=>
  if k>0 then
   if (ia+k+1 == a.size)=true then pure (ForInStep.done (some<|out++a.extract ia (ia+k)++b.extract ib b.size++a.extract (ia+k) a.size,out++a.extract ia (ia+k),ia+k,ib,mg,k,bc))
   else if (ia+k == a.size)=true then pure (ForInStep.done (some<|out++a.extract ia (ia+k)++a.extract (ia+k) a.size++b.extract ib b.size,out++a.extract ia (ia+k),ia+k,ib,mg,k,bc))
   else T2 a b (out++a.extract ia (ia+k)) (ia+k) ib mg k bc
  else T2 a b out ia ib mg k bc
 | _=>pure<|ForInStep.done (some<|out++a.extract ia a.size++b.extract ib b.size,out,ia,ib,mg,ac,bc)
section
variable {o:Ord}{A B ts:am}{na nb:Nat}
structure Mh (o:Ord)(A B ts:am)(na nb:Nat):Prop where
 la:na<=A.length
 lb:nb<=B.length
 len:ts.length+na+nb=A.length+B.length
 so:ts.Pairwise (P o)
 mem:∀x∈ts,x∈A\/x∈B
 ua:∀y∈A.take na,∀x∈ts,P o y x
 ub:∀y∈B.take nb,∀x∈ts,P o y x
end
meta abbrev H:=Option (Array Keyed)×Nat×Nat×Array Keyed×Nat×Nat×Nat
section
variable {o:Ord}{f:Nat->Keyed}{st0:SortSt}{X Y ts:am}{na nb:Nat}
abbrev Oh (o:Ord)(X Y:am)(n:Nat)(ts:am)(na nb:Nat):Prop:=Mh o X Y ts na nb/\1<=na/\2<=nb/\na+nb+n<=X.length+Y.length
abbrev H2 (o:Ord)(f:Nat->Keyed)(X Y:am)(n:Nat)(st0:SortSt):ForInStep H->SortSt->Prop:=λr j=>Sm st0 j/\match r with
 | .done c=>(∃r z,c=(some r,z)/\Res o f X Y r)\/∃ts na nb mg g d,c=(none,na,nb,fa f ts.reverse,mg,g,d)/\Oh o X Y n ts na nb
 | .yield c=>∃ts na nb mg g d,c=(none,na,nb,fa f ts.reverse,mg,g,d)/\Oh o X Y n ts na nb
end
meta abbrev pr (x:Nat×Nat×Nat):Nat×Nat:=(x.1,x.2.1)
abbrev aaF (o:Ord)(g:Nat->Nat):List (Nat×Nat)->Nat->Nat->Prop
 | [],a,b=>a=b
 | x::l,a,b=>x.1=a/\1<=x.2/\Cl g a (a+x.2)/\So o g a (a+x.2)/\aaF o g l (a+x.2) b
abbrev PA (o:Ord)(g:Nat->Nat)(p:Array<|Nat×Nat×Nat)(b:Nat):Prop:=aaF o g (p.toList.map pr) 0 b
meta abbrev D8 (h:aq)(a:ak)(vs:ba):aq:=((h.update a<|Obj.mapSeq λ_=>#[]).push<|seqObj "tuple" vs.toArray 0).push<|seqObj "list" #[] 0
def Kh{h:aq}{a:ak}(hb:b≠a)(hlt:b<h.objs.size):(D8 h a vs).get? b=h.get? b:=by
 rw[iy _ _ _<|by rw[size_push',iN];exact bD<|dP hlt,
  iy _ _ _ (by rw[iN];exact bD hlt),Heap.get?_update_ne _ _ _ _ hb]
meta abbrev vv (vs:ba)(i:Nat):Keyed:=(vs.getD i .none,vs.getD i .none)
def zip_get(vs:ba){i:Nat}(h:i<vs.length):(vs.toArray.zip vs.toArray)[i]?=some (vv vs i):=by
 have e:vs[i]?=some (vs.getD i .none):=by rw[aK,aI h];rfl
 rw[Array.getElem?_zip_eq_some];exact⟨by rw[f7];exact e,by rw[f7];exact e⟩
section
variable {prog:aj}{w:ah}{A:aA}{E:af->aC->Prop}{s:aC}{o:Ord}{kd:SortKind}
def yQ{a:ak}{vs:ba}{n:Nat}{P:PySem.Fin->aC->Prop}(hL:s.heap.get? a=some (seqObj "list" vs.toArray n))(hsz:vs.length<=sizeLine)(ro:RO vs.length)
  (hkk:2<=vs.length->∀Q:SortKind->aC->Prop,Q kd { s with heap:=D8 s.heap a vs }->wpAny (model prog w) A (keyKind' vs.toArray) Q E { s with heap:=D8 s.heap a vs })
  (C:2<=vs.length->SE prog w A { s with heap:=D8 s.heap a vs } o vs.length (vv vs) kd)
  (h:∀g,Cl g 0 vs.length->So o g 0 vs.length->P (.done<|.ret .none) { s with heap:=sortedHeap s.heap a vs ((List.range vs.length).map λi=>vs.getD (g i) .none).toArray }) :
  wpAny (model prog w) A (Builtin.«list.sort» ⟨[.ref a],[]⟩) P E s:=by
 rw[list_sort_plain];have D:a<s.heap.objs.size:=a_ hL;refine aG<|listItems_at hL rfl ?_;refine aG (listUpdate_at hL rfl ?_ (by rw[aX];exact hsz)<|bF _);obtain⟨ep,F⟩:∃ep,(s.heap.update a<|Obj.mapSeq λ_=>#[]).get? a=some (seqObj "list" #[] ep):=⟨_,get?_update_seq hL λ_=>#[]⟩;refine aG<|seqEpoch_at F rfl ?_;refine aG<|wpAny_newTuple ?_;refine aG<|jw ?_;refine cY ?_;have q:(D8 s.heap a vs).get? a=some (seqObj "list" #[] ep):=by
  rw[iy _ _ _<|by rw[size_push',iN];exact bD<|dP D,iy _ _ _<|by rw[iN];exact bD D];exact F
 skip
 dsimp only;have K:vs.toArray.size=vs.length:=by simp
 have L:∀i,i<vs.length->vs[i]?=some (vs.getD i .none):=λi t=>by rw[aK,aI t];rfl
 have xm:∀(arr:Array Keyed) (g:Nat->Nat),arr.size=vs.length->(∀i,i<vs.length->arr[i]?=some (vv vs<|g i))->arr.map (·.2)=((List.range vs.length).map λi=>vs.getD (g i) .none).toArray:=λarr g h1 k=>by
  apply Array.ext_getElem?;intro i;have e0:((List.range vs.length).map λi=>vs.getD (g i) Value.none).toArray[i]?=((List.range vs.length).map λi=>vs.getD (g i) Value.none)[i]?:=f7 ..;rw[Array.getElem?_map,e0,aR];by_cases c:i<vs.length
  ·rw[k i c,eK c];rfl
  ·rw[dQ (),dD<|by rw[bR];lia];rfl
 by_cases k:vs.toArray.size<2
 ·rw[aW k,aW k];refine aG<|aM ?_;rw[StateT.run_pure];refine aG<|aM ?_;dsimp only;refine aG<|seqEpoch_at q rfl ?_;have G:=xm (vs.toArray.zip vs.toArray) (λi=>i) (by rw[jN,K];lia) λi t=>zip_get vs t;refine aG (listUpdate_at q rfl ?_ (by simp) (hsz2:=by rw[size_map];show(vs.toArray.zip vs.toArray).size<=_;rw[jN,K];lia));dsimp[bne_self_eq_false,bI,cH];refine aM ?_;have:=h (λi=>i) (λi a b=>⟨a,b⟩) λi j a b c=>();rw[<- G]at this;exact this
 ·rw[aV k,aV k];have B:2<=vs.length:=()
  refine aG<|hkk B _ ?_;refine aG (fL (ro B (f:=vv vs) (st:=SortSt.mk' kd (vs.toArray.zip vs.toArray) #[] 7 none)
   (Q:=λ_ d=>∃g p,Sg vs.length (vv vs) kd g p d/\Cl g 0 vs.length/\So o g 0 vs.length)
   (C B) ⟨by show(vs.toArray.zip vs.toArray).size=_;rw[jN,K];lia,λi t=>zip_get vs t,λi t=>t,rfl,rfl,rfl⟩ λO V d M T N=>⟨O,V,M,T,N⟩) ?_ λ_ _ e=>e)
  rintro⟨⟨⟩,d⟩ s' ⟨rfl,g,p,hS,hc,J⟩;dsimp only;refine aG<|seqEpoch_at q rfl ?_;have G:=xm (arrOf d) g hS.size hS.get;refine aG (listUpdate_at q rfl ?_ (by simp) (hsz2:=by have U:(arrOf d).size=vs.length:=hS.size;show((arrOf d).map (·.2)).size<=_;rw[size_map,U];lia));rw[hS.failed];dsimp[bne_self_eq_false,bI,cH];have:=h g hc J;rw[<- G]at this;exact aM this
end
section
variable {prog:aj}{w:ah}{A:aA}{E:af->aC->Prop}{s:aC}
def Mp(b:Bool)(x y:af):keyLt' (tuples' b) x y=(do
  let us <- Builtin.List.listItems x
  let vs <- Builtin.List.listItems y
  for ((u,v),k)in (us.toList.zip vs.toList).zipIdx do
   if !(<- eqBool u v)then return <- oneLt' (b && k == 0) u v
  return us.size<vs.size):=rfl
def Iq(b:Bool){x y:Int}{t:Tok}{Q:Bool->aC->Prop}(h:Q (decide<|x<y) s):wpAny (model prog w) A (oneLt' b (.int x t)<|.int y u) Q E s:=by
 cases b with
 | true=>exact oneLt_int h
 | false=>
  rw[oneLt'_eq];dsimp[bI,cH];exact aG<|PySem.P.lt_int<|cP h
def GY(b:Bool){l k:ak}{xs ys:ba}{ns:ag}{Q:Bool->aC->Prop}(hl:IsTup s.heap l xs.toArray)(hk:IsTup s.heap k ys.toArray)(hi:IntsAre xs ns)(hj:IntsAre ys ms)(h:Q (HT.lexLt ns ms) s) :
  wpAny (model prog w) A (keyLt' (tuples' b) (.ref l)<|.ref k) Q E s:=by
 rw[Mp];obtain⟨O,D,_,N,g⟩:=hl;obtain⟨K,C,_,L,B⟩:=hk;refine aG<|listItems_at D g ?_;refine aG<|listItems_at C B ?_;have j:∀(xs ys:ba) (ns ms:ag) (n:Nat),IntsAre xs ns->IntsAre ys ms->∀f:bi×Unit->aC->Prop,(∀r,(r=some (HT.lexLt ns ms)\/(r=none/\HT.lexLt ns ms=decide (xs.length<ys.length)))->f (r,Unit.unit) s) ->
   wpAny (model prog w) A (forIn ((xs.zip ys).zipIdx n) ((none,Unit.unit):bi×Unit) λx c=>match x with
      | ((p,q),i)=>do
       let e <- eqBool p q
       if (!e)=true then do
         let r <- oneLt' (b && i == 0) p q
         pure (ForInStep.done (some r,Unit.unit))
        else pure (ForInStep.yield (none,Unit.unit))) f E s:=by
  intro xs
  induction xs with
  | nil=>
   intro ys ns ms n h1 h2 f q
   cases h1
   rw[List.zip_nil_left,List.zipIdx_nil,ji];refine aM (q none<|.inr ⟨rfl,?_⟩)
   cases h2 with
   | nil=>rw[HT.qb];rfl
   | cons a t h2=>rw[HT.nE,bf<|by simp]
  | cons v M G=>
   intro ys ns ms n h1 h2 f q
   cases h1 with
   | cons a t h1=>
    cases h2 with
    | nil=>
     rw[List.zip_nil_right,List.zipIdx_nil,ji];exact aM<|q none<|.inr ⟨rfl,by rw[HT.pB,bz<|by simp]⟩
    | cons c u h2=>
     rw[jf,List.zipIdx_cons,jL];rw[HT.rQ]at q;dsimp only;refine aG<|aG<|wpAny_eqBool_int ?_;by_cases e:a=c
     ·rw[aW e]at q;subst e;dsimp[cZ,bY,bI,cH];refine aM (G _ _ _ _ h1 h2 _ λr d=>q r ?_)
      rcases d with d|⟨d,F⟩
      ·exact .inl d
      ·exact .inr ⟨d,by rw[F];simp⟩
     ·rw[aV e]at q;have J:(a == c)=false:=by simpa using e
      dsimp[J,dg,fq];exact aG<|Iq _<|aM<|aM<|q _<|.inl rfl
 refine aG (j xs ys ns ms 0 hi hj _ λr d=>?_)
 rcases d with rfl|⟨rfl,F⟩
 ·exact aM h
 ·dsimp only;rw[aX,aX,<- F];exact aM h
end
theorem zJ:∀a:ag,HT.lexLt a a=false
 | []=>HT.qb
 | x::a=>by rw[HT.rQ,aW rfl];exact zJ a
theorem Du:∀{a b c:ag},HT.lexLt a b=true->HT.lexLt b c=true->HT.lexLt a c=true
 | [],[],_,h,_=>by rw[HT.qb]at h;cases h
 | x::a,[],_,h,_=>by rw[HT.pB]at h;cases h
 | _,y::b,[],_,h=>by rw[HT.pB]at h;cases h
 | [],y::b,z::c,_,_=>HT.nE ..
 | x::a,y::b,z::c,h1,h2=>by
  rw[HT.rQ]at h1 h2 ⊢;by_cases e1:x=y
  ·rw[aW e1]at h1;by_cases e2:y=z
   ·rw[aW e2]at h2;rw[aW<|e1.trans e2];exact Du h1 h2
   ·rw[aV e2]at h2;have:=bV h2;rw[aV<|by omega];exact bf<|by omega
  ·rw[aV e1]at h1;have d:=bV h1;by_cases e2:y=z
   ·rw[aV<|by omega];exact bf (by omega)
   ·rw[aV e2]at h2;have:=bV h2;rw[aV<|by omega];exact bf<|by omega
theorem yh:∀{a b:ag},HT.lexLt a b=false->HT.lexLt b a=false->a=b
 | [],[],_,_=>rfl
 | [],y::b,h,_=>by rw[HT.nE]at h;cases h
 | x::a,[],_,h=>by rw[HT.nE]at h;cases h
 | x::a,y::b,h1,h2=>by
  rw[HT.rQ]at h1 h2;by_cases e:x=y
  ·rw[aW e]at h1;rw[aW e.symm]at h2;rw[e,yh h1 h2]
  ·rw[aV e]at h1;rw[aV λz=>e z.symm]at h2;have:=eY h1;have:=eY h2;omega
def J4{a c:ag}(h:HT.lexLt a c=true):HT.lexLt a b=true\/HT.lexLt b c=true:=by
 cases e:HT.lexLt a b with
 | true=>exact .inl rfl
 | false=>
  right
  cases e2:HT.lexLt b a with
  | true=>exact Du e2 h
  | false=>rw[<- yh e e2];exact h
abbrev uv (kss:List<|ag):Ord where
 lt i j:=HT.lexLt (kss.getD i []) (kss.getD j [])
 MK i:=zJ _
 tr i j k:=Du
 neg i j k:=J4
section
variable {prog:aj}{w:ah}{A:aA}{E:af->aC->Prop}{s:aC}
theorem Kw{α β:Type}{f:α->Sem β}(r:α->β):∀(l:List α),(∀a∈l,∀Q:β->aC->Prop,Q (r a) s->wpAny M A (f a) Q E s)->∀Q:List β->aC->Prop,Q (l.map r) s->wpAny M A (l.mapM f) Q E s
 | [],_,Q,q=>by rw[List.mapM_nil];exact aM q
 | a::l,h,Q,q=>by
  rw[List.mapM_cons];refine aG<|h a (aL ..) _<|aG<|Kw r l (λb hb=>h b<|aO _ hb) _<|aM q
def zH{α β:Type}{f:α->Sem β}(r:α->β)(l:List α)(h:∀a∈l,∀Q:β->aC->Prop,Q (r a) s->wpAny M A (f a) Q E s)(Q:Array β->aC->Prop)(q:Q (l.map r).toArray s):wpAny M A (l.toArray.mapM f) Q E s:=by
 rw[List.mapM_toArray,map_eq_pure_bind];exact aG<|Kw r l h _<|aM q
def F2(u:af):firstOfTuple' u=(do
  if (<- typeOf u) != .type "tuple" then return none
  return (<- Builtin.List.listItems u)[0]?):=rfl
def LC{vs:ba}(h0:vs≠[])(ht:∀v∈vs,∃(l:ak) (xs:ba) (n:Int) (t:Tok),v=.ref l/\IsTup s.heap l (.int n t::xs).toArray){Q:SortKind->aC->Prop}(q:Q (tuples' true) s) :
  wpAny (model prog w) A (keyKind' vs.toArray) Q E s:=by
 have B:∀v,∃x:Int×Tok,v∈vs->∃(l:ak) (xs:ba),v=.ref l/\IsTup s.heap l (.int x.1 x.2::xs).toArray:=λv=>by
  by_cases c:v∈vs
  ·obtain⟨l,xs,n,t,e1,e2⟩:=ht v c;exact⟨(n,t),λ_=>⟨l,xs,e1,e2⟩⟩
  ·exact⟨(0,0),λz=>absurd z c⟩
 obtain⟨F,k⟩:=Classical.axiomOfChoice B;rw[keyKind'_eq];refine aG (zH (λv=>some<|Value.int (F v).1 (F v).2) vs (λv hv p g=>?_) _ ?_)
 ·obtain⟨l,xs,rfl,o,j,hc,n,C⟩:=k v hv;rw[F2];refine aG<|gZ (T := "tuple") ⟨o,j,hc⟩ ?_;rw[aV ⋯];exact aG (listItems_at j C<|aM g)
 ·rw[aW<|by simp];refine aG<|gc ?_;have e1:(vs.map λv=>some<|Value.int (F v).1 (F v).2).toArray.filterMap id=(vs.map λv=>Value.int (F v).1 (F v).2).toArray:=by
   rw[List.filterMap_toArray,List.filterMap_map];congr 1;rw[show(id ∘ λv=>some<|Value.int (F v).1 (F v).2)=λv=>some (Value.int (F v).1 (F v).2)from rfl];exact congrFun List.filterMap_eq_map' vs
  rw[e1,oneTypeOnly'_eq];refine aG (aG<|zH (λ_=>Value.type "int") _ (λv hv p g=>?_) _ ?_)
  ·obtain⟨u,_,rfl⟩:=bq.mp hv;exact aM g
  ·rw[aY];obtain⟨f,d,rfl⟩:∃f d,vs=f::d:=by
    cases vs with
    | nil=>exact absurd rfl h0
    | cons a b=>exact⟨a,b,rfl⟩
   have ha:((List.map ((λ_=>Value.type "int") ∘ λv=>Value.int (F v).1 (F v).2) (f::d)).toArray.all λx=>x == Value.type "int")=true:=by
    dsimp[List.all_toArray,jH,dM];intro _ _;rfl
   have D:(List.map ((λ_=>Value.type "int") ∘ λv=>Value.int (F v).1 (F v).2) (f::d)).toArray[0]?=some (Value.type "int"):=by simp
   rw[D];dsimp[ha,fq];exact aM<|aM q
end
end Sx
namespace L2
open PySem PySem.Spec PyProof.Rows
section
variable {X:Cx}
theorem tQ:∀{rs:bb}{its:ba},Vals (rs.map V.ref) its->its=rs.map Value.ref
 | [],_,r=>by cases r;rfl
 | a::rs,_,r=>by
  cases r with
  | cons h t=>
   have e:_=Value.ref a:=h;rw[e,tQ t];rfl
theorem yz:∀(rs:bb),Vals (rs.map V.ref) (rs.map Value.ref)
 | []=>.nil
 | a::rs=>.cons (show RelV (.ref a) (.ref a)from rfl)<|yz rs
def yr{s:aC}{H:Hp}{Q:VK}{h':aq}{tk:Nat}{rs:bb}{kss:List<|ag}(I1:Inv X pins σ H { s with heap:=h',toks:=tk })(ro:Sx.RO kss.length)(hlen:rs.length=kss.length)(hz:rs.length<=sizeLine)
  (hT:∀(i:Nat) (r:ak) (ks:ag),rs[i]?=some r->kss[i]?=some ks->nh X.K H r (ks.map V.int)/\ks≠[])
  (q:∀l g,H l=none->Sx.Cl g 0 kss.length->Sx.So (Sx.uv kss) g 0 kss.length->Q (.ref l) (upd H l<|.lst<|((List.range kss.length).map λi=>rs.getD (g i) 0).map V.ref)) :
  wpAny (model X.prog X.w) X.A.in1 (do
   let l <- newList (rs.map Value.ref)
   let _ <- holding [l] (call (Value.builtin "list.sort") [l] [])
   ret l) (λfin s'=>∃v,fin=Fin.done (Flow.ret v)/\EP X pins σ Q v s') X.xe { s with heap:=h',toks:=tk }:=by
 have B:(rs.map Value.ref).length=kss.length:=by rw[aH,hlen]
 refine aG<|jw ?_;have k:(h'.push<|seqObj "list" (rs.map Value.ref).toArray 0).get? h'.objs.size=some (seqObj "list" (rs.map Value.ref).toArray 0):=br _ rfl
 skip
 have tup:∀(i:Nat) (r:ak) (ks:ag),rs[i]?=some r->kss[i]?=some ks->∃d:ba,IntsAre d ks/\IsTup (Sx.D8 (h'.push<|seqObj "list" (rs.map Value.ref).toArray 0) h'.objs.size<|rs.map Value.ref) r d.toArray:=λi r ks e1 e2=>by
  obtain⟨d,P,⟨o,J,hc,n,hd⟩,_⟩:=I1.tuple (hT i r ks e1 e2).1;refine⟨d,intsAre_of P,o,?_,hc,n,hd⟩;have lt:r<h'.objs.size:=a_ J;rw[Sx.Kh (bD lt)<|by rw[c_];exact dP lt];exact aQ _ J
 refine aG (cY<|cB slot_list_sort ⟨_,k,rfl⟩ entry_list_sort (Sx.yQ (o:=Sx.uv kss) (kd:=tuples' true) k (by rw[B];lia) (by rw[B];exact ro) (λh2 G C=>?_) (λh2 i j f L W G C=>?_) λg hc hs=>⟨_,rfl,?_⟩)<|args_list_sort _)
 ·refine Sx.LC (λz=>by rw[z]at h2;simp at h2) (λv hv=>?_) C;obtain⟨i,f⟩:=iU hv;rw[aR]at f;obtain⟨r,F,rfl⟩:=aP.mp f;have lt:=(aJ.mp F).1;have e2:kss[i]?=some kss[i]:=aI ();obtain⟨d,h1,h3⟩:=tup i r _ F e2;have p:=(hT i r _ F e2).2;generalize kss[i]=ks at h1 p
  cases h1 with
  | nil=>exact absurd rfl p
  | cons a t h1=>exact⟨r,_,a,t,rfl,h3⟩
 ·rw[B]at f L;have e1:rs[i]?=some (rs[i]'()):=aI _;have e2:rs[j]?=some (rs[j]'()):=aI _;have M:kss[i]?=some kss[i]:=aI f;have N:kss[j]?=some kss[j]:=aI L;obtain⟨x1,O,b1⟩:=tup i _ _ e1 M;obtain⟨x2,U,Y⟩:=tup j _ _ e2 N;have v1:(rs.map Value.ref).getD i .none=.ref (rs[i]'()):=by rw[aK,aR,e1];rfl
  have v2:(rs.map Value.ref).getD j .none=.ref (rs[j]'()):=by rw[aK,aR,e2];rfl
  show wpAny _ _ (keyLt' (tuples' true) ((rs.map Value.ref).getD i .none)<|(rs.map Value.ref).getD j .none) G W _;rw[v1,v2];refine Sx.GY true b1 Y O U ?_;have Z:kss.getD i []=kss[i]:=by rw[aK,M];rfl
  have T:kss.getD j []=kss[j]:=by rw[aK,N];rfl
  have:(Sx.uv kss).lt i j=HT.lexLt kss[i] kss[j]:=by show HT.lexLt _ _=_;rw[Z,T]
  rw[<- this];exact C
 ·rw[B]at hc hs ⊢;obtain⟨e,he⟩:=sortedHeap_at (out:=((List.range kss.length).map λi=>(rs.map Value.ref).getD (g i) .none).toArray) k;have old:∀b ob,h'.get? b=some ob->(sortedHeap (h'.push<|seqObj "list" (rs.map Value.ref).toArray 0) h'.objs.size (rs.map Value.ref) ((List.range kss.length).map λi=>(rs.map Value.ref).getD (g i) .none).toArray).get? b=some ob:=λb ob D=>by
   rw[sortedHeap_old (bD<|a_ D)<|by rw[c_];exact dP<|a_ D];exact aQ _ D
  refine aM ⟨_,rfl,.ref h'.objs.size,_,I1.laid (t':=tk) (o:=.lst<|((List.range kss.length).map λi=>rs.getD (g i) 0).map V.ref) old (aN _) ?_,rfl,q _ g (I1.hok.fresh<|aN _) hc hs⟩;refine⟨by rw[aH,aH,bR];lia,((List.range kss.length).map λi=>rs.getD (g i) 0).map Value.ref,e,yz _,?_⟩;rw[he];congr 2;rw[aY];congr 1;refine bO λi f=>?_;have:=(hc i (bF _)<|cy.mp f).2;have lt:g i<rs.length:=()
  show(rs.map Value.ref).getD (g i) .none=Value.ref (rs.getD (g i) 0);rw[aK,aR,aI lt,aK,aI lt];rfl
def Et:kM X (.builtin "sorted") (λxs H Q=>∃(p:ak) (rs:bb) (kss:List<|ag),xs=[.ref p]/\oS X.K H p (rs.map V.ref)/\Sx.RO kss.length/\rs.length=kss.length /\
  (∀(i:Nat) (r:ak) (ks:ag),rs[i]?=some r->kss[i]?=some ks->nh X.K H r (ks.map V.int)/\ks≠[]) /\
  ∀l g,H l=none->Sx.Cl g 0 kss.length->Sx.So (Sx.uv kss) g 0 kss.length->Q (.ref l) (upd H l<|.lst<|((List.range kss.length).map λi=>rs.getD (g i) 0).map V.ref)):=by
 kt_k;obtain⟨p,rs,kss,rfl,hq,t,d,L,q⟩:=h;kcf_m
 cases rx
 obtain⟨G,C,pl,j⟩:=I.list hq;have D:=tQ C;subst D;obtain⟨o,B,f,n,J⟩:=pl.isList;rw[aH]at j;have F:(rs.map Value.ref).length=kss.length:=by rw[aH,d]
 refine dw iV iz iA (iB _) ?_;unfold Builtin.«sorted»;kl_no;refine aG<|wpAny_collect_seq p (.inl rfl) B f J (λh' k=>yr (s:=s) (I.kept (t':=s.toks) k) t d j L q)<|by rw[aX,F];lia
end
end L2
namespace Sx
open PySem PyProof.Rows
open PySem.AutoSeq1 (wpAny_loadPart')
open PySem.MeetsSeq PySem.MeetsSeq2 PySem.MeetsSeq3
section
variable {prog:aj}{w:ah}{A:aA}{E:af->aC->Prop}{s:aC}
def GK{v:af}{l:ak}(e:v=.ref l)(h:s.heap.IsList l xs){Q:bd->aC->Prop}(q:Q none s):wpAny (model prog w) A (firstOfTuple' v) Q E s:=by
 subst e;obtain⟨o,d,hc,n,f⟩:=h;rw[F2];refine aG<|gZ (T := "list") ⟨o,d,hc⟩ ?_;rw[aW ⋯];exact aM q
def HK{vs:ba}(h0:vs≠[])(ht:∀v∈vs,∃(l:ak) (xs:Array af),v=.ref l/\s.heap.IsList l xs){Q:SortKind->aC->Prop}(q:Q oneType' s) :
  wpAny (model prog w) A (keyKind' vs.toArray) Q E s:=by
 rw[keyKind'_eq];obtain⟨f,d,rfl⟩:∃f d,vs=f::d:=by
  cases vs with
  | nil=>exact absurd rfl h0
  | cons a b=>exact⟨a,b,rfl⟩
 refine aG (zH (λ_=>(none:bd)) (f::d) (λv hv j g=>?_) _ ?_)
 ·obtain⟨l,xs,e,h⟩:=ht v hv;exact GK e h g
 ·rw[aV<|by simp,aV<|by simp,oneTypeOnly'_eq];refine aG (aG<|zH (λ_=>Value.type "list") _ (λv hv j g=>?_) _ ?_)
  ·obtain⟨l,xs,rfl,o,k,hc,_⟩:=ht v hv;exact gZ (T := "list") ⟨o,k,hc⟩ g
  ·have ha:((List.map (λ_=>Value.type "list") (f::d)).toArray.all λx=>x == Value.type "list")=true:=by
    rw[List.all_toArray,jH,dM];intro _ _;rfl
   have p:(List.map (λ_=>Value.type "list") (f::d)).toArray[0]?=some (Value.type "list"):=by simp
   rw[p];dsimp[ha,fq];exact aM<|aM q
end
end Sx
namespace Am
open PySem
inductive A where
 | unb|non|bl (b:Bool)|int (i:Int)|str (x:Str)|tup (xs:List A)|frz (xs:List A)|rng (lo hi:Int)|ref (n:Nat)|exn (c:Str)|ty (n:String)|ktu (xs:List A)
@[reducible]def ae:=List A
inductive O where
 | lst (xs:ae)|dct (kvs:List<|ag×A)|qv (kvs:List<|Int×A)|uY (kvs:List<|Str×A)|u0 (kvs:List<|L2.ni×A)|dcf (kvs:List<|ag×A)|ins (c:Str) (fs:List<|Str×A)
meta abbrev jV:=List O
inductive R (α:Type) where
 | ok (a:α) (S:jV)|ex (c:Str) (S:jV)|no
abbrev R.bind {α β:Type}(r:R α)(f:α->jV->R β):R β:=match r with
 | .ok a S=>f a S
 | .ex c S=>.ex c S
 | .no=>.no
abbrev R.post {α:Type}(r:R α)(P:α->jV->Prop)(E:Str->jV->Prop):Prop:=match r with
 | .ok a S=>P a S
 | .ex c S=>E c S
 | .no=>False
def j5{α β:Type}{r:R α}{f:α->jV->R β}{P:β->jV->Prop}{E:Str->jV->Prop}(h:(r.bind f).post P E):r.post (λa S=>(f a S).post P E) E:=by
 cases r<;>exact h
def MJ{α:Type}{r:R α}{P P':α->jV->Prop}{E E':Str->jV->Prop}(h:r.post P E)(hp:∀a S,P a S->P' a S)(he:∀c S,E c S->E' c S):r.post P' E':=by
 cases r with
 | ok a S=>exact hp _ _ h
 | ex c S=>exact he _ _ h
 | no=>exact h.elim
abbrev gd {α:Type}(c:Prop)[Decidable c](r:R α):R α:=if c then r else .no
abbrev opt {α β:Type}(o:Option β)(f:β->R α):R α:=match o with
 | some b=>f b
 | none=>.no
def kB{α:Type}{c:Prop}[Decidable c]{r:R α}{P:α->jV->Prop}{E:Str->jV->Prop}(h:(gd c r).post P E):c/\r.post P E:=by
 unfold gd at h;by_cases hc:c
 ·rw[aW hc]at h;exact⟨hc,h⟩
 ·rw[aV hc]at h;exact h.elim
def jY{α β:Type}{o:Option β}{f:β->R α}{P:α->jV->Prop}{E:Str->jV->Prop}(h:(opt o f).post P E):∃b,o=some b/\(f b).post P E:=by
 cases o with
 | none=>exact h.elim
 | some b=>exact⟨b,rfl,h⟩
def D5{α:Type}{c:Prop}[Decidable c]{r:R α}(h:c):gd c r=r:=aW h
def abC{α β:Type}{o:Option β}{f:β->R α}{b:β}(h:o=some b):opt o f=f b:=by rw[h];rfl
abbrev jT (S:jV)(n:Nat):Option (ae):=match S[n]? with
 | some (.lst xs)=>some xs
 | _=>none
def j8{n:Nat}(h:jT S n=some xs):S[n]?=some (.lst xs):=by
 unfold jT at h;split at h
 ·rename_i e;cases h;exact e
 ·cases h
def nj{S:jV}{n:Nat}(h:S[n]?=some (.lst xs)):jT S n=some xs:=by
 unfold jT;rw[h]
inductive RS where
 | nx (τ:ae) (S:jV)|rt (a:A) (S:jV)|bk (τ:ae) (S:jV)|ct (τ:ae) (S:jV)|ex (c:Str) (S:jV)|no
meta abbrev Ex:=ae->jV->R A
meta abbrev q_:=ae->jV->R (ae)
meta abbrev Te:=ae->jV->R Bool
meta abbrev Sm:=ae->jV->RS
meta abbrev Tg:=A->ae->jV->R (ae)
end Am
namespace Am
open PySem L2
section
variable (K:au) (ρ:bb) (H:Hp)
abbrev ClN (K:au)(c:Str)(C:ak):Prop:=PySem.W.nsIn K mainGlobals c=some (some<|.ref C)
abbrev Fz (K:au)(H:Hp)(a:ak)(vs:List V):Prop:=
 (∃o,H a=some (.frz o<|.lst vs))\/∃(o:Obj) (d:Array af) (n:Nat),K.lookup a=some o/\o.cls=.type "list" /\ o.dict=none/\o.data=.seq d n/\d.size<=sizeLine/\Vals vs d.toList
abbrev KTp (K:au)(a:ak)(vs:List V):Prop:=∃(o:Obj) (d:Array af) (n:Nat),K.lookup a=some o/\o.cls=.type "tuple" /\ o.dict=none/\o.data=.seq d n/\d.size<=sizeLine/\Vals vs d.toList
mutual
inductive AV:A->V->Prop
 | non:AV .non .non
 | bl (b:Bool):AV (.bl b) (.bl b)
 | int (i:Int):AV (.int i) (.int i)
 | str (x:Str):AV (.str x) (.str x)
 | ty (n:String):AV (.ty n) (.ty n)
 | tup {a:ak} {xs:ae} {vs:List V} (h:H a=some (.tup vs)) (r:AVs xs vs):AV (.tup xs) (.ref a)
 | frz {a:ak} {xs:ae} {vs:List V} (h:Fz K H a vs) (r:AVs xs vs):AV (.frz xs) (.ref a)
 | rng {a:ak} {lo hi:Int} (h:H a=some (.rng lo hi)):AV (.rng lo hi) (.ref a)
 | ref {a:ak} {n:Nat} (h:ρ[n]?=some a):AV (.ref n) (.ref a)
 | exn {a C:ak} {c:Str} {oe:Obj} (n:ClN K c C) (h:H a=some (.frz oe xu)) (x:XO C oe):AV (.exn c) (.ref a)
 | ktu {a:ak} {xs:ae} {vs:List V} (h:KTp K a vs) (r:AVs xs vs):AV (.ktu xs)<|.ref a
inductive AVs:ae->List V->Prop
 | nil:AVs [] []
 | cons {x:A} {v:V} {xs:ae} {vs:List V} (h:AV x v) (t:AVs xs vs):AVs (x::xs) (v::vs)
end
abbrev DV:List (ag×A)->List (List Key×V)->Prop
 | [],[]=>True
 | p::r,q::r'=>(q.1=p.1.map Sum.inl/\AV K ρ H p.2 q.2)/\DV r r'
 | _,_=>False
abbrev DI:List (Int×A)->List (Key×V)->Prop
 | [],[]=>True
 | p::r,q::r'=>(q.1=Sum.inl p.1/\AV K ρ H p.2 q.2)/\DI r r'
 | _,_=>False
abbrev DS:List (Str×A)->List (Key×V)->Prop
 | [],[]=>True
 | p::r,q::r'=>(q.1=Sum.inr p.1/\AV K ρ H p.2 q.2)/\DS r r'
 | _,_=>False
abbrev DP:List (L2.ni×A)->List (L2.ni×ak×af)->Prop
 | [],[]=>True
 | p::r,q::r'=>(q.1=p.1/\L2.tY H q.2.1 q.1/\∃v,RelV v q.2.2/\AV K ρ H p.2 v)/\DP r r'
 | _,_=>False
abbrev OR (a:ak):O->Prop
 | .lst xs=>∃d,H a=some (.lst d)/\AVs K ρ H xs d
 | .dct kvs=>∃ks,H a=some (.dT ks)/\DV K ρ H kvs ks
 | .qv kvs=>∃ks,H a=some (.dK ks)/\DI K ρ H kvs ks
 | .uY kvs=>∃ks,H a=some (.dK ks)/\DS K ρ H kvs ks
 | .u0 kvs=>∃xs,H a=some (.ext<|L2.xw a xs)/\DP K ρ H kvs xs
 | .dcf kvs=>∃o ks,H a=some (.frz o<|.dT ks)/\DV K ρ H kvs ks
 | .ins _ _=>∃o u,H a=some (.frz o u)
structure Rel (S:jV):Prop where
 len:ρ.length=S.length
 nd:ρ.Nodup
 «at»:∀(n:Nat) (a:ak) (o:O),ρ[n]?=some a->S[n]?=some o->OR K ρ H a o
end
abbrev Imm:HO->Prop
 | .tup _=>True
 | .rng _ _=>True
 | .frz _ _=>True
 | _=>False
structure Ext0 (ρ ρ':bb)(H H':Hp):Prop where
 pre:ρ <+: ρ'
 im:∀a u,Imm u->H a=some u->H' a=some u
structure Ext (ρ ρ':bb)(H H':Hp):Prop extends Ext0 ρ ρ' H H' where
 fr:∀a u,H a=some u->a∉ρ->H' a=some u
 nw:∀a,a∈ρ'->a∈ρ\/H a=none
def Ext.refl{H:Hp}:Ext ρ ρ H H:=⟨⟨dO _,λ_ _ _ h=>h⟩,λ_ _ h _=>h,λ_ h=>.inl h⟩
def Ext.trans{H H1 H2:Hp}(a:Ext ρ ρ1 H H1)(b:Ext ρ1 ρ2 H1 H2):Ext ρ ρ2 H H2:=⟨⟨a.pre.trans b.pre,λx u i h=>b.im x u i<|a.im x u i h⟩,λx u h n=>b.fr x u (a.fr x u h n) λz=>(a.nw x z).elim n λz=>by(rw[z]at h;cases h),λx h=>by
 by_cases d:x∈ρ
 ·exact .inl d
 ·right
  cases q:H x with
  | none=>rfl
  | some u=>
   rcases b.nw x h with z|z
   ·exact((a.nw x z).elim d λz=>by(rw[z]at q;cases q)).elim
   ·rw[a.fr x u q d]at z;cases z⟩
def Ext0.get{H H':Hp}(e:Ext0 ρ ρ' H H'){n:Nat}{a:ak}(h:ρ[n]?=some a):ρ'[n]?=some a:=by
 obtain⟨t,rfl⟩:=e.pre;rw[bu (aJ.mp h).1];exact h
section
variable {K:au}{ρ ρ':bb}{H H':Hp}
def Ext0.sqT(e:Ext0 ρ ρ' H H'){a:ak}(h:nh K H a vs):nh K H' a vs:=by
 rcases h with(h|⟨o,h⟩)|h
 ·exact .inl (.inl<|e.im _ _ trivial h)
 ·exact .inl (.inr ⟨o,e.im _ _ trivial h⟩)
 ·exact .inr h
def Ext0.fz(e:Ext0 ρ ρ' H H'){a:ak}(h:Fz K H a vs):Fz K H' a vs:=by
 rcases h with⟨o,h⟩|h
 ·exact .inl ⟨o,e.im _ _ trivial h⟩
 ·exact .inr h
def Fz.SI{a:ak}(h:Fz K H a vs):oS K H a vs:=by
 rcases h with⟨o,h⟩|h
 ·exact .inl (.inr ⟨o,h⟩)
 ·exact .inr h
mutual
theorem AV.mJ(e:Ext0 ρ ρ' H H'):∀{x:A}{v:V},AV K ρ H x v->AV K ρ' H' x v
 | _,_,.non=>.non
 | _,_,.bl b=>.bl b
 | _,_,.int i=>.int i
 | _,_,.str x=>.str x
 | _,_,.ty x=>.ty x
 | _,_,.tup h r=>.tup (e.im _ _ trivial h) (AVs.mJ e r)
 | _,_,.frz h r=>.frz (e.fz h) (AVs.mJ e r)
 | _,_,.rng h=>.rng (e.im _ _ trivial h)
 | _,_,.ref h=>.ref (e.get h)
 | _,_,.exn n h x=>.exn n (e.im _ _ trivial h) x
 | _,_,.ktu h r=>.ktu h<|AVs.mJ e r
theorem AVs.mJ(e:Ext0 ρ ρ' H H'):∀{xs:ae}{vs:List V},AVs K ρ H xs vs->AVs K ρ' H' xs vs
 | _,_,.nil=>.nil
 | _,_,.cons h t=>.cons (AV.mJ e h)<|AVs.mJ e t
end
theorem DV.mJ(e:Ext0 ρ ρ' H H'):∀{xs:List<|ag×A}{vs:List<|List Key×V},DV K ρ H xs vs->DV K ρ' H' xs vs
 | [],[],_=>trivial
 | _::_,_::_,⟨⟨a,b⟩,r⟩=>⟨⟨a,AV.mJ e b⟩,DV.mJ e r⟩
def DV.ext{x:List<|ag×A}{v:List<|List Key×V}(h:DV K ρ H x v)(e:Ext ρ ρ' H H'):DV K ρ' H' x v:=DV.mJ e.toExt0 h
theorem DI.mJ(e:Ext0 ρ ρ' H H'):∀{xs:List<|Int×A}{vs:List<|Key×V},DI K ρ H xs vs->DI K ρ' H' xs vs
 | [],[],_=>trivial
 | _::_,_::_,⟨⟨a,b⟩,r⟩=>⟨⟨a,AV.mJ e b⟩,DI.mJ e r⟩
def DI.ext{x:List<|Int×A}{v:List<|Key×V}(h:DI K ρ H x v)(e:Ext ρ ρ' H H'):DI K ρ' H' x v:=DI.mJ e.toExt0 h
theorem DS.mJ(e:Ext0 ρ ρ' H H'):∀{xs:List<|Str×A}{vs:List<|Key×V},DS K ρ H xs vs->DS K ρ' H' xs vs
 | [],[],_=>trivial
 | _::_,_::_,⟨⟨a,b⟩,r⟩=>⟨⟨a,AV.mJ e b⟩,DS.mJ e r⟩
def DS.ext{x:List<|Str×A}{v:List<|Key×V}(h:DS K ρ H x v)(e:Ext ρ ρ' H H'):DS K ρ' H' x v:=DS.mJ e.toExt0 h
def tY.mJ{k:L2.ni}(e:Ext0 ρ ρ' H H'):L2.tY H b k->L2.tY H' b k:=λ⟨r1,r2,h1,h2,h3⟩=>⟨r1,r2,e.im _ _ trivial h1,e.im _ _ trivial h2,e.im _ _ trivial h3⟩
theorem DP.mJ(e:Ext0 ρ ρ' H H'):∀{xs:List<|L2.ni×A}{vs:List<|L2.ni×ak×af},DP K ρ H xs vs->DP K ρ' H' xs vs
 | [],[],_=>trivial
 | _::_,_::_,⟨⟨a,k,v,c,b⟩,r⟩=>⟨⟨a,tY.mJ e k,v,c,AV.mJ e b⟩,DP.mJ e r⟩
def DP.ext{x:List<|L2.ni×A}{v:List<|L2.ni×ak×af}(h:DP K ρ H x v)(e:Ext ρ ρ' H H'):DP K ρ' H' x v:=DP.mJ e.toExt0 h
def AV.ext{x:A}{v:V}(h:AV K ρ H x v)(e:Ext ρ ρ' H H'):AV K ρ' H' x v:=AV.mJ e.toExt0 h
def AVs.ext{x:ae}{v:List V}(h:AVs K ρ H x v)(e:Ext ρ ρ' H H'):AVs K ρ' H' x v:=AVs.mJ e.toExt0 h
theorem AVs.length:∀{xs:ae}{vs:List V},AVs K ρ H xs vs->xs.length=vs.length
 | _,_,.nil=>rfl
 | _,_,.cons _ t=>cV (·+1)<|AVs.length t
theorem AVs.append:∀{xs ys:ae}{vs ws:List V},AVs K ρ H xs vs->AVs K ρ H ys ws->AVs K ρ H (xs++ys) (vs++ws)
 | _,_,_,_,.nil,s=>s
 | _,_,_,_,.cons h t,s=>.cons h<|AVs.append t s
theorem AVs.take:∀{xs:ae}{vs:List V}(n:Nat),AVs K ρ H xs vs->AVs K ρ H (xs.take n) (vs.take n)
 | _,_,0,_=>.nil
 | _,_,_+1,.nil=>.nil
 | _,_,n+1,.cons h t=>.cons h<|AVs.take n t
theorem AVs.reverse:∀{xs:ae}{vs:List V},AVs K ρ H xs vs->AVs K ρ H xs.reverse vs.reverse
 | _,_,.nil=>.nil
 | _,_,.cons h t=>by rw[gY,gY];exact(AVs.reverse t).append (.cons h .nil)
theorem AVs.get:∀{xs:ae}{vs:List V}{i:Nat}{x:A},AVs K ρ H xs vs->xs[i]?=some x->∃v,vs[i]?=some v/\AV K ρ H x v
 | _,_,_,_,.nil,e=>by simp at e
 | _,_,0,_,.cons h _,e=>by simp at e;subst e;exact⟨_,rfl,h⟩
 | _,_,i+1,x,.cons _ t,e=>by
  obtain⟨u,h1,h2⟩:=AVs.get (i:=i) (x:=x) t (by simpa using e);exact⟨u,by simpa using h1,h2⟩
theorem AVs.set{x:A}{v:V}(h:AV K ρ H x v):∀{xs:ae}{vs:List V}(i:Nat),AVs K ρ H xs vs->AVs K ρ H (xs.set i x) (vs.set i v)
 | _,_,_,.nil=>.nil
 | _,_,0,.cons _ t=>.cons h t
 | _,_,i+1,.cons q t=>.cons q<|AVs.set h i t
def AVs.one{x:A}{v:V}(h:AV K ρ H x v):AVs K ρ H [x] [v]:=.cons h .nil
theorem AVs.eraseIdx:∀{xs:ae}{vs:List V}(i:Nat),AVs K ρ H xs vs->AVs K ρ H (xs.eraseIdx i) (vs.eraseIdx i)
 | _,_,_,.nil=>.nil
 | _,_,0,.cons _ t=>t
 | _,_,i+1,.cons q t=>.cons q<|AVs.eraseIdx i t
theorem rK:∀(ns:ag),AVs K ρ H (ns.map .int) (ns.map .int)
 | []=>.nil
 | n::ns=>.cons (.int n)<|rK ns
def Rel.lay{S:jV}{p:ak}(R:Rel K ρ H S)(hp:H p=none)(r:AVs K ρ H xs vs):Ext ρ (ρ++[p]) H (upd H p<|.lst vs)/\Rel K (ρ++[p]) (upd H p<|.lst vs) (S++[.lst xs])/\(ρ++[p])[S.length]?=some p:=by
 have ex:Ext ρ (ρ++[p]) H (upd H p<|.lst vs):=⟨⟨dG _ _,λa u _ h=>by rw[jZ<|kg h hp];exact h⟩,λa u h _=>by rw[jZ<|kg h hp];exact h,λa h=>by
  rcases bH.mp h with z|z
  ·exact .inl z
  ·have e:a=p:=by simpa using z
   rw[e];exact .inr hp⟩
 have g:∀(n:Nat) (a:ak),ρ[n]?=some a->a≠p:=by
  intro n a e z;subst z;have hn:n<S.length:=by rw[<- R.len];exact(aJ.mp e).1
  have:=R.at n a S[n] e (aI hn)
  cases j:S[n]with
  | lst xs=>rw[j]at this;obtain⟨vs,h,_⟩:=this;rw[hp]at h;cases h
  | dct _|qv _|uY _|u0 _=>rw[j]at this;obtain⟨vs,h,_⟩:=this;rw[hp]at h;cases h
  | dcf _=>rw[j]at this;obtain⟨_,vs,h,_⟩:=this;rw[hp]at h;cases h
  | ins _ _=>rw[j]at this;obtain⟨_,_,h⟩:=this;rw[hp]at h;cases h
 have d:(ρ++[p])[S.length]?=some p:=by rw[<- R.len];simp
 refine⟨ex,⟨by simp[R.len],?_,?_⟩,d⟩
 ·rw[b_];kln_w;have:b=p:=by simpa using hb
  obtain⟨n,hn,t⟩:=cA.mp ha;exact g n a (by rw[aI hn,t])<|e.trans this
 ·intro n a o h1 h2;by_cases hn:n<S.length
  ·rw[bu<|by rw[R.len];exact hn]at h1;rw[bu hn]at h2;have:=R.at n a o h1 h2
   cases o with
   | lst ys=>obtain⟨f,e,q⟩:=this;exact⟨f,by rw[jZ<|g n a h1];exact e,q.ext ex⟩
   | dct _|qv _|uY _|u0 _=>obtain⟨f,e,q⟩:=this;exact⟨f,by rw[jZ<|g n a h1];exact e,q.ext ex⟩
   | dcf _=>obtain⟨k,f,e,q⟩:=this;exact⟨k,f,by rw[jZ<|g n a h1];exact e,q.ext ex⟩
   | ins _ _=>obtain⟨k,B,e⟩:=this;exact⟨k,B,by rw[jZ<|g n a h1];exact e⟩
  ·have e:n=S.length:=by
    have:=(aJ.mp h2).1;simp at this
    lia
   subst e;rw[d]at h1
   cases h1
   simp at h2;subst h2;exact⟨vs,kK,r.ext ex⟩
def Rel.im{p:ak}(R:Rel K ρ H S)(hp:H p=none):Ext ρ ρ H (upd H p u)/\Rel K ρ (upd H p u) S:=by
 have ex:Ext ρ ρ H (upd H p u):=⟨⟨dO _,λa u _ h=>by rw[jZ<|kg h hp];exact h⟩,λa u h _=>by rw[jZ<|kg h hp];exact h,λ_ h=>.inl h⟩;refine⟨ex,R.len,R.nd,λn a o h1 h2=>?_⟩;have:=R.at n a o h1 h2
 cases o with
 | lst ys=>obtain⟨d,e,q⟩:=this;exact⟨d,by rw[jZ<|kg e hp];exact e,q.ext ex⟩
 | dct _|qv _|uY _|u0 _=>obtain⟨d,e,q⟩:=this;exact⟨d,by rw[jZ<|kg e hp];exact e,q.ext ex⟩
 | dcf _=>obtain⟨f,d,e,q⟩:=this;exact⟨f,d,by rw[jZ<|kg e hp];exact e,q.ext ex⟩
 | ins _ _=>obtain⟨f,g,e⟩:=this;exact⟨f,g,by rw[jZ<|kg e hp];exact e⟩
def Rel.put{S:jV}{n:Nat}{a:ak}(R:Rel K ρ H S)(ha:ρ[n]?=some a)(hS:S[n]?=some (.lst xs))(r:AVs K ρ H ys ws):Ext ρ ρ H (upd H a<|.lst ws)/\Rel K ρ (upd H a<|.lst ws) (S.set n<|.lst ys):=by
 obtain⟨t,e,_⟩:=R.at n a _ ha hS;have ex:Ext ρ ρ H (upd H a<|.lst ws):=⟨⟨dO _,λb u i h=>by
  have:b≠a:=by
   intro z;subst z;rw[e]at h;cases h;exact i
  rw[jZ this];exact h⟩,λb u h n=>by
  rw[jZ λz=>n<|by rw[z];exact aZ ha];exact h,λ_ h=>.inl h⟩
 refine⟨ex,by rw[bX];exact R.len,R.nd,λm b o h1 h2=>?_⟩;by_cases j:m=n
 ·subst j;rw[ha]at h1;cases h1;rw[bA (aJ.mp hS).1]at h2
  cases h2
  exact⟨ws,kK,r.ext ex⟩
 ·rw[bJ<|cO j]at h2;have nb:b≠a:=λz=>by
   subst z;obtain⟨p,e1⟩:=aJ.mp ha;obtain⟨B,e2⟩:=aJ.mp h1;exact j<|(cG R.nd).mp<|e2.trans e1.symm
  have:=R.at m b o h1 h2
  cases o with
  | lst ys=>obtain⟨d,f,q⟩:=this;exact⟨d,by rw[jZ nb];exact f,q.ext ex⟩
  | dct _|qv _|uY _|u0 _=>obtain⟨d,f,q⟩:=this;exact⟨d,by rw[jZ nb];exact f,q.ext ex⟩
  | dcf _=>obtain⟨g,d,f,q⟩:=this;exact⟨g,d,by rw[jZ nb];exact f,q.ext ex⟩
  | ins _ _=>obtain⟨g,k,f⟩:=this;exact⟨g,k,by rw[jZ nb];exact f⟩
def Rel.lst{n:Nat}{a:ak}(R:Rel K ρ H S)(ha:ρ[n]?=some a)(hS:S[n]?=some (.lst xs)):∃vs,H a=some (.lst vs)/\AVs K ρ H xs vs:=R.at n a _ ha hS
structure SR (K:au)(ρ:bb)(H:Hp)(τ:ae)(σ:St):Prop where
 len:τ.length=σ.length
 «at»:∀(i:Nat) (a:A),τ[i]?=some a->a=.unb\/∃v,σ[i]?=some (some v)/\AV K ρ H a v
def SR.mJ(s:SR K ρ H τ σ)(e:Ext0 ρ ρ' H H'):SR K ρ' H' τ σ:=⟨s.len,λi a h=>by
 rcases s.at i a h with z|⟨v,h1,h2⟩
 ·exact .inl z
 ·exact .inr ⟨v,h1,AV.mJ e h2⟩⟩
def SR.ext(s:SR K ρ H τ σ)(e:Ext ρ ρ' H H'):SR K ρ' H' τ σ:=s.mJ e.toExt0
def Rel.out{D:ak}(R:Rel K ρ H S)(hD:H D=some (.lst vs))(hn:D∉ρ):Ext0 ρ ρ H (upd H D<|.lst ws)/\Rel K ρ (upd H D<|.lst ws) S:=by
 have ex:Ext0 ρ ρ H (upd H D<|.lst ws):=⟨dO _,λb u i h=>by
  have:b≠D:=by
   intro z;subst z;rw[hD]at h;cases h;exact i
  rw[jZ this];exact h⟩
 refine⟨ex,R.len,R.nd,λn a o h1 h2=>?_⟩;have na:a≠D:=λz=>hn (by rw[<- z];exact aZ h1);have:=R.at n a o h1 h2
 cases o with
 | lst ys=>obtain⟨d,e,q⟩:=this;exact⟨d,by rw[jZ na];exact e,AVs.mJ ex q⟩
 | dct _|qv _|uY _|u0 _=>obtain⟨d,e,q⟩:=this;exact⟨d,by rw[jZ na];exact e,q.mJ ex⟩
 | dcf _=>obtain⟨f,d,e,q⟩:=this;exact⟨f,d,by rw[jZ na];exact e,q.mJ ex⟩
 | ins _ _=>obtain⟨f,g,e⟩:=this;exact⟨f,g,by rw[jZ na];exact e⟩
def Rel.take{S:jV}{D:ak}(R:Rel K ρ H S)(hD:H D=some (.lst vs))(hn:D∉ρ)(r:AVs K ρ H xs vs):Rel K (ρ++[D]) H (S++[.lst xs])/\(ρ++[D])[S.length]?=some D:=by
 have ex:Ext0 ρ (ρ++[D]) H H:=⟨dG _ _,λ_ _ _ h=>h⟩;have d:(ρ++[D])[S.length]?=some D:=by rw[<- R.len];simp
 refine⟨⟨by simp[R.len],?_,λn a o h1 h2=>?_⟩,d⟩
 ·rw[b_];kln_w;have:b=D:=by simpa using hb
  exact hn<|by rw[<- this,<- e];exact ha
 ·by_cases hs:n<S.length
  ·rw[bu<|by rw[R.len];exact hs]at h1;rw[bu hs]at h2;have:=R.at n a o h1 h2
   cases o with
   | lst ys=>obtain⟨f,e,q⟩:=this;exact⟨f,e,AVs.mJ ex q⟩
   | dct _|qv _|uY _|u0 _=>obtain⟨f,e,q⟩:=this;exact⟨f,e,q.mJ ex⟩
   | dcf _=>obtain⟨g,f,e,q⟩:=this;exact⟨g,f,e,q.mJ ex⟩
   | ins _ _=>obtain⟨g,j,e⟩:=this;exact⟨g,j,e⟩
  ·have e:n=S.length:=by
    have:=(aJ.mp h2).1;simp at this
    lia
   subst e;rw[d]at h1
   cases h1
   simp at h2;subst h2;exact⟨vs,hD,AVs.mJ ex r⟩
def SR.set{τ:ae}{σ:St}{a:A}{v:V}(s:SR K ρ H τ σ)(h:AV K ρ H a v):SR K ρ H (τ.set i a) (σ.set i<|some v):=by
 refine⟨by simp[s.len],λj b e=>?_⟩;by_cases d:j=i
 ·subst d;have f:j<τ.length:=by
   have:=(aJ.mp e).1;simpa using this
  rw[bA f]at e
  cases e
  exact .inr ⟨v,bA<|by rw[<- s.len];exact f,h⟩
 ·rw[bJ<|cO d]at e;rw[bJ<|cO d];exact s.at j b e
end
end Am
namespace Am
open PySem PySem.Spec PyProof.Rows L2
abbrev XE (X:Cx)(ρ:bb)(H:Hp):Str->jV->Prop:=λc d=>∀(C:ak) (ρ':bb) (H':Hp),ClN X.K c C->Ext ρ ρ' H H'->Rel X.K ρ' H' d->EX X (.ref C) none H'
def XE.ext{X:Cx}{H H':Hp}{c:Str}(h:XE X ρ H c S)(e:Ext ρ ρ' H H'):XE X ρ' H' c S:=λC ρ2 H2 n e2=>h C ρ2 H2 n<|e.trans e2
abbrev zN (X:Cx)(ρ:bb)(H:Hp)(Q:VK):A->jV->Prop:=λa d=>∀ρ' H' v,Ext ρ ρ' H H'->Rel X.K ρ' H' d->AV X.K ρ' H' a v->Q v H'
abbrev okB (X:Cx)(ρ:bb)(H:Hp)(Q:Bool->Hp->Prop):Bool->jV->Prop:=λb d=>∀ρ' H',Ext ρ ρ' H H'->Rel X.K ρ' H' d->Q b H'
abbrev okL (X:Cx)(ρ:bb)(H:Hp)(Q:List V->Hp->Prop):ae->jV->Prop:=λas f=>∀ρ' H' d,Ext ρ ρ' H H'->Rel X.K ρ' H' f->AVs X.K ρ' H' as d->Q d H'
def zN.ext{X:Cx}{H H':Hp}{Q:VK}{a:A}(h:zN X ρ H Q a S)(e:Ext ρ ρ' H H'):zN X ρ' H' Q a S:=λρ2 H2 v e2=>h ρ2 H2 v<|e.trans e2
def okB.ext{X:Cx}{H H':Hp}{Q:Bool->Hp->Prop}{a:Bool}(h:okB X ρ H Q a S)(e:Ext ρ ρ' H H'):okB X ρ' H' Q a S:=λρ2 H2 e2=>h ρ2 H2<|e.trans e2
def jX{α:Type}{X:Cx}{H H':Hp}{r:R α}{P P':α->jV->Prop}(h:r.post P<|XE X ρ H)(e:Ext ρ ρ' H H')(hp:∀a S,P a S->P' a S):r.post P' (XE X ρ' H'):=MJ h hp λ_ _ z=>z.ext e
abbrev tE (X:Cx)(c:Ex):TE:=λσ H Q=>∃ρ S τ,Rel X.K ρ H S/\SR X.K ρ H τ σ/\(c τ S).post (zN X ρ H Q) (XE X ρ H)
abbrev tT (X:Cx)(c:Te):TT:=λσ H Q=>∃ρ S τ,Rel X.K ρ H S/\SR X.K ρ H τ σ/\(c τ S).post (okB X ρ H Q) (XE X ρ H)
abbrev tL (X:Cx)(c:q_):TA:=λσ H Q=>∃ρ S τ,Rel X.K ρ H S/\SR X.K ρ H τ σ/\(c τ S).post (okL X ρ H Q) (XE X ρ H)
abbrev AE (X:Cx)(e:aE)(c:Ex):Prop:=PE X e<|tE X c
abbrev AT (X:Cx)(e:aE)(c:Te):Prop:=PT X e<|tT X c
abbrev AW (X:Cx)(e:aE)(c:Te):Prop:=PW X e<|tT X c
abbrev AL (X:Cx)(es:List aE)(c:q_):Prop:=PA X es<|tL X c
def PE.imp{X:Cx}{e:aE}{t t':TE}(h:PE X e t)(i:∀σ H Q,t' σ H Q->t σ H Q):PE X e t':=λpins s σ H Q I q=>h pins s σ H Q I<|i σ H Q q
def PT.imp{X:Cx}{e:aE}{t t':TT}(h:PT X e t)(i:∀σ H Q,t' σ H Q->t σ H Q):PT X e t':=λpins s σ H Q I q=>h pins s σ H Q I<|i σ H Q q
def PW.imp{X:Cx}{e:aE}{t t':TT}(h:PW X e t)(i:∀σ H Q,t' σ H Q->t σ H Q):PW X e t':=λw pins s σ H Q I q=>h w pins s σ H Q I<|i σ H Q q
def PA.imp{X:Cx}{e:List aE}{t t':TA}(h:PA X e t)(i:∀σ H Q,t' σ H Q->t σ H Q):PA X e t':=λp pins s σ H Q I q=>h p pins s σ H Q I<|i σ H Q q
def AW.at{X:Cx}{e:aE}{c:Te}(h:AW X e c):AT X e c:=h _
abbrev A.pL:A->Bool
 | .unb=>true
 | _=>false
abbrev jR (i:Nat):Ex:=λτ S=>if (τ.getD i .unb).pL then .no else .ok (τ.getD i .unb) S
abbrev eC (a:A):Ex:=λ_ S=>.ok a S
section
variable {X:Cx}{pos:Pos}{a b:aE}
def jQ(i:Nat){x:Str}(hN:X.N[i]?=some x<|>ε)(hv:Vis X.env.scope x:=by first|exact Or.inl rfl|exact Or.inr (Or.inl rfl)|exact Or.inr<|Or.inr rfl)(hd:(x == ("__debug__" : Str))=false:=by decide)
  (hcd:(x == ("__classdict__" : Str))=false:=by decide):AE X (.Name x pos) (jR i):=PE.imp (QM hN hv hd hcd) λσ H Q h9=>by
 z_go;unfold jR at h
 cases d:τ[i]? with
 | none=>
  rw[aK,d]at h;exact h.elim
 | some x=>
  rw[aK,d]at h
  rcases r.at i x d with z|⟨v,e,q⟩
  ·subst z;exact h.elim
  ·refine⟨v,e,?_⟩
   cases x<;>first|(exact h ρ H v .refl R q)|exact h.elim
def j7{i:Int}{j pos}:AE X (.Constant (.int i) j pos) (eC<|.int i):=PE.imp Z0 λσ H Q ⟨ρ,S,τ,R,r,h⟩=>h ρ H _ .refl R<|.int i
def EO{j pos}:AE X (.Constant (.bool i) j pos) (eC<|.bl i):=PE.imp abm λσ H Q ⟨ρ,S,τ,R,r,h⟩=>h ρ H _ .refl R<|.bl i
def Pc{j pos}:AE X (.Constant .none j pos) (eC .non):=PE.imp W2 λσ H Q ⟨ρ,S,τ,R,r,h⟩=>h ρ H _ .refl R .non
def Ot{x:Str}{i:Int}{t:Tok}(hm:X.mg x=some (.int i t))(hg:Gl X x<|>ε)(hd:(x == ("__debug__" : Str))=false<|>δ):AE X (.Name x pos) (eC<|.int i):=
 PE.imp (Li (v:=.int i) hg hm ⟨t,rfl⟩ hd) λσ H Q ⟨ρ,S,τ,R,r,h⟩=>h ρ H _ .refl R<|.int i
abbrev j6 (f:A->A->jV->R A)(ca cb:Ex):Ex:=λτ S=>(ca τ S).bind λa S1=>(cb τ S1).bind λb S2=>f a b S2
abbrev r2 (X:Cx)(f:A->A->jV->R A):R2:=λx y H Q=>∃ρ S a b,Rel X.K ρ H S/\AV X.K ρ H a x/\AV X.K ρ H b y/\(f a b S).post (zN X ρ H Q) (XE X ρ H)
abbrev r1 (X:Cx)(f:A->jV->R A):V->Hp->VK->Prop:=λx H Q=>∃ρ S a,Rel X.K ρ H S/\AV X.K ρ H a x/\(f a S).post (zN X ρ H Q) (XE X ρ H)
abbrev rN (X:Cx)(f:ae->jV->R A):List V->Hp->VK->Prop:=λxs H Q=>∃ρ S as,Rel X.K ρ H S/\AVs X.K ρ H as xs/\(f as S).post (zN X ρ H Q) (XE X ρ H)
def oR.imp{f:af->af->Sem af}{r r':R2}(h:oR X f r)(i:∀x y H Q,r' x y H Q->r x y H Q):oR X f r':=λpins s σ H x y v u Q I rx ry q=>h pins s σ H x y v u Q I rx ry<|i _ _ _ _ q
def kM.imp{f:af}{r r':List V->Hp->VK->Prop}(h:kM X f r)(i:∀x H Q,r' x H Q->r x H Q):kM X f r':=λpins s σ H x v Q I rx q=>h pins s σ H x v Q I rx<|i _ _ _ q
def uQ{f:A->A->jV->R A}{ca cb:Ex}{H:Hp}{Q:VK}(h:tE X (j6 f ca cb) σ H Q):tOp (r2 X f) (tE X ca) (tE X cb) σ H Q:=by
 f_are;refine⟨ρ,S,τ,R,r,jX (j5 h) .refl λa S1 h1 ρ1 H1 x e1 R1 v1=>⟨ρ1,S1,τ,R1,r.ext e1,jX (j5 h1) e1 λb S2 h2 ρ2 H2 y e2 R2 v2=>?_⟩⟩;exact⟨ρ2,S2,a,b,R2,v1.ext e2,v2,jX h2 (e1.trans e2) λc S3 h3=>h3.ext<|e1.trans e2⟩
def ku{f:A->A->jV->R A}{ca cb:Ex}(ho:oR X (binaryOp op)<|r2 X f)(ha:AE X a ca)(hb:AE X b cb):AE X (.BinOp a op b pos) (j6 f ca cb):=
 PE.imp (abz ho ha hb) λσ H Q h=>uQ h
def QB{op:CmpOp}{f:A->A->jV->R A}{ca cb:Ex}(ho:oR X (compareOp op)<|r2 X f)(ha:AE X a ca)(hb:AE X b cb)(hm:behindInMarks op b=false:=by first|exact Ru _|with_unfolding_all rfl):AE X (.Compare a [op] [b] pos) (j6 f ca cb):=
 PE.imp (TY ho ha hb hm) λσ H Q h=>uQ h
abbrev A.WH:A->jV->bi
 | .non,_=>some false
 | .bl b,_=>some b
 | .int i,_=>some (i != 0)
 | .str x,_=>if x.length<=sizeLine then some ((x.length:Int) != 0)else none
 | .tup xs,_=>some (!xs.isEmpty)
 | .frz xs,_=>some (!xs.isEmpty)
 | .ref n,S=>(jT S n).map λxs=>!xs.isEmpty
 | _,_=>none
abbrev rO (c:Ex):Te:=λτ S=>(c τ S).bind λa S1=>opt (a.WH S1) λb=>.ok b S1
abbrev sG (c:Ex):Te:=λτ S=>(c τ S).bind λa S1=>match a with
 | .bl b=>.ok b S1
 | _=>.no
def E1{K:au}{H:Hp}{b:Bool}{v:V}(h:AV K ρ H (.bl b) v):v=.bl b:=by cases h;rfl
def lV{op:CmpOp}{f:A->A->jV->R A}{ca cb:Ex}(ho:oR X (compareOp op)<|r2 X f)(ha:AE X a ca)(hb:AE X b cb)(hm:behindInMarks op b=false:=by first|exact Ru _|with_unfolding_all rfl):AT X (.Compare a [op] [b] pos) (sG<|j6 f ca cb):=
 PT.imp (Ue ho ha hb hm) λσ H Q h9=>by
  z_go;refine uQ ⟨ρ,S,τ,R,r,jX (j5 h) .refl λc S1 h1 ρ1 H1 x e1 R1 v1=>?_⟩
  cases c with
  | bl k=>cases E1 v1;exact⟨k,rfl,h1 ρ1 H1 e1 R1⟩
  | _=>exact h1.elim
def X_{K:au}{H:Hp}{x:A}{v:V}{b:Bool}(R:Rel K ρ H S)(h:AV K ρ H x v)(e:x.WH S=some b):Z1 K v H b:=by
 have d:∀{xs:ae} {f:List V},AVs K ρ H xs f->(!xs.isEmpty)=!f.isEmpty:=λr=>by cases r<;>rfl
 cases h with
 | non=>exact(bg e).symm
 | bl b=>exact(bg e).symm
 | int i=>exact(bg e).symm
 | str x=>
  by_cases g:x.length<=sizeLine
  ·exact⟨g,by have:=(aW g).symm.trans e;exact(bg this).symm⟩
  ·have:=(aV g).symm.trans e;cases this
 | tup h r=>exact .inr (.inl ⟨_,nh.of h,by rw[<- d r];exact(bg e).symm⟩)
 | frz h r=>exact .inl ⟨_,h.SI,by rw[<- d r];exact(bg e).symm⟩
 | rng h=>cases e
 | ty n=>cases e
 | exn n h x=>cases e
 | ktu h r=>cases e
 | @ref a n h=>
  have e:(jT S n).map (λxs=>!xs.isEmpty)=some b:=e;obtain⟨xs,hn,e⟩:=aP.mp e;obtain⟨f,h1,h2⟩:=R.lst h<|j8 hn;exact .inl ⟨f,oS.of h1,by rw[<- d h2];exact e.symm⟩
def p7{ca:Ex}(ha:AE X a ca)(he:(∀whole,isTrue a X.env whole=(do let v <- whole;standAt a.pos;holding [v] (truthy v)))<|>ζ):AT X a (rO ca):=
 PT.imp (QH ha he) λσ H Q ⟨ρ,S,τ,R,r,h⟩=>⟨ρ,S,τ,R,r,jX (j5 h) .refl λc S1 h1 ρ1 H1 x e1 R1 v1=>by
  obtain⟨b,hb,h1⟩:=jY h1;exact⟨b,X_ R1 v1 hb,h1 ρ1 H1 e1 R1⟩⟩
abbrev BC (c:Te):Te:=λτ S=>(c τ S).bind λb S1=>.ok (!b) S1
abbrev An (c d:Te):Te:=λτ S=>(c τ S).bind λb S1=>match b with|true=>d τ S1|false=>.ok false S1
abbrev Zz (c d:Te):Te:=λτ S=>(c τ S).bind λb S1=>match b with|true=>.ok true S1|false=>d τ S1
def yW{c:Te}(h:AT X a c):AT X (.UnaryOp .Not a pos) (BC c):=PT.imp (Yy h) λσ H Q ⟨ρ,S,τ,R,r,h⟩=>⟨ρ,S,τ,R,r,jX (j5 h) .refl λb S1 h1=>h1⟩
def and_imp{c d:Te}{H:Hp}{Q:Bool->Hp->Prop}(h:tT X (An c d) σ H Q):aaT (tT X c) (tT X d) σ H Q:=by
 f_are;refine⟨ρ,S,τ,R,r,jX (j5 h) .refl λb S1 h1 ρ1 H1 e1 R1=>?_⟩
 cases b with
 | true=>
  rw[aW rfl];exact⟨ρ1,S1,τ,R1,r.ext e1,jX h1 e1 λ_ _ z=>z.ext e1⟩
 | false=>
  rw[aV bw];exact h1 ρ1 H1 e1 R1
def or_imp{c d:Te}{H:Hp}{Q:Bool->Hp->Prop}(h:tT X (Zz c d) σ H Q):tOr (tT X c) (tT X d) σ H Q:=by
 f_are;refine⟨ρ,S,τ,R,r,jX (j5 h) .refl λb S1 h1 ρ1 H1 e1 R1=>?_⟩
 cases b with
 | false=>
  rw[aV bw];exact⟨ρ1,S1,τ,R1,r.ext e1,jX h1 e1 λ_ _ z=>z.ext e1⟩
 | true=>
  rw[aW rfl];exact h1 ρ1 H1 e1 R1
variable {rest:List aE}
def Ef{c:Te}(h:AT X a c):AW X (.BoolOp .And [a] pos) c:=Vk h
def N6{c:Te}(h:AT X a c):AW X (.BoolOp .Or [a] pos) c:=YX h
def Hx{c d:Te}(h:AT X a c)(h2:AW X (.BoolOp .And (b::rest) pos) d):AW X (.BoolOp .And (a::b::rest) pos) (An c d):=PW.imp (YL h h2) λ_ _ _ q=>and_imp q
def IF{c d:Te}(h:AT X a c)(h2:AW X (.BoolOp .Or (b::rest) pos) d):AW X (.BoolOp .Or (a::b::rest) pos) (Zz c d):=PW.imp (aaE h h2) λ_ _ _ q=>or_imp q
abbrev QW (c d:Ex):Ex:=λτ S=>(c τ S).bind λa S1=>match a with | .bl true=>d τ S1 | .bl false=>.ok (.bl false) S1|_=>.no
abbrev eOr (c d:Ex):Ex:=λτ S=>(c τ S).bind λa S1=>match a with | .bl true=>.ok (.bl true) S1 | .bl false=>d τ S1|_=>.no
abbrev Z4 (c:Ex):Ex:=λτ S=>(c τ S).bind λa S1=>match a with | .bl b=>.ok (.bl !b) S1|_=>.no
def Nq{op}{c:Ex}(h:AE X a c):AE X (.BoolOp op [a] pos) c:=Z5 h
def Qc{c d:Ex}(h:AE X a c)(h2:AE X (.BoolOp .And (b::rest) pos) d):AE X (.BoolOp .And (a::b::rest) pos) (QW c d):=PE.imp (Yg h h2) λσ H Q h9=>by
 z_go;refine⟨ρ,S,τ,R,r,jX (j5 h) .refl λb S1 h1 ρ1 H1 x e1 R1 v1=>?_⟩
 cases b with
 | bl k=>
  cases E1 v1
  refine⟨k,rfl,?_⟩
  cases k with
  | true=>
   rw[aW rfl];exact⟨ρ1,S1,τ,R1,r.ext e1,jX h1 e1 λ_ _ z=>z.ext e1⟩
  | false=>
   rw[aV bw];exact h1 ρ1 H1 _ e1 R1<|.bl false
 | _=>exact h1.elim
def ZP{c:Ex}(h:AE X a c):AE X (.UnaryOp .Not a pos) (Z4 c):=PE.imp (XM h) λσ H Q h9=>by
 z_go;refine⟨ρ,S,τ,R,r,jX (j5 h) .refl λb S1 h1 ρ1 H1 x e1 R1 v1=>?_⟩
 cases b with
 | bl k=>
  cases E1 v1
  exact⟨k,rfl,h1 ρ1 H1 _ e1 R1<|.bl _⟩
 | _=>exact h1.elim
abbrev eIf (t:Te)(c d:Ex):Ex:=λτ S=>(t τ S).bind λb S1=>match b with|true=>c τ S1|false=>d τ S1
abbrev j0:q_:=λ_ S=>.ok [] S
abbrev jS (c:Ex)(d:q_):q_:=λτ S=>(c τ S).bind λa S1=>(d τ S1).bind λas S2=>.ok (a::as) S2
def j3:AL X [] j0:=PA.imp Bs λσ H Q ⟨ρ,S,τ,R,r,h⟩=>h ρ H _ .refl R .nil
def jU{e:aE}{c:Ex}{d:q_}(ha:AE X e c)(hr:AL X es d)(hs:starEach (e::es) X.env=(false,eval e X.env)::starEach es X.env<|>ε):AL X (e::es) (jS c d):=
 PA.imp (vV ha hr hs) λσ H Q h9=>by
  z_go;refine⟨ρ,S,τ,R,r,jX (j5 h) .refl λa S1 h1 ρ1 H1 x e1 R1 v1=>⟨ρ1,S1,τ,R1,r.ext e1,jX (j5 h1) e1 λas S2 h2 ρ2 H2 xs e2 R2 v2=>?_⟩⟩;exact h2 ρ2 H2 _ (e1.trans e2) R2<|.cons (v1.ext e2) v2
abbrev pK (d:q_):Ex:=λτ S=>(d τ S).bind λas S1=>gd (as.length<=sizeLine)<|.ok (.tup as) S1
abbrev newL (as:ae)(S:jV):R A:=gd (as.length<=sizeLine)<|.ok (.ref S.length)<|S++[.lst as]
abbrev qJ (d:q_):Ex:=λτ S=>(d τ S).bind λas S1=>newL as S1
def xV{H H0:Hp}{Q:VK}(R:Rel X.K ρ H S)(r:AVs X.K ρ H as vs)(e:Ext ρ0 ρ H0 H)(h:zN X ρ0 H0 Q (.tup as) S):∀p,H p=none->Q (.ref p) (upd H p<|.tup vs):=λp d=>by
 obtain⟨ex,f⟩:=R.im (u:=.tup vs) d;exact h ρ _ _ (e.trans ex) f<|.tup kK<|r.ext ex
def pJ{H H0:Hp}{S:jV}{Q:VK}(R:Rel X.K ρ H S)(r:AVs X.K ρ H as vs)(e:Ext ρ0 ρ H0 H)(h:zN X ρ0 H0 Q (.ref S.length)<|S++[.lst as]):∀p,H p=none->Q (.ref p) (upd H p<|.lst vs):=λp d=>by
 obtain⟨ex,f,g⟩:=R.lay d r;exact h _ _ _ (e.trans ex) f<|.ref g
def Va{H H0:Hp}{vs:List V}{Q:VK}(R:Rel X.K ρ H S)(r:AVs X.K ρ H as vs)(e:Ext ρ0 ρ H0 H)(h:(newL as S).post (zN X ρ0 H0 Q)<|XE X ρ0 H0):vs.length<=sizeLine/\∀p,H p=none->Q (.ref p) (upd H p<|.lst vs):=by
 obtain⟨d,h⟩:=kB h;exact⟨by rw[<- r.length];exact d,pJ R r e h⟩
def oF{d:q_}{x1}(h:AL X es d):AE X (.Tuple es x1 pos) (pK d):=PE.imp (Yh h) λσ H Q h9=>by
 z_go;refine⟨ρ,S,τ,R,r,jX (j5 h) .refl λas S1 h1 ρ1 H1 xs e1 R1 v1=>?_⟩;obtain⟨f,h1⟩:=kB h1;exact⟨by rw[<- v1.length];exact f,xV R1 v1 e1 h1⟩
def mY{d:q_}(h:AL X es d):AE X (.List es pos) (qJ d):=PE.imp (W0 h) λσ H Q ⟨ρ,S,τ,R,r,h⟩=>
 ⟨ρ,S,τ,R,r,jX (j5 h) .refl λas S1 h1 ρ1 H1 xs e1 R1 v1=>Va R1 v1 e1 h1⟩
end
section
variable {X:Cx}{pos:Pos}{a b:aE}
abbrev aSub (a b:A)(S:jV):R A:=match a,b with
 | .int i,.int j=>.ok (.int<|i-j) S
 | _,_=>.no
def zf:oR X (binaryOp .Sub) (r2 X aSub):=oR.imp XJ λx y H Q h9=>by
 x_go
 cases va<;>first|exact h.elim|(cases vb<;>first|exact h.elim|exact⟨_,_,rfl,rfl,h _ _ _ .refl R<|.int _⟩)
abbrev yg (i j:Int):Bool:=(decide (-(2 ^ 64)<i) && decide (i<2 ^ 64)) || (decide (-(2 ^ 64)<j) && decide (j<2 ^ 64))
def mulOk_of{i j:Int}(h:yg i j=true):Vf i j:=by
 unfold yg at h;dsimp[Bool.or_eq_true,dU,iC]at h;exact h
abbrev yC (a b:A)(S:jV):R A:=match a,b with
 | .int i,.int j=>gd (yg i j) (.ok (.int<|i * j) S)
 | .ref n,.int k=>opt (jT S n) λxs=>gd (-(2 ^ 63)<=k/\k<2 ^ 63/\xs.length * k.toNat<=sizeLine) (.ok (.ref S.length)<|S++[.lst (List.replicate k.toNat xs).flatten])
 | _,_=>.no
theorem AVs.rep{K:au}{H:Hp}(r:AVs K ρ H xs vs):∀k:Nat,AVs K ρ H (List.replicate k xs).flatten (List.replicate k vs).flatten
 | 0=>.nil
 | k+1=>by rw[dz,dz,d_,d_];exact r.append<|AVs.rep r k
def Bm:oR X (binaryOp .Mult) (r2 X yC):=λpins s σ H x y v u Q I rx ry h9=>by
 x_go
 cases va with
 | int i=>
  cases vb with
  | int j=>
   obtain⟨f,h⟩:=kB h;exact Zg pins s σ H _ _ v u Q I rx ry ⟨i,j,rfl,rfl,mulOk_of f,h _ _ _ .refl R<|.int _⟩
  | _=>exact h.elim
 | @ref p n d=>
  cases vb with
  | int k=>
   kj_on;obtain⟨hc,h⟩:=kB h;obtain⟨g,h1,h2⟩:=R.lst d<|j8 hn;exact Y6 pins s σ H _ _ v u Q I rx ry ⟨p,k,g,rfl,rfl,h1,hc.1,hc.2.1,by rw[<- h2.length];exact hc.2.2,pJ R (h2.rep _) .refl h⟩
  | _=>exact h.elim
 | _=>exact h.elim
abbrev z9 (a b:A)(S:jV):R A:=match a,b with
 | .int i,.int j=>gd (0<j/\j<18446744073709551616) (.ok (.int<|i / j) S)
 | _,_=>.no
def CT:oR X (binaryOp .FloorDiv) (r2 X z9):=oR.imp OA λx y H Q h9=>by
 x_go
 cases va<;>first|exact h.elim|(cases vb<;>first|exact h.elim|exact⟨_,_,rfl,rfl,(kB h).1,(kB h).2 _ _ _ .refl R<|.int _⟩)
abbrev Dw (a b:A)(S:jV):R A:=match a,b with
 | .int i,.int j=>gd (0<j) (.ok (.int<|i % j) S)
 | _,_=>.no
def Cd:oR X (binaryOp .Mod) (r2 X Dw):=oR.imp YQ λx y H Q h9=>by
 x_go
 cases va<;>first|exact h.elim|(cases vb<;>first|exact h.elim|exact⟨_,_,rfl,rfl,(kB h).1,(kB h).2 _ _ _ .refl R<|.int _⟩)
abbrev Ys (a b:A)(S:jV):R A:=match a,b with
 | .int i,.int j=>gd (0<=j/\j<=1000000/\i.natAbs<2 ^ 64) (.ok (.int<|i ^ j.toNat) S)
 | _,_=>.no
def aaR:oR X (binaryOp .Pow) (r2 X Ys):=oR.imp Zd λx y H Q h9=>by
 x_go
 cases va<;>first|exact h.elim|(cases vb<;>first|exact h.elim|exact⟨_,_,rfl,rfl,(kB h).1,(kB h).2 _ _ _ .refl R<|.int _⟩)
abbrev nB (a b:A)(S:jV):R A:=match a,b with
 | .int i,.int j=>.ok (.int<|i+j) S
 | .tup xs,.tup ys=>gd (xs.length+ys.length<=sizeLine) (.ok (.tup<|xs++ys) S)
 | .str x,.str y=>gd (x.length+y.length<=sizeLine) (.ok (.str<|x++y) S)
 | .ref n,.ref m=>opt (jT S n) λxs=>opt (jT S m) λys=>gd (xs.length+ys.length<=sizeLine) (.ok (.ref S.length)<|S++[.lst<|xs++ys])
 | _,_=>.no
def AVs.nil_inv{K:au}{H:Hp}(r:AVs K ρ H xs vs):xs=[] ↔ vs=[]:=by cases r<;>simp
def oN:oR X (binaryOp .Add) (r2 X nB):=λpins s σ H x y v u Q I rx ry h9=>by
 x_go
 cases va with
 | int i=>
  cases vb with
  | int j=>exact YV pins s σ H _ _ v u Q I rx ry ⟨i,j,rfl,rfl,h _ _ _ .refl R<|.int _⟩
  | _=>exact h.elim
 | str x=>
  cases vb with
  | str y=>
   obtain⟨hc,h⟩:=kB h;exact Ih pins s σ H _ _ v u Q I rx ry ⟨x,y,rfl,rfl,hc,h _ _ _ .refl R<|.str _⟩
  | _=>exact h.elim
 | @tup p xs f h1 r1=>
  cases vb with
  | @tup q ys d h2 r2=>
   obtain⟨hc,h⟩:=kB h;by_cases hv:f=[]
   ·have k:=r1.nil_inv.mpr hv;subst hv k;exact Rb pins s σ H _ _ v u Q I rx ry ⟨p,q,d,rfl,rfl,nh.of h1,nh.of h2,h _ _ _ .refl R<|.tup h2 r2⟩
   ·refine TZ pins s σ H _ _ v u Q I rx ry ⟨p,q,f,d,rfl,rfl,nh.of h1,nh.of h2,hv,by rw[<- r1.length,<- r2.length];exact hc,λe=>?_,λ_=>xV R (r1.append r2) .refl h⟩;have hy:=r2.nil_inv.mpr e;subst hy;rw[cu]at h;exact h _ _ _ .refl R<|.tup h1 r1
  | _=>exact h.elim
 | @ref p n t=>
  cases vb with
  | @ref q m hq=>
   kj_on;obtain⟨ys,B,h⟩:=jY h;obtain⟨hc,h⟩:=kB h;obtain⟨f,h1,h2⟩:=R.lst t<|j8 hn;obtain⟨d,h3,g⟩:=R.lst hq<|j8 B;exact Xe pins s σ H _ _ v u Q I rx ry ⟨p,q,f,d,rfl,rfl,h1,h3,by rw[<- h2.length,<- g.length];exact hc,pJ R (h2.append g) .refl h⟩
  | _=>exact h.elim
 | _=>exact h.elim
abbrev A.ints:ae->Option (ag)
 | []=>some []
 | .int i::xs=>(A.ints xs).map (i::·)
 | _=>none
def Zi{x:A}{bs:ag}(e:A.ints (x::xs)=some bs):∃b cs,x=.int b/\A.ints xs=some cs/\bs=b::cs:=by
 unfold A.ints at e;split at e
 ·rename_i z;cases z
 ·rename_i i ys z
  cases z
  obtain⟨cs,h1,h2⟩:=aP.mp e;exact⟨i,cs,rfl,h1,h2.symm⟩
 ·cases e
def qX{K:au}{H:Hp}:∀{xs:ae}{vs:List V}{bs:ag},AVs K ρ H xs vs->A.ints xs=some bs->vs=bs.map V.int:=by
 intro xs
 induction xs with
 | nil=>
  intro vs bs h e
  cases h
  cases e
  rfl
 | cons x xs d=>
  intro vs bs h e;obtain⟨b,f,rfl,e1,rfl⟩:=Zi e
  cases h with
  | cons h t=>
   cases h
   rw[d t e1];rfl
abbrev Zr (a b:A)(S:jV):R A:=match a,b with
 | .int i,.int j=>.ok (.bl<|decide<|i<j) S
 | _,_=>.no
def VJ(hu:X.A.units+64<cLine):oR X (compareOp .Lt) (r2 X Zr):=λpins s σ H x y v u Q I rx ry h9=>by
 x_go
 cases va with
 | int i=>
  cases vb with
  | int j=>exact abq pins s σ H _ _ v u Q I rx ry ⟨i,j,rfl,rfl,h _ _ _ .refl R<|.bl _⟩
  | _=>exact h.elim
 | _=>exact h.elim
abbrev aLe (a b:A)(S:jV):R A:=match a,b with
 | .int i,.int j=>.ok (.bl<|decide<|i<=j) S
 | _,_=>.no
def adb:oR X (compareOp .LtE) (r2 X aLe):=oR.imp aaz λx y H Q h9=>by
 x_go
 cases va<;>first|exact h.elim|(cases vb<;>first|exact h.elim|exact⟨_,_,rfl,rfl,h _ _ _ .refl R<|.bl _⟩)
abbrev MW (a b:A)(S:jV):R A:=match a,b with
 | .int i,.int j=>.ok (.bl<|decide<|j<i) S
 | _,_=>.no
def Qu(hu:X.A.units+64<cLine):oR X (compareOp .Gt) (r2 X MW):=λpins s σ H x y v u Q I rx ry h9=>by
 x_go
 cases va with
 | int i=>
  cases vb with
  | int j=>exact aax pins s σ H _ _ v u Q I rx ry ⟨i,j,rfl,rfl,h _ _ _ .refl R<|.bl _⟩
  | _=>exact h.elim
 | _=>exact h.elim
abbrev aGe (a b:A)(S:jV):R A:=match a,b with
 | .int i,.int j=>.ok (.bl<|decide<|j<=i) S
 | _,_=>.no
def acL:oR X (compareOp .GtE) (r2 X aGe):=oR.imp abZ λx y H Q h9=>by
 x_go
 cases va<;>first|exact h.elim|(cases vb<;>first|exact h.elim|exact⟨_,_,rfl,rfl,h _ _ _ .refl R<|.bl _⟩)
abbrev HL (neg:Bool)(a b:A)(S:jV):R A:=match a,b with
 | .bl i,.bl j=>.ok (.bl<|if neg then i != j else i == j) S
 | .non,.non=>.ok (.bl<|!neg) S
 | .unb,.non=>.no
 | .exn _,.non=>.no
 | _,.non=>.ok (.bl neg) S
 | _,_=>.no
def Xs{n:Bool}{a b:A}(h1:b≠.non)(h2:∀j,b≠.bl j):HL n a b S=.no:=by
 unfold HL;split<;>first|rfl|exact absurd rfl h1|exact absurd rfl<|h2 _
def Xv{n:Bool}{a b:A}{F:A->jV->Prop}{G:Str->jV->Prop}(h:(HL n a b S).post F G)(h1:b≠.non)(h2:∀j,b≠.bl j):False:=by
 rw[Xs h1 h2]at h;exact h
def SW:oR X (compareOp .IsNot) (r2 X<|HL true):=λpins s σ H x y v u Q I rx ry h9=>by
 x_go
 cases vb with
 | non=>
  refine UG pins s σ H _ _ v u Q I rx ry ⟨rfl,?_⟩
  cases va<;>first|exact h _ _ _ .refl R (.bl _)|exact h.elim
 | bl j=>
  cases va with
  | bl i=>exact LD pins s σ H _ _ v u Q I rx ry ⟨i,j,rfl,rfl,h _ _ _ .refl R<|.bl _⟩
  | _=>exact h.elim
 | _=>
  exact(Xv h (λz=>nomatch z) nofun).elim
abbrev eUn (f:A->jV->R A)(c:Ex):Ex:=λτ S=>(c τ S).bind λa S1=>f a S1
abbrev N4 (a:A)(S:jV):R A:=match a with
 | .int i=>.ok (.int<|-i) S
 | _=>.no
def aaP:UnR X (unaryOp .USub) (r1 X N4):=λpins s σ H x v Q I rx h9=>by
 obtain⟨ρ,S,a,R,va,h⟩:=h9
 cases va with
 | int i=>exact W6 pins s σ H _ v Q I rx ⟨i,rfl,h _ _ _ .refl R<|.int _⟩
 | _=>exact h.elim
def Yr{f:A->jV->R A}{c:Ex}{H:Hp}{Q:VK}(h:tE X (eUn f c) σ H Q):tUn (r1 X f) (tE X c) σ H Q:=by
 f_are;exact⟨ρ,S,τ,R,r,jX (j5 h) .refl λa S1 h1 ρ1 H1 x e1 R1 v1=>⟨ρ1,S1,a,R1,v1,jX h1 e1 λc S3 h3=>h3.ext e1⟩⟩
def YT{c:Ex}(h:AE X a c):AE X (.UnaryOp .USub a pos) (eUn N4 c):=PE.imp (abR aaP h) λ_ _ _ q=>Yr q
abbrev pP (a b:A)(S:jV):R A:=match a,b with
 | .tup xs,.int i=>opt (uZ xs i) λx=>.ok x S
 | .frz xs,.int i=>opt (uZ xs i) λx=>.ok x S
 | .ref n,.int i=>opt (jT S n) λxs=>opt (uZ xs i) λx=>.ok x S
 | .str z,.int i=>gd (z.length<=sizeLine) (opt (uZ z.cps.toList i) λc=>.ok (.str ⟨#[c]⟩) S)
 | _,_=>.no
def AVs.uZ{K:au}{H:Hp}{i:Int}{x:A}(r:AVs K ρ H xs vs)(h:L2.uZ xs i=some x):∃v,L2.uZ vs i=some v/\AV K ρ H x v:=by
 unfold L2.uZ at h ⊢;rw[<- r.length]
 cases d:EB xs.length i with
 | none=>rw[d]at h;cases h
 | some j=>
  rw[d]at h;exact r.get h
def aaD:UA X (r2 X pP):=λd f pins s σ H x y v u Q I rx ry ⟨ρ,S,a,b,R,va,vb,h⟩ hs=>by
 cases va with
 | @tup p xs j h1 r1=>
  cases vb with
  | int i=>
   obtain⟨x,g,h⟩:=jY h;obtain⟨z,e,q⟩:=r1.uZ g;exact Zv d f pins s σ H _ _ v u Q I rx ry ⟨p,j,i,z,rfl,rfl,nh.of h1,e,h _ _ _ .refl R q⟩ hs
  | _=>exact h.elim
 | @frz p xs j h1 r1=>
  cases vb with
  | int i=>
   obtain⟨x,g,h⟩:=jY h;obtain⟨z,e,q⟩:=r1.uZ g;exact Lg d f pins s σ H _ _ v u Q I rx ry ⟨p,j,i,z,rfl,rfl,h1.SI,e,h _ _ _ .refl R q⟩ hs
  | _=>exact h.elim
 | @ref p n k=>
  cases vb with
  | int i=>
   kj_on;obtain⟨x,g,h⟩:=jY h;obtain⟨j,h1,r1⟩:=R.lst k<|j8 hn;obtain⟨z,e,q⟩:=r1.uZ g;exact Lg d f pins s σ H _ _ v u Q I rx ry ⟨p,j,i,z,rfl,rfl,oS.of h1,e,h _ _ _ .refl R q⟩ hs
  | _=>exact h.elim
 | str z=>
  cases vb with
  | int i=>
   obtain⟨t,h⟩:=kB h;obtain⟨c,hc,h⟩:=jY h;exact Zk d f pins s σ H _ _ v u Q I rx ry ⟨z,i,c,rfl,rfl,t,hc,h _ _ _ .refl R<|.str _⟩ hs
  | _=>exact h.elim
 | _=>exact h.elim
def mP{ca cb:Ex}(ha:AE X a ca)(hb:AE X b cb)(hs:xN b<|>θ):AE X (.Subscript a b pos) (j6 pP ca cb):=PE.imp (Jj aaD ha hb hs) λσ H Q h=>uQ h
end
abbrev tR (f:A->A->bi):ae->ae->bi
 | [],[]=>some true
 | x::xs,y::ys=>(f x y).bind λp=>(tR f xs ys).map λq=>p && q
 | _,_=>some false
inductive Sh
 | non
 | bl (b:Bool)
 | int (i:Int)
 | str (x:Str)
 | tup (xs:ae)
 | lst
abbrev Y4 (S:jV):A->Option Sh
 | .non=>some .non
 | .bl b=>some (.bl b)
 | .int i=>some (.int i)
 | .str x=>some (.str x)
 | .tup xs=>some (.tup xs)
 | .ref i=>(jT S i).map λ_=>.lst
 | _=>none
abbrev Vi (f:A->A->bi):Sh->Sh->bi
 | .non,.non=>some true
 | .bl x,.bl y=>some (x == y)
 | .bl x,.int y=>some ((if x then 1 else 0) == y)
 | .int x,.bl y=>some (x == (if y then 1 else 0))
 | .int x,.int y=>some (x == y)
 | .str x,.str y=>some (x == y)
 | .tup xs,.tup ys=>tR f xs ys
 | .lst,.lst=>none
 | _,_=>some false
abbrev zd (S:jV):Nat->A->A->bi
 | 0,_,_=>none
 | n+1,a,b=>match a,b with
  | .ref i,.ref j=>(jT S i).bind λxs=>(jT S j).bind λys=>tR (zd S n) xs ys
  | _,_=>(Y4 S a).bind λx=>(Y4 S b).bind λy=>Vi (zd S n) x y
section
variable {X:Cx}{pins:bn}{σ:L2.St}{H:Hp}{s:aC}{ρ:bb}{S:jV}
inductive KdV (s:aC):Sh->af->Prop
 | non:KdV s .non .none
 | bl (b:Bool):KdV s (.bl b) (.bool b)
 | int (i:Int) (t:Tok):KdV s (.int i) (.int i t)
 | str (x:Str) (t:Tok):KdV s (.str x) (.str x t)
 | tup {p:ak} {us:ba} (xs:ae) (h:s.heap.IsTuple p us.toArray):KdV s (.tup xs) (.ref p)
 | lst {p:ak} {us:ba} (h:s.heap.IsList p us.toArray):KdV s .lst<|.ref p
def Je{p:ak}(h:s.heap.IsTuple p us)(h':s.heap.IsList p ws):False:=by
 obtain⟨o,e,c,_⟩:=h;obtain⟨o',d,f,_⟩:=h';rw[e]at d
 cases d
 exact absurd (c.symm.trans f) ⋯
def JS(I:Inv X pins σ H s)(R:Rel X.K ρ H S){a:A}{x:V}(ha:AV X.K ρ H a x)(r:RelV x u)(e:Y4 S a=some h):KdV s h u:=by
 cases ha with
 | non=>cases e;cases(show u=Value.none from r);exact .non
 | bl b=>cases e;cases(show u=Value.bool b from r);exact .bl b
 | int i=>cases e;obtain⟨t,rfl⟩:∃t,u=Value.int i t:=r;exact .int i t
 | str i=>cases e;obtain⟨t,rfl⟩:∃t,u=Value.str i t:=r;exact .str i t
 | tup h1 r1=>cases e;cases(show u=Value.ref _ from r);obtain⟨us,_,p,_⟩:=I.tuple<|nh.of h1;exact .tup _ p
 | ref h1=>
  obtain⟨xs,e1,rfl⟩:=aP.mp e
  cases(show u=Value.ref _ from r)
  obtain⟨d,h3,r1⟩:=R.lst h1<|j8 e1;obtain⟨us,_,p,_⟩:=I.list<|oS.of h3;exact .lst p.isList
 | _=>cases e
abbrev Al (B:aA)(s:aC)(u v:af)(k:Bool):Prop:=SeqAt.RcAt B s u v k/\SeqAt.EqAt B s u v k/\SeqAt.RcNeAt B s u v (!k)
def abM{B:aA}(hu:B.units<cLine){f:A->A->bi}{v:af}{k:Bool}(d:KdV s h u)(d':KdV s h' v)(nt:∀xs ys,h=.tup xs->h'≠.tup ys)(e:Vi f h h'=some k):Al B s u v k:=by
 cases d with
 | non=>cases d' with
  | non=>cases e;exact⟨.none_none,.same _,.none_none⟩
  | bl b=>cases e;exact⟨.none_bool _,.none_bool _,.none_bool _⟩
  | int i t=>cases e;exact⟨.none_int _ _,.none_int _ _,.none_int _ _⟩
  | str x t=>cases e;exact⟨.none_str _ _,.none_str _ _,.none_str _ _⟩
  | tup xs p=>cases e;exact⟨.none_tuple p hu,.none_tuple p hu,.none_tuple p hu⟩
  | lst p=>cases e;exact⟨.none_list p hu,.none_list p hu,.none_list p hu⟩
 | bl c=>cases d' with
  | non=>cases e;exact⟨.bool_none _,.bool_none _,.bool_none _⟩
  | bl b=>cases e;exact⟨.bool_bool _ _,.bool_bool _ _,.bool_bool _ _⟩
  | int i t=>cases e;exact⟨.bool_int _ _ _,.bool_int _ _ _,.bool_int _ _ _⟩
  | str x t=>cases e;exact⟨.bool_str _ _ _,.bool_str _ _ _,.bool_str _ _ _⟩
  | tup xs p=>cases e;exact⟨.bool_tuple _ p hu,.bool_tuple _ p hu,.bool_tuple _ p hu⟩
  | lst p=>cases e;exact⟨.bool_list _ p hu,.bool_list _ p hu,.bool_list _ p hu⟩
 | int c j=>cases d' with
  | non=>cases e;exact⟨.int_none _ _,.int_none _ _,.int_none _ _⟩
  | bl b=>cases e;exact⟨.int_bool _ _ _,.int_bool _ _ _,.int_bool _ _ _⟩
  | int i t=>cases e;exact⟨.int_int _ _ _ _,.int_int _ _ _ _,.int_int _ _ _ _⟩
  | str x t=>cases e;exact⟨.int_str _ _ _ _,.int_str _ _ _ _,.int_str _ _ _ _⟩
  | tup xs p=>cases e;exact⟨.int_tuple _ _ p hu,.int_tuple _ _ p hu,.int_tuple _ _ p hu⟩
  | lst p=>cases e;exact⟨.int_list _ _ p hu,.int_list _ _ p hu,.int_list _ _ p hu⟩
 | str c j=>cases d' with
  | non=>cases e;exact⟨.str_none _ _,.str_none _ _,.str_none _ _⟩
  | bl b=>cases e;exact⟨.str_bool _ _ _,.str_bool _ _ _,.str_bool _ _ _⟩
  | int i t=>cases e;exact⟨.str_int _ _ _ _,.str_int _ _ _ _,.str_int _ _ _ _⟩
  | str x t=>cases e;exact⟨.str_str _ _ _ _,.str_str _ _ _ _,.str_str _ _ _ _⟩
  | tup xs p=>cases e;exact⟨.str_tuple _ _ p hu,.str_tuple _ _ p hu,.str_tuple _ _ p hu⟩
  | lst p=>cases e;exact⟨.str_list _ _ p hu,.str_list _ _ p hu,.str_list _ _ p hu⟩
 | tup zs g=>cases d' with
  | non=>cases e;exact⟨.tuple_none g hu,.tuple_none g hu,.tuple_none g hu⟩
  | bl b=>cases e;exact⟨.tuple_bool _ g hu,.tuple_bool _ g hu,.tuple_bool _ g hu⟩
  | int i t=>cases e;exact⟨.tuple_int _ _ g hu,.tuple_int _ _ g hu,.tuple_int _ _ g hu⟩
  | str x t=>cases e;exact⟨.tuple_str _ _ g hu,.tuple_str _ _ g hu,.tuple_str _ _ g hu⟩
  | tup xs p=>exact absurd rfl (nt _ _ rfl)
  | lst p=>cases e;exact⟨.tuple_list g p hu,.of_refs (λz=>by subst z;exact Je g p)<|.tuple_list g p hu,.tuple_list g p hu⟩
 | lst g=>cases d' with
  | non=>cases e;exact⟨.list_none g hu,.list_none g hu,.list_none g hu⟩
  | bl b=>cases e;exact⟨.list_bool _ g hu,.list_bool _ g hu,.list_bool _ g hu⟩
  | int i t=>cases e;exact⟨.list_int _ _ g hu,.list_int _ _ g hu,.list_int _ _ g hu⟩
  | str x t=>cases e;exact⟨.list_str _ _ g hu,.list_str _ _ g hu,.list_str _ _ g hu⟩
  | tup xs p=>cases e;exact⟨.list_tuple g p hu,.of_refs (λz=>by subst z;exact Je p g)<|.list_tuple g p hu,.list_tuple g p hu⟩
  | lst p=>cases e
def CS{a:A}{x:V}(h:AV X.K ρ H a x)(e:Y4 S a=some (.tup xs)):a=.tup xs/\∃p vs,x=.ref p/\H p=some (.tup vs)/\AVs X.K ρ H xs vs:=by
 cases h with
 | tup h r=>cases e;exact⟨rfl,_,_,rfl,h,r⟩
 | ref h=>obtain⟨_,_,z⟩:=aP.mp e;cases z
 | _=>cases e
def DN{i:Nat}{x:V}(h:AV X.K ρ H (.ref i) x):∃p,x=.ref p/\ρ[i]?=some p:=by
 cases h with
 | ref h=>exact⟨_,rfl,h⟩
def R_{a:A}(e:Y4 S a=some .lst):∃i,a=.ref i:=by
 cases a with
 | ref i=>exact⟨i,rfl⟩
 | _=>cases e
def Pg{n:Nat}{a:A}{k:Bool}(e:zd S (n+1) a b=some k):(∃i j xs ys,a=.ref i/\b=.ref j/\jT S i=some xs/\jT S j=some ys/\tR (zd S n) xs ys=some k)\/(∃h h',Y4 S a=some h/\Y4 S b=some h'/\Vi (zd S n) h h'=some k/\(h=.lst->h'≠.lst)):=by
 unfold zd at e;split at e
 ·obtain⟨xs,e1,e⟩:=bN.mp e;obtain⟨ys,e2,e⟩:=bN.mp e;exact .inl ⟨_,_,xs,ys,rfl,rfl,e1,e2,e⟩
 ·rename_i g;obtain⟨h,e1,e⟩:=bN.mp e;obtain⟨h',e2,e⟩:=bN.mp e;refine .inr ⟨h,h',e1,e2,e,λf d=>?_⟩;subst f d;obtain⟨i,rfl⟩:=R_ e1;obtain⟨j,rfl⟩:=R_ e2;exact g i j rfl rfl
def Vu{f:A->A->bi}{k:Bool}(d:KdV s h u)(d':KdV s h' u)(nt:∀xs ys,h=.tup xs->h'≠.tup ys)(e:Vi f h h'=some k):k=true:=by
 cases d with
 | non=>cases d';exact(bg e).symm
 | bl b=>cases d';exact(bg e).symm.trans (cZ b)
 | int b=>cases d';exact(bg e).symm.trans (cZ b)
 | str b=>cases d';exact(bg e).symm.trans (cZ b)
 | tup xs p=>cases d' with
  | tup=>exact absurd rfl (nt _ _ rfl)
  | lst q=>exact(Je p q).elim
 | lst p=>cases d' with
  | tup _ q=>exact(Je q p).elim
  | lst q=>cases e
def Gn{f:A->A->bi}(hf:∀a b x u k,AV X.K ρ H a x->AV X.K ρ H b x->RelV x u->f a b=some k->k=true):∀{xs ys:ae}{vs:List V}{us:ba}{k:Bool},AVs X.K ρ H xs vs->AVs X.K ρ H ys vs->Vals vs us->tR f xs ys=some k->k=true:=by
 intro xs ys vs us k h1 h2 q e
 induction q generalizing xs ys k with
 | nil=>cases h1;cases h2;exact(bg e).symm
 | cons j _ d=>
  cases h1 with
  | cons h t=>cases h2 with
   | cons h' g=>
    obtain⟨p,e1,e⟩:=bN.mp e;obtain⟨q,e2,e3⟩:=aP.mp e;rw[<- e3,hf _ _ _ _ p h h' j e1,d t g e2];rfl
def J_(h h':Sh):(∃xs ys,h=.tup xs/\h'=.tup ys)\/(∀xs ys,h=.tup xs->h'≠.tup ys):=by
 cases h with
 | tup xs=>cases h' with
  | tup ys=>exact .inl ⟨xs,ys,rfl,rfl⟩
  | _=>exact .inr λ_ _ _ z=>nomatch z
 | _=>exact .inr λ_ _ z=>nomatch z
theorem Dt(I:Inv X pins σ H s)(R:Rel X.K ρ H S):∀(n:Nat) (a b:A) (x:V) (u:af) (k:Bool),AV X.K ρ H a x->AV X.K ρ H b x->RelV x u->zd S n a b=some k->k=true
 | 0,_,_,_,_,_,_,_,_,e=>nomatch e
 | n+1,a,b,x,u,k,ha,hb,ru,e=>by
  rcases Pg e with⟨i,j,xs,ys,rfl,rfl,e1,e2,e⟩|⟨h,h',e1,e2,e,_⟩
  ·obtain⟨p,rfl,h1⟩:=DN ha;obtain⟨q,z,h2⟩:=DN hb
   cases z
   obtain⟨g,h3,r1⟩:=R.lst h1<|j8 e1;obtain⟨f,d,r2⟩:=R.lst h2<|j8 e2;rw[h3]at d
   cases d
   obtain⟨us,q,_⟩:=I.list<|oS.of h3;exact Gn (λa b x u k=>Dt I R n a b x u k) r1 r2 q e
  ·rcases J_ h h' with⟨xs,ys,rfl,rfl⟩|t
   ·obtain⟨rfl,p,g,rfl,h3,r1⟩:=CS ha e1;obtain⟨rfl,q,f,z,d,r2⟩:=CS hb e2
    cases z
    have:=I.wk (nh.of h3)<|nh.of d;subst this;obtain⟨us,q,_⟩:=I.tuple<|nh.of h3;exact Gn (λa b x u k=>Dt I R n a b x u k) r1 r2 q e
   ·exact Vu (JS I R ha ru e1) (JS I R hb ru e2) t e
abbrev BF (f:A->A->bi)(xs ys:ae)(j:Nat):Bool:=match xs[j]?,ys[j]? with
 | some x,some y=>(f x y).getD true
 | _,_=>true
theorem zP{f:A->A->bi}:∀{xs ys:ae}{k:Bool},tR f xs ys=some k->k=((List.range<|min xs.length ys.length).all (BF f xs ys) && xs.length == ys.length)/\∀j x y,xs[j]?=some x->ys[j]?=some y->f x y=some (BF f xs ys j)
 | [],[],k,e=>⟨(bg e).symm,λj x y h=>by simp at h⟩
 | [],_::_,k,e=>⟨(bg e).symm,λj x y h=>by simp at h⟩
 | _::_,[],k,e=>⟨(bg e).symm,λj x y _ h=>by simp at h⟩
 | x::xs,y::ys,k,e=>by
  unfold tR at e
  cases e1:f x y with
  | none=>rw[e1]at e;cases e
  | some p=>
   rw[e1]at e;obtain⟨q,e2,e3⟩:=aP.mp e;obtain⟨h1,h2⟩:=zP e2;have d:BF f (x::xs) (y::ys) 0=p:=by simp[BF,e1]
   have ps:∀j,BF f (x::xs) (y::ys) (j+1)=BF f xs ys j:=λj=>by simp[BF]
   refine⟨?_,λj a b ha hb=>?_⟩
   ·rw[<- e3,h1,bB,bB,Nat.succ_min_succ,List.range_succ_eq_map,jv,jH,d];have:(BF f (x::xs) (y::ys) ∘ Nat.succ)=BF f xs ys:=funext ps;rw[this,Bool.and_assoc];simp
   ·cases j with
    | zero=>
     simp at ha hb;subst ha hb;rw[d];exact e1
    | succ j=>rw[ps];exact h2 j a b (by simpa using ha)<|by simpa using hb
def zB{f:A->A->bi}{B:aA}(hf:∀a b x y u v k,AV X.K ρ H a x->AV X.K ρ H b y->RelV x u->RelV y v->f a b=some k->SeqAt.EqAt B s u v k){us ts:ba}{k:Bool}
  (r1:AVs X.K ρ H xs vs) (r2:AVs X.K ρ H ys ws) (q1:Vals vs us) (q2:Vals ws ts) (e:tR f xs ys=some k):∀j (h1:j<us.toArray.size) (h2:j<ts.toArray.size),SeqAt.EqAt B s us.toArray[j] ts.toArray[j] (BF f xs ys j):=by
 intro j h1 h2;have N:=r1.length;have O:=r2.length;have L:=q1.length;have M:=q2.length;have d:j<xs.length:=by simp at h1;lia
 have hy:j<ys.length:=by simp at h2;lia
 have e1:xs[j]?=some xs[j]:=aI d;have e2:ys[j]?=some ys[j]:=aI hy;obtain⟨x,ex,F⟩:=r1.get e1;obtain⟨y,q,C⟩:=r2.get e2;obtain⟨u,G,J⟩:=q1.get ex;obtain⟨t,p,rt⟩:=q2.get q;have g:us.toArray[j]=u:=by
  have:us[j]?=some us.toArray[j]:=by simp at h1;simp[h1]
  rw[G]at this;exact(bg this).symm
 have D:ts.toArray[j]=t:=by
  have:ts[j]?=some ts.toArray[j]:=by simp at h2;simp[h2]
  rw[p]at this;exact(bg this).symm
 rw[g,D];exact hf _ _ x y u t _ F C J rt<|(zP e).2 j _ _ e1 e2
def in1_units(B:aA):B.in1.units=B.units+1:=rfl
theorem J7(I:Inv X pins σ H s)(R:Rel X.K ρ H S):∀(n:Nat) (B:aA) (a b:A) (x y:V) (u v:af) (k:Bool),B.units+n<cLine->AV X.K ρ H a x->AV X.K ρ H b y->RelV x u->RelV y v->zd S n a b=some k->Al B s u v k
 | 0,_,_,_,_,_,_,_,_,_,_,_,_,_,e=>nomatch e
 | n+1,B,a,b,x,y,u,v,k,hu,ha,hb,rx,ry,e=>by
  have f:B.units<cLine:=()
  have d:∀a b x y u v k,AV X.K ρ H a x->AV X.K ρ H b y->RelV x u->RelV y v->zd S n a b=some k->SeqAt.EqAt B.in1 s u v k:=λa b x y u v k h1 h2 h3 G P=>(J7 I R n B.in1 a b x y u v k (by rw[in1_units];lia) h1 h2 h3 G P).2.1;have same:=λ(z:y=x)=>Dt I R (n+1) a b x u k ha (z ▸ hb) rx e;have t:∀{p q:ak},x=.ref p->y=.ref q->u=.ref p->v=.ref q->SeqAt.RcAt B s u v k->SeqAt.EqAt B s u v k:=λ{p q} g C z3 z4 h=>by
   subst z3 z4;by_cases N:p=q
   ·subst N;rw[same<|C.trans g.symm];exact .same _
   ·exact .of_refs N h
  rcases Pg e with⟨i,j,xs,ys,rfl,rfl,e1,e2,e⟩|⟨h,h',e1,e2,e,_⟩
  ·obtain⟨p,rfl,h1⟩:=DN ha;obtain⟨q,rfl,h2⟩:=DN hb;obtain⟨Y,h3,r1⟩:=R.lst h1<|j8 e1;obtain⟨T,G,r2⟩:=R.lst h2<|j8 e2;obtain⟨us,F,p1,_⟩:=I.list<|oS.of h3;obtain⟨ts,D,p2,_⟩:=I.list<|oS.of G;have L:=t rfl rfl rx ry
   cases(show u=Value.ref p from rx)
   cases(show v=Value.ref q from ry)
   have W:=r1.length;have l2:=r2.length;have U:=F.length;have Z:=D.length;have ek:=(zP e).1;by_cases M:xs.length=ys.length
   ·rw[<- M,Nat.min_self,cZ,Bool.and_true]at ek;have J:us.toArray.size=ts.toArray.size:=by simp;lia
    have g:=SeqAt.RcAt.lists p1.isList p2.isList J f<|zB d r1 r2 F D e;have C:=SeqAt.RcNeAt.lists p1.isList p2.isList J f<|zB d r1 r2 F D e;rw[aX,<- U,<- W,<- ek]at g C;exact⟨g,L g,C⟩
   ·have:(xs.length == ys.length)=false:=by simpa using M
    rw[this,Bool.and_false]at ek;subst ek;have J:(us.toArray.size != ts.toArray.size)=true:=by simp;lia
    have g:=SeqAt.RcAt.lists_lengths p1.isList p2.isList J f;exact⟨g,L g,SeqAt.RcNeAt.lists_lengths p1.isList p2.isList J f⟩
  ·rcases J_ h h' with⟨xs,ys,rfl,rfl⟩|O
   ·obtain⟨rfl,p,Y,rfl,h3,r1⟩:=CS ha e1;obtain⟨rfl,q,T,rfl,G,r2⟩:=CS hb e2;have L:=t rfl rfl rx ry
    cases(show u=Value.ref p from rx)
    cases(show v=Value.ref q from ry)
    obtain⟨us,F,p1,_⟩:=I.tuple<|nh.of h3;obtain⟨ts,D,p2,_⟩:=I.tuple<|nh.of G;have ek:=(zP e).1;have g:=SeqAt.RcAt.tuples p1 p2 f<|zB d r1 r2 F D e;have C:=SeqAt.RcNeAt.tuples p1 p2 f<|zB d r1 r2 F D e;rw[aX,aX,<- F.length,<- D.length,<- r1.length,<- r2.length,<- ek]at g C;exact⟨g,L g,C⟩
   ·exact abM f (JS I R ha rx e1) (JS I R hb ry e2) O e
end
section
variable {X:Cx}
abbrev yc (neg:Bool)(a b:A)(S:jV):R A:=opt (zd S 12 a b) λk=>.ok (.bl<|if neg then !k else k) S
def Tt(hu:X.A.units+64<cLine):oR X (compareOp .Eq) (r2 X<|yc false):=λpins s σ H x y v u Q I rx ry h9=>by
 x_go;obtain⟨k,e,h⟩:=jY h;exact(J7 I R 12 X.A a b x y v u k (by omega) va vb rx ry e).1 _ _ _ _ ⟨.bl _,H,I,rfl,h _ _ _ .refl R<|.bl _⟩
def M6(hu:X.A.units+64<cLine):oR X (compareOp .NotEq) (r2 X<|yc true):=λpins s σ H x y v u Q I rx ry h9=>by
 x_go;obtain⟨k,e,h⟩:=jY h;exact(J7 I R 12 X.A a b x y v u k (by omega) va vb rx ry e).2.2 _ _ _ _ ⟨.bl _,H,I,rfl,h _ _ _ .refl R<|.bl _⟩
end
section
variable {X:Cx}{pos:Pos}{a b:aE}
meta abbrev Pt:=ae->jV->R (Option Int)
abbrev aay:Pt:=λ_ S=>.ok none S
abbrev abP (c:Ex):Pt:=λτ S=>(c τ S).bind λa S1=>match a with
 | .int i=>.ok (some i) S1
 | _=>.no
abbrev Ug (xs:ae)(lo hi:Option Int):ae:=(xs.drop<|HT.sIx xs.length 0 lo).take<|HT.sIx xs.length xs.length hi-HT.sIx xs.length 0 lo
abbrev aSl (a:A)(lo hi:Option Int)(S:jV):R A:=match a with
 | .ref n=>opt (jT S n) λxs=>.ok (.ref S.length) (S++[.lst<|Ug xs lo hi])
 | .frz xs=>.ok (.ref S.length) (S++[.lst<|Ug xs lo hi])
 | .tup xs=>gd (¬(HT.sIx xs.length 0 lo=0/\HT.sIx xs.length xs.length hi=xs.length)) (.ok (.tup<|Ug xs lo hi) S)
 | _=>.no
abbrev eSl (c:Ex)(lo hi:Pt):Ex:=λτ S=>(c τ S).bind λa S1=>(lo τ S1).bind λl S2=>(hi τ S2).bind λu S3=>aSl a l u S3
abbrev aap (a:A)(S:jV):R A:=match a with
 | .ref n=>opt (jT S n) λxs=>.ok (.ref S.length) (S++[.lst xs.reverse])
 | .tup xs=>.ok (.tup xs.reverse) S
 | _=>.no
abbrev kj (f:ae->jV->R A)(d:q_):Ex:=λτ S=>(d τ S).bind λas S1=>f as S1
def FE{f:ae->jV->R A}{d:q_}{H:Hp}{Q:VK}(h:tE X (kj f d) σ H Q):tCB (rN X f) (tL X d) σ H Q:=by
 f_are;exact⟨ρ,S,τ,R,r,jX (j5 h) .refl λas S1 h1 ρ1 H1 g e1 R1 v1=>⟨ρ1,S1,as,R1,v1,jX h1 e1 λ_ _ z=>z.ext e1⟩⟩
variable {x:Str}{p:Pos}{e:aE}{es:List aE}{id T:String}{f:ae->jV->R A}{d:q_}
def kD(hc:kM X (.builtin id)<|rN X f)(hm:X.mg x=none)(hv:bootBuiltins x=some (.builtin id))(ha:AL X (e::es) d)(hg:Gl X x<|>ε)(hn:x ≠ "__name__"<|>δ)(hdb:(x == ("__debug__" : Str))=false<|>δ)
  (he:starEach (e::es) X.env=(false,eval e X.env)::starEach es X.env<|>ε) (hpl:((backTo pos<|starEach es X.env).any (·.1)=false)<|>ε):AE X (.Call (.Name x p) (e::es) [] pos) (kj f d):=
 PE.imp (FT hc hg hm hv ha hn hdb he hpl) λ_ _ _ h=>FE h
def nX(hc:kM X (.type T)<|rN X f)(hm:X.mg x=none)(hv:bootBuiltins x=some (.type T))(ha:AL X (e::es) d)(hg:Gl X x<|>ε)(hn:x ≠ "__name__"<|>δ)(hdb:(x == ("__debug__" : Str))=false<|>δ)
  (he:starEach (e::es) X.env=(false,eval e X.env)::starEach es X.env<|>ε) (hpl:((backTo pos<|starEach es X.env).any (·.1)=false)<|>ε):AE X (.Call (.Name x p) (e::es) [] pos) (kj f d):=
 PE.imp (Ls hc hg hm hv ha hn hdb he hpl) λ_ _ _ h=>FE h
def E3(hm:X.mg x=none)(hv:bootBuiltins x=some (.type T))(hg:Gl X x<|>ε)(hn:x ≠ "__name__"<|>δ)(hdb:(x == ("__debug__" : Str))=false<|>δ):AE X (.Name x pos) (eC<|.ty T):=
 PE.imp (Vx (v:=.ty T) hg hm hv rfl hn hdb) λσ H Q ⟨ρ,S,τ,R,r,h⟩=>h ρ H _ .refl R<|.ty T
abbrev A.seq (S:jV):A->Option (ae)
 | .tup xs=>some xs
 | .frz xs=>some xs
 | .ref n=>jT S n
 | _=>none
def Ra{K:au}{H:Hp}{x:A}{v:V}(R:Rel K ρ H S)(h:AV K ρ H x v)(e:x.seq S=some xs):∃p vs,v=.ref p/\(oS K H p vs\/nh K H p vs)/\AVs K ρ H xs vs:=by
 cases h with
 | tup h r=>cases bg e;exact⟨_,_,rfl,.inr<|nh.of h,r⟩
 | frz h r=>cases bg e;exact⟨_,_,rfl,.inl h.SI,r⟩
 | ref h=>
  obtain⟨vs,h1,r1⟩:=R.lst h<|j8 e;exact⟨_,vs,rfl,.inl<|oS.of h1,r1⟩
 | _=>cases e
def LJ{K:au}{H:Hp}{x:A}(h:AVs K ρ H [x] vs):∃v,vs=[v]/\AV K ρ H x v:=by
 cases h with
 | cons h t=>cases t;exact⟨_,rfl,h⟩
def P8{K:au}{H:Hp}{x:A}(h:AVs K ρ H [x,y] vs):∃v w,vs=[v,w]/\AV K ρ H x v/\AV K ρ H y w:=by
 cases h with
 | cons h t=>obtain⟨w,rfl,h'⟩:=LJ t;exact⟨_,_,rfl,h,h'⟩
abbrev f1 (g:A->jV->R A):ae->jV->R A:=λas S=>match as with
 | [x]=>g x S
 | _=>.no
abbrev f2 (g:A->A->jV->R A):ae->jV->R A:=λas S=>match as with
 | [x,y]=>g x y S
 | _=>.no
def Vm{g:A->jV->R A}{P:A->jV->Prop}{E:Str->jV->Prop}(h:(f1 g as S).post P E):∃x,as=[x]/\(g x S).post P E:=by
 match as,h with
 | [],h=>exact h.elim
 | [x],h=>exact⟨x,rfl,h⟩
 | _::_::_,h=>exact h.elim
def Vj{g:A->A->jV->R A}{P:A->jV->Prop}{E:Str->jV->Prop}(h:(f2 g as S).post P E):∃x y,as=[x,y]/\(g x y S).post P E:=by
 match as,h with
 | [],h=>exact h.elim
 | [_],h=>exact h.elim
 | [x,y],h=>exact⟨x,y,rfl,h⟩
 | _::_::_::_,h=>exact h.elim
def Lv{g:A->jV->R A}{H:Hp}{Q:VK}(h:rN X (f1 g) vs H Q):∃v,vs=[v]/\∃ρ S x,Rel X.K ρ H S/\AV X.K ρ H x v/\(g x S).post (zN X ρ H Q) (XE X ρ H):=by
 obtain⟨ρ,S,as,R,v,h⟩:=h;obtain⟨x,rfl,h⟩:=Vm h;obtain⟨w,rfl,hv⟩:=LJ v;exact⟨w,rfl,ρ,S,x,R,hv,h⟩
def rn2{g:A->A->jV->R A}{H:Hp}{Q:VK}(h:rN X (f2 g) vs H Q):∃v w,vs=[v,w]/\∃ρ S x y,Rel X.K ρ H S/\AV X.K ρ H x v/\AV X.K ρ H y w/\(g x y S).post (zN X ρ H Q) (XE X ρ H):=by
 obtain⟨ρ,S,as,R,v,h⟩:=h;obtain⟨x,y,rfl,h⟩:=Vj h;obtain⟨w,f,rfl,hv,d⟩:=P8 v;exact⟨w,f,rfl,ρ,S,x,y,R,hv,d,h⟩
abbrev tP (x:A)(S:jV):R A:=match x with
 | .str x=>gd (x.length<=sizeLine) (.ok (.int x.length) S)
 | .tup xs=>.ok (.int xs.length) S
 | .frz xs=>.ok (.int xs.length) S
 | .ref n=>opt (jT S n) λxs=>.ok (.int xs.length) S
 | _=>.no
def wD:kM X (.builtin "len") (rN X<|f1 tP):=kM.imp RP λg H Q h0=>by
 kd_p;clear h0
 cases hv with
 | str z=>
  obtain⟨f,h⟩:=kB h;exact⟨_,_,rfl,⟨f,rfl⟩,h _ _ _ .refl R<|.int _⟩
 | @tup p xs us h1 r=>exact⟨_,us.length,rfl,.inr ⟨us,(nh.of h1),rfl⟩,by rw[<- r.length];exact h _ _ _ .refl R<|.int _⟩
 | @frz p xs us h1 r=>exact⟨_,us.length,rfl,.inl ⟨us,h1.SI,rfl⟩,by rw[<- r.length];exact h _ _ _ .refl R<|.int _⟩
 | ref d=>
  kj_on;obtain⟨us,h1,r⟩:=R.lst d<|j8 hn;exact⟨_,us.length,rfl,.inl ⟨us,oS.of h1,rfl⟩,by rw[<- r.length];exact h _ _ _ .refl R<|.int _⟩
 | _=>exact h.elim
abbrev Yi (x:A)(S:jV):R A:=match x with
 | .int i=>.ok (.int<|if i<0 then -i else i) S
 | _=>.no
def aaq:kM X (.builtin "abs") (rN X<|f1 Yi):=kM.imp Pj λd H Q h0=>by
 kd_p;clear h0
 cases hv<;>first|exact h.elim|exact⟨_,rfl,h _ _ _ .refl R<|.int _⟩
abbrev abw (x y:A)(S:jV):R A:=match x,y with
 | .int i,.int j=>.ok (.int<|if j>i then j else i) S
 | _,_=>.no
abbrev ab1 (x y:A)(S:jV):R A:=match x,y with
 | .int i,.int j=>.ok (.int<|if j<i then j else i) S
 | _,_=>.no
abbrev Wt (x:A)(S:jV):R A:=match x with
 | .int i=>.ok (.int i) S
 | .bl k=>.ok (.int<|if k then 1 else 0) S
 | .str y=>opt (PySem.intText? y) λn=>gd (y.length<=640) (.ok (.int n) S)
 | _=>.no
abbrev Ei (x y:A)(S:jV):R A:=match x,y with
 | .int i,.int j=>.ok (.rng i j) S
 | _,_=>.no
def Qh:kM X (.type "range") (rN X<|f2 Ei):=kM.imp CU λq H Q h0=>by
 obtain⟨w,k,rfl,ρ,S,x,y,R,hv,d,h⟩:=rn2 h0;clear h0
 cases hv with
 | int i=>
  cases d with
  | int j=>
   refine⟨i,j,rfl,λp f=>?_⟩;obtain⟨ex,g⟩:=R.im (u:=.rng i j) f;exact h ρ _ _ ex g<|.rng kK
  | _=>exact h.elim
 | _=>exact h.elim
abbrev BV (i j:Int):Prop:=(-(2 ^ 62)<=i/\i<2 ^ 62/\-(2 ^ 62)<=j/\j<2 ^ 62)/\(j-i).toNat<=1000
instance (i j:Int):Decidable (BV i j):=by unfold BV;infer_instance
abbrev ze (x:A)(S:jV):R A:=match x with
 | .rng i j=>gd (BV i j) (.ok (.ref S.length)<|S++[.lst<|(l8 i j).map .int])
 | .tup xs=>.ok (.ref S.length) (S++[.lst xs])
 | .frz xs=>.ok (.ref S.length) (S++[.lst xs])
 | .ref n=>opt (jT S n) λxs=>.ok (.ref S.length) (S++[.lst xs])
 | _=>.no
def GZ(hc:X.calm=true):kM X (.type "list") (rN X<|f1 ze):=λpins s σ H d us Q I rx h0=>by
 kd_p;clear h0
 cases hv with
 | @rng p i j g=>
  obtain⟨f,h⟩:=kB h;exact BI hc pins s σ H _ us Q I rx ⟨p,i,j,rfl,g,f.1,f.2,pJ R (rK _) .refl h⟩
 | @tup p xs d h1 r=>exact uy pins s σ H _ us Q I rx ⟨p,d,rfl,.inr<|nh.of h1,pJ R r .refl h⟩
 | @frz p xs d h1 r=>exact uy pins s σ H _ us Q I rx ⟨p,d,rfl,.inl h1.SI,pJ R r .refl h⟩
 | @ref p n g=>
  kj_on;obtain⟨d,h1,r⟩:=R.lst g<|j8 hn;exact uy pins s σ H _ us Q I rx ⟨p,d,rfl,.inl<|oS.of h1,pJ R r .refl h⟩
 | _=>exact h.elim
abbrev vf (x:A)(S:jV):R A:=match x with
 | .rng i j=>gd (BV i j) (.ok (.tup<|(l8 i j).map .int) S)
 | .tup xs=>.ok (.tup xs) S
 | .frz xs=>.ok (.tup xs) S
 | .ref n=>opt (jT S n) λxs=>.ok (.tup xs) S
 | _=>.no
def zI(hc:X.calm=true):kM X (.type "tuple") (rN X<|f1 vf):=λpins s σ H d us Q I rx h0=>by
 kd_p;clear h0
 cases hv with
 | @rng p i j g=>
  obtain⟨f,h⟩:=kB h;exact Ba hc pins s σ H _ us Q I rx ⟨p,i,j,rfl,g,f.1,f.2,xV R (rK _) .refl h⟩
 | @tup p xs d h1 r=>exact sW pins s σ H _ us Q I rx ⟨p,d,rfl,.inr ⟨(nh.of h1),h _ _ _ .refl R<|.tup h1 r⟩⟩
 | @frz p xs d h1 r=>exact sW pins s σ H _ us Q I rx ⟨p,d,rfl,.inl ⟨h1.SI,xV R r .refl h⟩⟩
 | @ref p n g=>
  kj_on;obtain⟨d,h1,r⟩:=R.lst g<|j8 hn;exact sW pins s σ H _ us Q I rx ⟨p,d,rfl,.inl ⟨oS.of h1,xV R r .refl h⟩⟩
 | _=>exact h.elim
abbrev A.HP:ae->Option (List Bool)
 | []=>some []
 | .bl b::xs=>(A.HP xs).map (b::·)
 | _=>none
theorem HE{K:au}{H:Hp}:∀{xs:ae}{vs:List V}{bs:List Bool},AVs K ρ H xs vs->A.HP xs=some bs->vs=bs.map V.bl
 | _,_,_,.nil,e=>by cases e;rfl
 | x::xs,_,bs,.cons h t,e=>by
  cases x with
  | bl b=>
   obtain⟨d,e1,rfl⟩:=aP.mp (show(A.HP xs).map (b::·)=some bs from e)
   cases h
   rw[HE t e1];rfl
  | _=>cases e
abbrev G6 (x:A)(S:jV):R A:=match x with
 | .ref n=>opt (jT S n) λxs=>opt (A.HP xs) λbs=>.ok (.bl<|bs.all λb=>b) S
 | _=>.no
def RX(hc:X.calm=true):kM X (.builtin "all") (rN X<|f1 G6):=kM.imp (LP hc) λf H Q h0=>by
 kd_p;clear h0
 cases hv with
 | @ref p n d=>
  kj_on;obtain⟨bs,hb,h⟩:=jY h;obtain⟨f,h1,r⟩:=R.lst d<|j8 hn;rw[HE r hb]at h1;exact⟨p,bs,rfl,oS.of h1,h _ _ _ .refl R<|.bl _⟩
 | _=>exact h.elim
abbrev W_ (x:A)(S:jV):R A:=match x with
 | .ref n=>opt (jT S n) λxs=>opt (A.HP xs) λbs=>.ok (.bl<|bs.any λb=>b) S
 | _=>.no
def aaV(hc:X.calm=true):kM X (.builtin "any") (rN X<|f1 W_):=kM.imp (LH hc) λf H Q h0=>by
 kd_p;clear h0
 cases hv with
 | @ref p n d=>
  kj_on;obtain⟨bs,hb,h⟩:=jY h;obtain⟨f,h1,r⟩:=R.lst d<|j8 hn;rw[HE r hb]at h1;exact⟨p,bs,rfl,oS.of h1,h _ _ _ .refl R<|.bl _⟩
 | _=>exact h.elim
abbrev insI (x:Int):ag->ag
 | []=>[x]
 | y::ys=>if x<=y then x::y::ys else y::insI x ys
abbrev sortI:ag->ag
 | []=>[]
 | x::xs=>insI x<|sortI xs
theorem insI_perm(x:Int):∀ys:ag,(insI x ys).Perm (x::ys)
 | []=>eZ _
 | y::ys=>by
  unfold insI;by_cases h:x<=y
  ·rw[aW h]
  ·rw[aV h];exact((insI_perm x ys).cons y).trans (List.Perm.swap x y ys)
theorem sortI_perm:∀xs:ag,(sortI xs).Perm xs
 | []=>eZ _
 | x::xs=>(insI_perm x<|sortI xs).trans<|(sortI_perm xs).cons x
theorem J1(x:Int):∀ys:ag,ys.Pairwise (·<=·)->(insI x ys).Pairwise (·<=·)
 | [],_=>c9 _ _
 | y::ys,h=>by
  unfold insI;obtain⟨h1,h2⟩:=bW.mp h;by_cases f:x<=y
  ·rw[aW f];exact bW.mpr ⟨λz d=>(bG.mp d).elim (λe=>e ▸ f) λd=>Int.le_trans f<|h1 z d,h⟩
  ·rw[aV f];refine bW.mpr ⟨λz d=>?_,J1 x ys h2⟩
   rcases bG.mp ((insI_perm x ys).mem_iff.mp d)with e|d
   ·subst e;lia
   ·exact h1 z d
theorem Bo:∀xs:ag,(sortI xs).Pairwise (·<=·)
 | []=>List.Pairwise.nil
 | x::xs=>J1 x _<|Bo xs
abbrev A.kd:A->jV->Option Kd
 | .non,_=>some .non
 | .bl _,_=>some .bl
 | .int _,_=>some .int
 | .str _,_=>some .str
 | .tup _,_=>some .tup
 | .ref n,S=>(jT S n).map λ_=>.lst
 | _,_=>none
def Vn{K:au}(k:Kd):PySem.W.kitOne K k.ty (.type "str")=some (decide<|k=.str):=by cases k<;>rfl
abbrev Me (k:Kd)(c:String):bi:=if c = "int" then some (decide<|k=.int\/k=.bl)else if c = "bool" then some (decide<|k=.bl)else if c = "tuple" then some (decide<|k=.tup)else if c = "list" then some (decide<|k=.lst)else if c = "str" then some (decide<|k=.str)else none
def J6{K:au}{k:Kd}{c:String}{b:Bool}(h:Me k c=some b):PySem.W.kitOne K k.ty (.type c)=some b:=by
 unfold Me at h;split at h
 ·rename_i e;subst e;rw[<- h];exact VH k
 ·split at h
  ·rename_i e;subst e;rw[<- h];exact Pq k
  ·split at h
   ·rename_i e;subst e;rw[<- h];exact kit_tuple k
   ·split at h
    ·rename_i e;subst e;rw[<- h];exact Sa k
    ·split at h
     ·rename_i e;subst e;rw[<- h];exact Vn k
     ·cases h
abbrev yx (x y:A)(S:jV):R A:=match y with
 | .ty c=>opt (x.kd S) λk=>opt (Me k c) λb=>.ok (.bl b) S
 | _=>.no
def abA{K:au}{H:Hp}{x:A}{v:V}{k:Kd}(R:Rel K ρ H S)(h:AV K ρ H x v)(e:x.kd S=some k):(∃p vs,v=.ref p/\nh K H p vs/\k=.tup)\/ZH H v k:=by
 cases h with
 | non=>cases e;exact .inr rfl
 | bl b=>cases e;exact .inr ⟨b,rfl⟩
 | int i=>cases e;exact .inr ⟨i,rfl⟩
 | str i=>cases e;exact .inr ⟨i,rfl⟩
 | tup h r=>cases e;exact .inl ⟨_,_,rfl,(nh.of h),rfl⟩
 | ref h=>
  obtain⟨xs,e1,e2⟩:=aP.mp e;obtain⟨vs,h1,_⟩:=R.lst h (j8 e1)
  cases e2
  exact .inr ⟨_,vs,rfl,h1⟩
 | _=>cases e
def EZ:kM X (.builtin "isinstance") (rN X<|f2 yx):=λpins s σ H g us Q I rx h0=>by
 obtain⟨w,F,rfl,ρ,S,x,y,R,hv,d,h⟩:=rn2 h0;clear h0
 cases d with
 | ty c=>
  obtain⟨k,f,h⟩:=jY h;obtain⟨b,hb,hq⟩:=jY h;have hq:zN X ρ H Q (.bl b) S:=hq;clear h
  rcases abA R hv f with⟨p,g,rfl,j,rfl⟩|B
  ·obtain⟨C,G,rfl,r1,r2⟩:=vals2 rx;obtain⟨t,q,⟨o,h1,h2,_⟩,_⟩:=I.tuple j
   cases(show _=Value.ref p from r1)
   cases(show _=Value.type c from r2)
   exact cW PySem.W.kitx_tuple I.DL ⟨o,h1,h2⟩ (J6 hb) (λz=>nomatch z) λD=>⟨.bl b,H,I.tok _,rfl,hq _ _ _ .refl R<|.bl _⟩
  ·exact FI (c:=c) pins s σ H _ us Q I rx ⟨w,_,b,rfl,B.ad1,J6 hb,hq _ _ _ .refl R<|.bl _⟩
 | _=>exact h.elim
end
abbrev DC (x:ag):List (ag)->List (ag)
 | []=>[x]
 | y::ys=>if HT.lexLt y x=true then y::DC x ys else x::y::ys
abbrev kQ:List (ag)->List (ag)
 | []=>[]
 | x::xs=>DC x<|kQ xs
abbrev CL (a b:ag):Prop:=HT.lexLt b a=false
def CL.trans{a c:ag}(h1:CL a b)(h2:CL b c):CL a c:=by
 unfold CL at *
 cases e:HT.lexLt c a with
 | false=>rfl
 | true=>
  rcases Sx.J4 (b:=b) e with z|z
  ·rw[h2]at z;cases z
  ·rw[h1]at z;cases z
theorem yt(x:ag):∀ys:List<|ag,(DC x ys).Perm (x::ys)
 | []=>eZ _
 | y::ys=>by
  unfold DC;by_cases h:HT.lexLt y x=true
  ·rw[aW h];exact((yt x ys).cons y).trans (List.Perm.swap x y ys)
  ·rw[aV h]
theorem kN:∀xs:List<|ag,(kQ xs).Perm xs
 | []=>eZ _
 | x::xs=>(yt x<|kQ xs).trans<|(kN xs).cons x
theorem Js(x:ag):∀ys:List<|ag,ys.Pairwise CL->(DC x ys).Pairwise CL
 | [],_=>c9 _ _
 | y::ys,h=>by
  unfold DC;obtain⟨h1,h2⟩:=bW.mp h;by_cases g:HT.lexLt y x=true
  ·rw[aW g];refine bW.mpr ⟨λz d=>?_,Js x ys h2⟩
   rcases bG.mp ((yt x ys).mem_iff.mp d)with e|d
   ·subst e;unfold CL
    cases e:HT.lexLt z y with
    | false=>rfl
    | true=>have:=Sx.Du g e;rw[Sx.zJ]at this;cases this
   ·exact h1 z d
  ·rw[aV g];have f:CL x y:=by unfold CL;simpa using g
   exact bW.mpr ⟨λz d=>(bG.mp d).elim (λe=>e ▸ f) λd=>f.trans<|h1 z d,h⟩
theorem vR:∀xs:List<|ag,(kQ xs).Pairwise CL
 | []=>List.Pairwise.nil
 | x::xs=>Js x _<|vR xs
def G9{xs:List<|ag}(p:xs.Perm ys)(h:xs.Pairwise CL):xs=kQ ys:=
 dZ (λa b _ _ h1 h2=>(Sx.yh h1 h2).symm) h (vR ys) (p.trans (kN ys).symm)
theorem pig:∀(N:Nat) (l:am),l.Nodup->(∀x∈l,x<N)->l.length<=N
 | 0,l,_,h=>by
  cases l with
  | nil=>exact aN _
  | cons a l=>exact absurd (h a<|aL ..)<|eB _
 | N+1,l,nd,h=>by
  have h1:=pig N (l.erase N) (nd.erase N) λx d=>by
   have:=h x<|List.mem_of_mem_erase d;have:x≠N:=λz=>by
    subst z;exact(List.Nodup.not_mem_erase nd) d
   lia
  have:=List.le_length_erase (l:=l) (a:=N)
  lia
def uI{N:Nat}{g:Nat->Nat}(h:∀i,i<N->g i<N)(inj:∀i j,i<j->j<N->g i≠g j):((List.range N).map g).Perm (List.range N):=by
 have nd:((List.range N).map g).Nodup:=by
  unfold List.Nodup;rw[bZ];intro i j k p f;rw[aH,bR]at k p;rw[dW,dW,dH,dH];exact inj i j f p
 have lt:∀x∈(List.range N).map g,x<N:=λx d=>by
  obtain⟨i,k,rfl⟩:=bq.mp d;exact h i<|cy.mp k
 refine(jl nd List.nodup_range).mpr λa=>⟨λha=>cy.mpr<|lt a ha,λha=>?_⟩;refine Classical.byContradiction λhn=>?_;have:=pig N (a::(List.range N).map g) (bT.mpr ⟨hn,nd⟩) λx d=>by
  rcases bG.mp d with rfl|d
  ·exact cy.mp ha
  ·exact lt x d
 rw[bB,aH,bR]at this
 lia
def range_getD{α:Type}(l:List α)(d:α):(List.range l.length).map (λi=>l.getD i d)=l:=by
 apply dR;intro i;rw[aR];by_cases c:i<l.length
 ·rw[eK c];show some (l.getD i d)=_;rw[aK,aI c];rfl
 ·rw[dD<|by rw[bR];lia,dD ()];rfl
def RJ{kss:List<|ag}{g:Nat->Nat}(c:Sx.Cl g 0 kss.length)(so:Sx.So (Sx.uv kss) g 0 kss.length):(List.range kss.length).map (λi=>kss.getD (g i) [])=kQ kss:=by
 refine G9 ?_ ?_
 ·have p:=uI (N:=kss.length) (g:=g) (λi k=>(c i (bF _) k).2) λi j d f z=>by
   have:=so i j (bF _) d f;rw[z]at this;exact this.MK
  have:=p.map λi=>kss.getD i [];rw[aY,range_getD]at this;exact this
 ·rw[bZ];intro i j k f d;rw[aH,bR]at k f;rw[dW,dW,dH,dH];exact(so i j (bF _) d f).ge
abbrev XG:ae->Option (List<|ag)
 | []=>some []
 | .tup xs::r=>match A.ints xs with
  | some (k::ks)=>(XG r).map λd=>(k::ks)::d
  | _=>none
 | _=>none
theorem Wm{K:au}{H:Hp}:∀{xs:ae}{vs:List V}{kss:List<|ag},AVs K ρ H xs vs->XG xs=some kss ->
  ∃rs:bb,vs=rs.map V.ref/\rs.length=kss.length/\∀(i:Nat) (r:ak) (ks:ag),rs[i]?=some r->kss[i]?=some ks->nh K H r (ks.map V.int)/\ks≠[]/\AV K ρ H (.tup<|ks.map .int) (.ref r)
 | [],_,_,.nil,e=>by cases e;exact⟨[],rfl,rfl,λi r ks h=>by simp at h⟩
 | x::xs,_,kss,.cons h t,e=>by
  cases h with
  | tup h r=>
   rename_i a ys us;unfold XG at e
   cases e1:A.ints ys with
   | none=>rw[e1]at e;cases e
   | some ks=>
    rw[e1]at e
    cases ks with
    | nil=>cases e
    | cons k ks=>
     obtain⟨f,e2,rfl⟩:=aP.mp e;obtain⟨rs,rfl,p,j⟩:=Wm t e2;have ev:=qX r e1;subst ev;refine⟨a::rs,rfl,by rw[bB,bB,p],λi g d h1 h2=>?_⟩
     cases i with
     | zero=>
      cases h1
      cases h2
      exact⟨nh.of h,(λz=>nomatch z),.tup h<|rK _⟩
     | succ i=>exact j i g d (by simpa using h1)<|by simpa using h2
  | _=>cases e
theorem Ay{K:au}{H:Hp}{α:Type}{f:α->A}{h:α->V}:∀{l:List α},(∀a∈l,AV K ρ H (f a)<|h a)->AVs K ρ H (l.map f) (l.map h)
 | [],_=>.nil
 | a::l,e=>.cons (e a<|aL ..)<|Ay λb hb=>e b<|aO _ hb
abbrev LA (k:Nat->ag)(i:Nat):am->am
 | []=>[i]
 | j::js=>if HT.lexLt (k j) (k i)=true then j::LA k i js else i::j::js
abbrev Ry (k:Nat->ag):am->am
 | []=>[]
 | i::is=>LA k i<|Ry k is
theorem yE(k:Nat->ag)(i:Nat):∀js:am,(LA k i js).Perm (i::js)
 | []=>eZ _
 | j::js=>by
  unfold LA;by_cases h:HT.lexLt (k j) (k i)=true
  ·rw[aW h];exact((yE k i js).cons j).trans (List.Perm.swap i j js)
  ·rw[aV h]
theorem wc(k:Nat->ag):∀is:am,(Ry k is).Perm is
 | []=>eZ _
 | i::is=>(yE k i<|Ry k is).trans<|(wc k is).cons i
theorem KI{kss:List<|ag}:∀{js:am},(∀j∈js,i<j)->js.Pairwise (Sx.P<|Sx.uv kss)->(LA (λi=>kss.getD i []) i js).Pairwise (Sx.P<|Sx.uv kss)
 | [],_,_=>c9 _ _
 | j::js,hi,h=>by
  obtain⟨h1,h2⟩:=bW.mp h;unfold LA;by_cases c:HT.lexLt (kss.getD j []) (kss.getD i [])=true
  ·rw[aW c];refine bW.mpr ⟨λz d=>?_,KI (λg f=>hi g<|aO _ f) h2⟩
   rcases bG.mp ((yE _ i js).mem_iff.mp d)with e|d
   ·subst e;exact .inl c
   ·exact h1 z d
  ·rw[aV c];have p:Sx.P (Sx.uv kss) i j:=.inr ⟨by show HT.lexLt _ _=false;simpa using c,hi j<|aL ..⟩;exact bW.mpr ⟨λz d=>(bG.mp d).elim (λe=>e ▸ p) λd=>p.trans<|h1 z d,h⟩
theorem Lp{kss:List<|ag}:∀{is:am},is.Pairwise (· < ·)->(Ry (λi=>kss.getD i []) is).Pairwise (Sx.P<|Sx.uv kss)
 | [],_=>List.Pairwise.nil
 | i::is,h=>by
  obtain⟨h1,h2⟩:=bW.mp h;exact KI (λj d=>h1 j<|(wc _ is).mem_iff.mp d)<|Lp h2
abbrev Sd (kss:List<|ag):am:=Ry (λi=>kss.getD i [])<|List.range kss.length
def ab8{kss:List<|ag}{g:Nat->Nat}(c:Sx.Cl g 0 kss.length)(so:Sx.So (Sx.uv kss) g 0 kss.length):(List.range kss.length).map g=Sd kss:=by
 refine dZ (λa b _ _ h1 h2=>absurd (h1.trans h2) λz=>z.MK) ?_ (Lp<|g_) ?_
 ·rw[bZ];intro i j k f d;rw[aH,bR]at k f;rw[dW,dW,dH,dH];exact so i j (bF _) d f
 ·exact(uI (λi k=>(c i (bF _) k).2) λi j d f z=>by
   have:=so i j (bF _) d f;rw[z]at this;exact this.MK).trans (wc _ _).symm
abbrev RS.post (r:RS)(N:ae->jV->Prop)(T:A->jV->Prop)(B C:ae->jV->Prop)(E:Str->jV->Prop):Prop:=match r with
 | .nx τ S=>N τ S
 | .rt a S=>T a S
 | .bk τ S=>B τ S
 | .ct τ S=>C τ S
 | .ex c S=>E c S
 | .no=>False
abbrev RS.of {α:Type}(r:R α)(f:α->jV->RS):RS:=match r with
 | .ok a S=>f a S
 | .ex c S=>.ex c S
 | .no=>.no
def of_post{α:Type}{r:R α}{f:α->jV->RS}{N B C:ae->jV->Prop}{T:A->jV->Prop}{E:Str->jV->Prop}(h:(RS.of r f).post N T B C E):r.post (λa S=>(f a S).post N T B C E) E:=by
 cases r<;>exact h
def RS.mono{r:RS}{N B C N' B' C':ae->jV->Prop}{T T':A->jV->Prop}{E E':Str->jV->Prop}(h:r.post N T B C E)(hn:∀τ S,N τ S->N' τ S)(ht:∀a S,T a S->T' a S)(hb:∀τ S,B τ S->B' τ S)(hc:∀τ S,C τ S->C' τ S)(he:∀c S,E c S->E' c S):r.post N' T' B' C' E':=by
 cases r with
 | nx τ S=>exact hn _ _ h
 | rt a S=>exact ht _ _ h
 | bk τ S=>exact hb _ _ h
 | ct τ S=>exact hc _ _ h
 | ex c S=>exact he _ _ h
 | no=>exact h.elim
abbrev IM (X:Cx)(ρ:bb)(H:Hp)(N:L2.St->Hp->Prop):ae->jV->Prop:=λf g=>∀ρ' H' d,Ext ρ ρ' H H'->Rel X.K ρ' H' g->SR X.K ρ' H' f d->N d H'
def IM.ext{X:Cx}{H H':Hp}{N:L2.St->Hp->Prop}(h:IM X ρ H N τ S)(e:Ext ρ ρ' H H'):IM X ρ' H' N τ S:=λρ2 H2 d e2=>h ρ2 H2 d<|e.trans e2
abbrev Ck (X:Cx)(ρ:bb)(H:Hp)(D:Ends)(r:RS):Prop:=r.post (IM X ρ H D.nx) (zN X ρ H D.rt) (IM X ρ H D.bk) (IM X ρ H D.ct)<|XE X ρ H
def Ck.ext{X:Cx}{H H':Hp}{D:Ends}{r:RS}(h:Ck X ρ H D r)(e:Ext ρ ρ' H H'):Ck X ρ' H' D r:=RS.mono h (λ_ _ z=>z.ext e) (λ_ _ z=>z.ext e) (λ_ _ z=>z.ext e) (λ_ _ z=>z.ext e) λ_ _ z=>z.ext e
abbrev tS (X:Cx)(c:Sm):TS:=λD σ H=>∃ρ S τ,Rel X.K ρ H S/\SR X.K ρ H τ σ/\Ck X ρ H D (c τ S)
abbrev AS (X:Cx)(st:aF)(c:Sm):Prop:=PS X st<|tS X c
abbrev UK (X:Cx)(sts:List aF)(c:Sm):Prop:=CY X sts<|tS X c
abbrev tG (X:Cx)(g:Tg):TG:=λv σ H Q=>∃ρ S τ a,Rel X.K ρ H S/\SR X.K ρ H τ σ/\AV X.K ρ H a v/\(g a τ S).post (IM X ρ H Q) (XE X ρ H)
abbrev AG (X:Cx)(e:aE)(g:Tg):Prop:=PG X e<|tG X g
meta abbrev SD:=ae->ae->jV->R (ae)
abbrev tGs (X:Cx)(g:SD):V9:=λd σ H Q=>∃ρ S τ as,Rel X.K ρ H S/\SR X.K ρ H τ σ/\AVs X.K ρ H as d/\(g as τ S).post (IM X ρ H Q) (XE X ρ H)
abbrev AGs (X:Cx)(es:List aE)(g:SD):Prop:=PGs X es<|tGs X g
section
variable {X:Cx}{pos:Pos}{a b e:aE}{st:aF}{rest:List aF}{c d:Sm}
def PS.imp{t t':TS}(h:PS X st t)(i:∀D σ H,t' D σ H->t D σ H):PS X st t':=λpins s σ H D I q=>h pins s σ H D I<|i D σ H q
def CY.imp{t t':TS}(h:CY X rest t)(i:∀D σ H,t' D σ H->t D σ H):CY X rest t':=λpins s σ H D I q=>h pins s σ H D I<|i D σ H q
def PG.imp{t t':TG}(h:PG X e t)(i:∀v σ H Q,t' v σ H Q->t v σ H Q):PG X e t':=λpins s σ H v u Q I r q=>h pins s σ H v u Q I r<|i _ _ _ _ q
abbrev kG (i:Nat):Tg:=λa τ S=>.ok (τ.set i a) S
def kh{i:Nat}{x:Str}(hN:X.N.Nodup)(hi:X.N[i]?=some x<|>ε)(hx:Loc X.env.scope x:=by first|exact Or.inl rfl|exact Or.inr rfl)(hf:X.fn x=true\/X.env.scope.names.lookup x=some .local<|>γ):AG X (.Name x pos) (kG i):=
 PG.imp (JB hN hi hx hf) λv σ H Q ⟨ρ,S,τ,a,R,r,va,h⟩=>h ρ H _ .refl R<|r.set va
abbrev Bw:SD:=λas τ S=>match as with
 | []=>.ok τ S
 | _=>.no
abbrev tB (g:Tg)(gs:SD):SD:=λas τ S=>match as with
 | a::as=>(g a τ S).bind λd S1=>gs as d S1
 | []=>.no
def nZ:AGs X [] Bw:=λpins s σ H f us Q I r ⟨ρ,S,τ,as,R,d,va,h⟩=>Tq pins s σ H f us Q I r (by
 cases va with
 | nil=>exact⟨rfl,h ρ H σ .refl R d⟩
 | cons _ _=>exact h.elim)
def kO{g:Tg}{gs:SD}(h1:AG X e g)(h2:AGs X es gs)(hs:(assignEach (e::es) X.env).map (·.2)=assign e X.env::(assignEach es X.env).map (·.2)<|>ε):AGs X (e::es) (tB g gs):=
 λpins s σ H q us Q I r ⟨ρ,S,τ,as,R,p,va,h⟩=>Rz h1 h2 hs pins s σ H q us Q I r (by
  cases va with
  | nil=>exact h.elim
  | cons ha k=>exact⟨_,_,rfl,ρ,S,τ,_,R,p,ha,jX (j5 h) .refl λd S1 h1 ρ1 H1 j e1 R1 f=>⟨ρ1,S1,d,_,R1,f,k.ext e1,jX h1 e1 λ_ _ z=>z.ext e1⟩⟩)
abbrev Bv (n:Nat)(gs:SD):Tg:=λa τ S=>match a with
 | .tup xs | .ktu xs=>gd (xs.length=n) (gs xs τ S)
 | _=>.no
def qC{k n:Nat}{gs:SD}(hc:X.calm=true)(h:AGs X es gs)(hn:(assignEach es X.env).length=n<|>ε)(hst:(assignEach es X.env).findIdx? (·.1)=none<|>ε):AG X (.Tuple es k pos) (Bv n gs):=
 PG.imp (Ym hc h hn hst) λv σ H Q h9=>by
  obtain⟨ρ,S,τ,a,R,r,va,h⟩:=h9
  cases va with
  | tup h1 r1=>
   obtain⟨d,h⟩:=kB h;exact⟨_,_,rfl,nh.of h1,by rw[<- r1.length];exact d,ρ,S,τ,_,R,r,r1,h⟩
  | ktu h1 r1=>
   obtain⟨d,h⟩:=kB h;exact⟨_,_,rfl,.inr h1,by rw[<- r1.length];exact d,ρ,S,τ,_,R,r,r1,h⟩
  | _=>exact h.elim
abbrev Fl (o i v:A)(S:jV):R Unit:=match o,i with
 | .ref n,.int k=>opt (jT S n) λxs=>opt (EB xs.length k) λj=>.ok Unit.unit (S.set n<|.lst<|xs.set j v)
 | _,_=>.no
abbrev rSt (X:Cx):EE:=λo i v H Q=>∃ρ S ao f d,Rel X.K ρ H S/\AV X.K ρ H ao o/\AV X.K ρ H f i/\AV X.K ρ H d v/\(Fl ao f d S).post (λ_ g=>∀ρ' H',Ext ρ ρ' H H'->Rel X.K ρ' H' g->Q H') (XE X ρ H)
def SX:C1 X (rSt X):=λpins s σ H o i v g iv u Q I f q t h9=>by
 obtain⟨ρ,S,ao,G,F,R,h1,h2,h3,h⟩:=h9
 cases h1 with
 | @ref p n d=>
  cases h2 with
  | int k=>
   kj_on;obtain⟨j,D,h⟩:=jY h;obtain⟨C,e,r⟩:=R.lst d<|j8 hn;obtain⟨ex,B⟩:=R.put d (j8 hn)<|r.set h3 j;exact set_list pins s σ H _ _ v g iv u Q I f q t ⟨p,C,k,j,rfl,rfl,e,by rw[<- r.length];exact D,h _ _ ex B⟩
  | _=>exact h.elim
 | _=>exact h.elim
abbrev Uu (co ci:Ex):Tg:=λa τ S=>(co τ S).bind λo S1=>(ci τ S1).bind λi S2=>(Fl o i a S2).bind λ_ S3=>.ok τ S3
def yK{co ci:Ex}(ho:AE X o co)(hi:AE X i ci)
  (ha:(∀v,assign (.Subscript o i pos) X.env v=(do
   let ov <- holding [v] (eval o X.env)
   let iv <- holding [v,ov] (eval i X.env)
   standAt pos
   holding [v,ov,iv] (setItem ov iv v)
   release [v,ov,iv] []))<|>ζ):AG X (.Subscript o i pos) (Uu co ci):=PG.imp (A5 ho hi SX ha) λv σ H Q h9=>by
 obtain⟨ρ,S,τ,a,R,r,va,h⟩:=h9;w_up;k_ne;kpc_g
abbrev qR:Sm:=λτ S=>.nx τ S
abbrev ko (c d:Sm):Sm:=λτ S=>match c τ S with
 | .nx f g=>d f g
 | r=>r
def l9:UK X [] qR:=CY.imp Uz λD σ H ⟨ρ,S,τ,R,r,h⟩=>h ρ H σ .refl R r
def UU{D:Ends}{H:Hp}(h:tS X (ko c d) D σ H):aa2 (tS X c) (tS X d) D σ H:=by
 f_are;refine⟨ρ,S,τ,R,r,?_⟩;unfold ko at h
 cases hc:c τ S with
 | nx f S1=>
  rw[hc]at h;exact λρ1 H1 g e1 R1 r1=>⟨ρ1,S1,f,R1,r1,Ck.ext h e1⟩
 | rt a S1=>rw[hc]at h;exact h
 | bk f S1=>rw[hc]at h;exact h
 | ct f S1=>rw[hc]at h;exact h
 | ex x S1=>rw[hc]at h;exact h
 | no=>rw[hc]at h;exact h
def jW(h1:AS X st c)(h2:UK X rest d):UK X (st::rest) (ko c d):=CY.imp (Qj h1 h2) λD σ H h=>UU h
def j4(h1:AS X st c):UK X [st] c:=VB h1
abbrev Yp:Sm:=λτ S=>.bk τ S
abbrev aa_:Sm:=λτ S=>.ct τ S
abbrev nA (e:Ex):Sm:=λτ S=>.of (e τ S) λ_ S1=>.nx τ S1
def mS{f:Ex}(he:AE X e f)(hs:swapsWith e none pos.line X.env=pure false<|>ε):AS X (.Expr e pos) (nA f):=PS.imp (TX he hs) λD σ H ⟨ρ,S,τ,R,r,h⟩=>
 ⟨ρ,S,τ,R,r,jX (of_post h) .refl λa S1 h1 ρ1 H1 x e1 R1 v1=>h1 ρ1 H1 σ e1 R1<|r.ext e1⟩
abbrev mw (e:Ex):Sm:=λτ S=>.of (e τ S) λa S1=>.rt a S1
def kI{f:Ex}(he:AE X e f):AS X (.Return (some e) pos) (mw f):=PS.imp (YA he) λD σ H ⟨ρ,S,τ,R,r,h⟩=>⟨ρ,S,τ,R,r,jX (of_post h) .refl λa S1 h1=>h1⟩
abbrev abB:Sm:=λτ S=>.rt .non S
abbrev yo (t:Te)(c d:Sm):Sm:=λτ S=>.of (t τ S) λb S1=>match b with|true=>c τ S1|false=>d τ S1
def nU{t:Te}(ht:AT X e t)(ha:UK X ca c)(hb:UK X cb d):AS X (.If e ca cb pos) (yo t c d):=PS.imp (aar ht ha hb) λD σ H h9=>by
 z_go;refine⟨ρ,S,τ,R,r,jX (of_post h) .refl λb S1 h1 ρ1 H1 e1 R1=>?_⟩
 cases b with
 | true=>rw[aW rfl];exact⟨ρ1,S1,τ,R1,r.ext e1,Ck.ext h1 e1⟩
 | false=>rw[aV bw];exact⟨ρ1,S1,τ,R1,r.ext e1,Ck.ext h1 e1⟩
abbrev kP (e:Ex)(g:Tg):Sm:=λτ S=>.of (e τ S) λa S1=>.of (g a τ S1) λd S2=>.nx d S2
def TJ{f:Ex}{g:Tg}{D:Ends}{H:Hp}(h:tS X (kP f g) D σ H):Uk (tE X f) (tG X g) D σ H:=by
 f_are;exact⟨ρ,S,τ,R,r,jX (of_post h) .refl λa S1 h1 ρ1 H1 x e1 R1 v1=>⟨ρ1,S1,τ,a,R1,r.ext e1,v1,jX (of_post h1) e1 λd S2 h2=>IM.ext h2 e1⟩⟩
def oW{tg:aE}{f:Ex}{g:Tg}(he:AE X e f)(hg:AG X tg g)(hs:swapsWithSole [tg] e pos.line X.env=pure false<|>ε)(hw:swappedStores [tg] e X.env=pure none<|>ε)
  (h1:(assignEach [tg] X.env).map (·.2)=[assign tg X.env]<|>ε):AS X (.Assign [tg] e pos) (kP f g):=PS.imp (WV he hg hs hw h1) λD σ H h=>TJ h
def kC{i:Nat}{x:Str}{f:Ex}(hN:X.N.Nodup)(he:AE X e f)(hi:X.N[i]?=some x<|>ε)(hx:Loc X.env.scope x:=by first|exact Or.inl rfl|exact Or.inr rfl)(hs:(swapsWith e (some<|.Name x pos') pos.line X.env=pure false)<|>ε)(hf:X.fn x=true\/X.env.scope.names.lookup x=some .local<|>γ) :
  AS X (.Assign [.Name x pos'] e pos) (kP f<|kG i):=PS.imp (X9 hN hi hx he hs hf) λD σ H ⟨ρ,S,τ,R,r,h⟩=>
 ⟨ρ,S,τ,R,r,jX (of_post h) .refl λa S1 h1 ρ1 H1 x e1 R1 v1=>h1 ρ1 H1 _ e1 R1<|(r.ext e1).set v1⟩
abbrev adB (i j:Nat)(c:q_):Sm:=λτ S=>.of (c τ S) λas S1=>match as with
 | [a,b]=>.nx ((τ.set i a).set j b) S1
 | _=>.no
abbrev ip (X:Cx)(f:A->A->jV->R A):TIp:=λx y H Q=>∃ρ S a b,Rel X.K ρ H S/\AV X.K ρ H a x/\AV X.K ρ H b y/\(f a b S).post (zN X ρ H Q) (XE X ρ H)
abbrev ac4 (a b:A)(S:jV):R A:=match a,b with
 | .int i,.int j=>.ok (.int<|i+j) S
 | _,_=>.no
abbrev O0 (i:Nat)(f:A->A->jV->R A)(e:Ex):Sm:=λτ S=>if (τ.getD i .unb).pL then .no else .of (e τ S) λb S1=>.of (f (τ.getD i .unb) b S1) λc S2=>.nx (τ.set i c) S2
def WR{i:Nat}{x:Str}{c:Ex}{f:A->A->jV->R A}(hN:X.N.Nodup)(he:AE X e c)(ho:PIp X op<|ip X f)(hi:X.N[i]?=some x<|>ε)(hx:Loc X.env.scope x:=by first|exact Or.inl rfl|exact Or.inr rfl)(hf:X.fn x=true\/X.env.scope.names.lookup x=some .local<|>γ) :
  AS X (.AugAssign (.Name x pos') op e pos) (O0 i f c):=PS.imp (XR hN hi hx he ho hf) λD σ H h9=>by
 z_go;have d:∀x,τ[i]?=some x->x.pL=false->(RS.of (c τ S) λb S1=>.of (f x b S1) λc S2=>.nx (τ.set i c) S2).post (IM X ρ H D.nx) (zN X ρ H D.rt) (IM X ρ H D.bk) (IM X ρ H D.ct) (XE X ρ H) ->
   ∃x,σ[i]?=some (some x)/\tE X c σ H λy H1=>ip X f x y H1 λz H2=>D.nx (σ.set i<|some z) H2:=by
  intro x hi hx h
  rcases r.at i x hi with z|⟨v,e,q⟩
  ·subst z;cases hx
  ·refine⟨v,e,ρ,S,τ,R,r,jX (of_post h) .refl λb S1 h1 ρ1 H1 y e1 R1 v1=>⟨ρ1,S1,x,b,R1,q.ext e1,v1,jX (of_post h1) e1 λw S2 h2 ρ2 H2 z e2 R2 v2=>?_⟩⟩;exact h2 ρ2 H2 _ (e1.trans e2) R2<|(r.ext<|e1.trans e2).set v2
 unfold O0 Ck at h;rw[aK]at h
 cases hi:τ[i]? with
 | none=>rw[hi]at h;exact h.elim
 | some x=>
  rw[hi]at h
  cases hx:x.pL with
  | true=>rw[show(some x).getD .unb=x from rfl,hx]at h;exact h.elim
  | false=>rw[show(some x).getD .unb=x from rfl,hx]at h;exact d x hi hx h
abbrev Uv (a b:A)(S:jV):R A:=match a,b with
 | .ref n,.int i=>opt (jT S n) λxs=>gd (0<=i) (opt (xs[i.toNat]?) λx=>.ok x S)
 | _,_=>.no
abbrev aav (co ci ce:Ex)(f:A->A->jV->R A):Sm:=λτ S=>.of (co τ S) λo S1=>.of (ci τ S1) λi S2=>.of (Uv o i S2) λx S3=>.of (ce τ S3) λy j=>.of (f x y j) λz g=>.of (Fl o i z g) λ_ d=>.nx τ d
abbrev lD (t:Te)(c:Sm):Nat->Sm
 | 0=>λ_ _=>.no
 | n+1=>λτ S=>.of (t τ S) λb S1=>match b with
  | false=>.nx τ S1
  | true=>match c τ S1 with
   | .nx d f=>lD t c n d f
   | .ct d f=>lD t c n d f
   | .bk d f=>.nx d f
   | r=>r
def AH(n:Nat){t:Te}(hp:PassesOwn (model X.prog X.w) X.A X.env X.xe)(ht:AT X e t)(hb:UK X body c):AS X (.While e body [] pos) (lD t c n):=PS.imp (Nf hp ht hb) λD σ H h9=>by
 z_go;refine⟨λm j H'=>∃ρ' f d,Ext ρ ρ' H H'/\Rel X.K ρ' H' f/\SR X.K ρ' H' d j/\Ck X ρ' H' D (lD t c m d f),⟨n,ρ,S,τ,.refl,R,r,h⟩,?_⟩;rintro m q H1 ⟨ρ1,S1,g,e1,R1,r1,h1⟩
 cases m with
 | zero=>exact h1.elim
 | succ m=>
  refine⟨ρ1,S1,g,R1,r1,jX (of_post h1) .refl λb S2 h2 ρ2 H2 e2 R2=>?_⟩
  cases b with
  | false=>rw[aV bw];exact h2 ρ2 H2 q e2 R2 (r1.ext e2)
  | true=>
   rw[aW rfl];refine⟨λj H'=>∃ρ' f d,Ext ρ ρ' H H'/\Rel X.K ρ' H' f/\SR X.K ρ' H' d j/\Ck X ρ' H' D (lD t c m d f),λj H' z=>⟨m,dI _,z⟩,ρ2,S2,g,R2,r1.ext e2,?_⟩;have h2:Ck X ρ1 H1 D (match c g S2 with
    | .nx d f=>lD t c m d f
    | .ct d f=>lD t c m d f
    | .bk d f=>.nx d f
    | r=>r):=h2
   cases hc:c g S2 with
   | nx k S3=>rw[hc]at h2;exact λρ3 H3 p e3 R3 B=>⟨ρ3,S3,k,(e1.trans e2).trans e3,R3,B,Ck.ext h2<|e2.trans e3⟩
   | ct k S3=>rw[hc]at h2;exact λρ3 H3 p e3 R3 B=>⟨ρ3,S3,k,(e1.trans e2).trans e3,R3,B,Ck.ext h2<|e2.trans e3⟩
   | bk k S3=>rw[hc]at h2;exact IM.ext h2 e2
   | rt a S3=>rw[hc]at h2;exact zN.ext h2 e2
   | ex x S3=>rw[hc]at h2;exact XE.ext h2 e2
   | no=>rw[hc]at h2;exact h2
end
structure Src where
 k:Nat
 get:Nat->jV->Option A
 fin:jV->Bool
structure JR (K:au)(s:Src)(J:It)(ρ0:bb)(H0:Hp):Prop where
 go:∀(i:Nat) (S:jV) (H:Hp) (ρ:bb) (x:A),Ext0 ρ0 ρ H0 H->Rel K ρ H S->s.get i S=some x->J.go i H/\∀v H',J.yld i H v H'->Ext ρ ρ H H'/\Rel K ρ H' S/\AV K ρ H' x v
 stop:∀(S:jV) (H:Hp) (ρ:bb),Ext0 ρ0 ρ H0 H->Rel K ρ H S->s.fin S=true->J.stop s.k H
meta abbrev Ic:=ae->jV->R Src
abbrev tI (X:Cx)(c:Ic):TI:=λσ H Q=>∃ρ S τ,Rel X.K ρ H S/\SR X.K ρ H τ σ/\(c τ S).post (λs d=>∀ρ' H' J,Ext ρ ρ' H H'->Rel X.K ρ' H' d->JR X.K s J ρ' H'->Q J H') (XE X ρ H)
abbrev AI (X:Cx)(tg iter:aE)(c:Ic):Prop:=PI X tg iter<|tI X c
abbrev qD (xs:ae):Src:=⟨xs.length,λi _=>xs[i]?,λ_=>true⟩
abbrev l_ (n k:Nat):Src:=⟨k,λi S=>(jT S n).bind (·[i]?),λS=>match jT S n with
 | some ys=>decide (ys.length<=k)
 | none=>false⟩
abbrev sJ (lo hi:Int):Src:=⟨(hi-lo).toNat,λi _=>if i<(hi-lo).toNat then some (.int<|lo+i)else none,λ_=>true⟩
abbrev lJ (c:Ex):Ic:=λτ S=>(c τ S).bind λa S1=>match a with
 | .tup xs=>.ok (qD xs) S1
 | .frz xs=>.ok (qD xs) S1
 | .ref n=>opt (jT S1 n) λxs=>.ok (l_ n xs.length) S1
 | .str x=>gd (x.cps.all (· < 128)=true) (.ok (qD<|x.cps.toList.map λc=>.str ⟨#[c]⟩) S1)
 | _=>.no
section
variable {X:Cx}{pos:Pos}{tg e a b:aE}
def Xz{K:au}{H0:Hp}{p:ak}(h:nh K H0 p vs)(r:AVs K ρ0 H0 xs vs):JR K (qD xs) (Itt K p) ρ0 H0 where
 go:=λi S H ρ x e R g=>by
  obtain⟨v,ev,d⟩:=(AVs.mJ e r).get g;have hs:=e.sqT h;refine⟨⟨vs,v,hs,ev⟩,λw H' ⟨e1,y⟩=>?_⟩;subst e1;have:=y vs hs;rw[ev]at this
  cases this
  exact⟨.refl,R,d⟩
 stop:=λS H ρ e R _=>⟨vs,e.sqT h,by rw[<- r.length];exact aN _⟩
def YC{K:au}{H0:Hp}{p:ak}(h:Fz K H0 p vs)(r:AVs K ρ0 H0 xs vs):JR K (qD xs) (Itl K p) ρ0 H0 where
 go:=λi S H ρ x e R g=>by
  obtain⟨v,ev,d⟩:=(AVs.mJ e r).get g;have hs:=(e.fz h).SI;refine⟨⟨vs,v,hs,ev⟩,λw H' ⟨e1,y⟩=>?_⟩;subst e1;have:=y vs hs;rw[ev]at this
  cases this
  exact⟨.refl,R,d⟩
 stop:=λS H ρ e R _=>⟨vs,(e.fz h).SI,by rw[<- r.length];exact aN _⟩
def ZU{K:au}{ρ0:bb}{H0:Hp}{p:ak}{n k:Nat}(h:ρ0[n]?=some p):JR K (l_ n k) (Itl K p) ρ0 H0 where
 go:=λi S H ρ x e R g=>by
  obtain⟨ys,hn,f⟩:=bN.mp<|show(jT S n).bind (·[i]?)=some x from g;obtain⟨d,h1,r⟩:=R.lst (e.get h)<|j8 hn;obtain⟨v,ev,j⟩:=r.get f;refine⟨⟨d,v,oS.of h1,ev⟩,λw H' ⟨e1,y⟩=>?_⟩;subst e1;have:=y d<|oS.of h1;rw[ev]at this
  cases this
  exact⟨.refl,R,j⟩
 stop:=λS H ρ e R g=>by
  have g:(match jT S n with
   | some ys=>decide (ys.length<=k)
   | none=>false)=true:=g
  cases hn:jT S n with
  | none=>rw[hn]at g;cases g
  | some ys=>
   rw[hn]at g;obtain⟨d,h1,r⟩:=R.lst (e.get h)<|j8 hn;exact⟨d,oS.of h1,by rw[<- r.length];exact bV g⟩
def OC{K:au}{H0:Hp}{lo hi:Int}:JR K (sJ lo hi) (Itr lo (hi-lo).toNat) ρ0 H0 where
 go:=λi S H ρ x e R g=>by
  have g:(if i<(hi-lo).toNat then some (A.int<|lo+i)else none)=some x:=g;by_cases d:i<(hi-lo).toNat
  ·rw[aW d]at g
   cases g
   refine⟨d,λw H' ⟨e1,y⟩=>?_⟩;subst e1 y;exact⟨.refl,R,.int _⟩
  ·rw[aV d]at g;cases g
 stop:=λS H ρ e R _=>aN _
def W5{K:au}{H0:Hp}{x:Str}:JR K (qD<|x.cps.toList.map λc=>A.str ⟨#[c]⟩) (Its x) ρ0 H0 where
 go:=λi S H ρ y e R g=>by
  have g:(x.cps.toList.map λc=>A.str ⟨#[c]⟩)[i]?=some y:=g;rw[aR]at g;obtain⟨c,hc,rfl⟩:=aP.mp g;rw[cE]at hc;refine⟨(Array.getElem?_eq_some_iff.mp hc).1,λw H' ⟨e1,j,d,f⟩=>?_⟩;rw[hc]at d
  cases d
  subst e1 f;exact⟨.refl,R,.str _⟩
 stop:=λS H ρ e R _=>by
  show(x.cps.toList.map λc=>A.str ⟨#[c]⟩).length=x.cps.size;rw[aH,eF]
def l6{c:Ex}(he:AE X e c):AI X tg e (lJ c):=λpins s σ H Q I h9=>by
 z_go;have hb:=j5 h
 cases hc:c τ S with
 | no=>rw[hc]at hb;exact hb.elim
 | ex x S1=>
  rw[hc]at hb;exact QU he pins s σ H Q I ⟨ρ,S,τ,R,r,by rw[hc];exact hb⟩
 | ok a S1=>
  rw[hc]at hb
  cases a with
  | tup xs=>
   refine QU he pins s σ H Q I ⟨ρ,S,τ,R,r,?_⟩;rw[hc];intro ρ1 H1 x e1 R1 v1
   cases v1 with
   | tup h1 r1=>exact⟨_,rfl,⟨_,(nh.of h1)⟩,hb ρ1 H1 _ e1 R1<|Xz (nh.of h1) r1⟩
  | frz xs=>
   refine Lk he pins s σ H Q I ⟨ρ,S,τ,R,r,?_⟩;rw[hc];intro ρ1 H1 x e1 R1 v1
   cases v1 with
   | frz h1 r1=>exact⟨_,rfl,⟨_,h1.SI⟩,hb ρ1 H1 _ e1 R1<|YC h1 r1⟩
  | ref n=>
   obtain⟨xs,hn,hb⟩:=jY hb;refine Lk he pins s σ H Q I ⟨ρ,S,τ,R,r,?_⟩;rw[hc];intro ρ1 H1 x e1 R1 v1
   cases v1 with
   | ref d=>
    obtain⟨f,h1,r1⟩:=R1.lst d<|j8 hn;exact⟨_,rfl,⟨_,oS.of h1⟩,hb ρ1 H1 _ e1 R1<|ZU d⟩
  | str x=>
   obtain⟨ha,hb⟩:=kB hb;refine Y8 he pins s σ H Q I ⟨ρ,S,τ,R,r,?_⟩;rw[hc];intro ρ1 H1 v e1 R1 v1
   cases v1 with
   | str=>exact⟨x,rfl,ha,hb ρ1 H1 _ e1 R1 W5⟩
  | _=>exact hb.elim
abbrev bnd (i:Int):Prop:=-(2 ^ 62)<=i/\i<2 ^ 62
instance (i:Int):Decidable (bnd i):=by unfold bnd;infer_instance
abbrev tH (c:Ex):Ic:=λτ S=>(c τ S).bind λa S1=>match a with
 | .int j=>gd (bnd j) (.ok (sJ 0 j) S1)
 | _=>.no
abbrev uU (c d:Ex):Ic:=λτ S=>(c τ S).bind λa S1=>(d τ S1).bind λb S2=>match a,b with
 | .int i,.int j=>gd (bnd i/\bnd j) (.ok (sJ i j) S2)
 | _,_=>.no
def vY{p:Pos}{c:Ex}(hm:X.mg "range" = none)(ha:AE X a c)(hg:Gl X "range"<|>ε)(hs:starEach [a] X.env=[(false,eval a X.env)]<|>ε):AI X tg (.Call (.Name "range" p) [a] [] pos) (tH c):=λpins s σ H Q I h9=>by
 z_go;refine L8 hg hm (vV ha Bs hs) hs pins s σ H Q I ⟨ρ,S,τ,R,r,jX (j5 h) .refl λx S1 h1 ρ1 H1 v e1 R1 v1=>?_⟩
 cases v1 with
 | int j=>
  obtain⟨hb,h1⟩:=kB h1;exact⟨_,rfl,hb.1,hb.2,by have:=h1 ρ1 H1 _ e1 R1 OC;rwa [Int.sub_zero]at this⟩
 | _=>exact h1.elim
def vW{p:Pos}{c d:Ex}(hm:X.mg "range" = none)(ha:AE X a c)(hb:AE X b d)(hg:Gl X "range"<|>ε)(hs:starEach [a,b] X.env=[(false,eval a X.env),(false,eval b X.env)]<|>ε)(hs2:starEach [b] X.env=[(false,eval b X.env)]<|>ε):AI X tg (.Call (.Name "range" p) [a,b] [] pos) (uU c d):=λpins s σ H Q I h9=>by
 z_go;refine Mn hg hm (vV ha (vV hb Bs hs2)<|by rw[hs,hs2]) hs hs2 pins s σ H Q I ⟨ρ,S,τ,R,r,jX (j5 h) .refl λx S1 h1 ρ1 H1 v e1 R1 v1=>⟨ρ1,S1,τ,R1,r.ext e1,jX (j5 h1) e1 λy S2 h2 ρ2 H2 w e2 R2 v2=>?_⟩⟩
 cases v1 with
 | int i=>
  cases v2 with
  | int j=>
   obtain⟨hb,h2⟩:=kB h2;exact⟨_,_,rfl,⟨hb.1.1,hb.1.2,hb.2.1,hb.2.2⟩,h2 ρ2 H2 _ (e1.trans e2) R2 OC⟩
  | _=>exact h2.elim
 | _=>exact h2.elim
abbrev FZ (xs:ae):Src:=⟨xs.length,λi _=>(xs[i]?).map λx=>.tup [.int i,x],λ_=>true⟩
abbrev MZ (c:Ex):Ic:=λτ S=>(c τ S).bind λa S1=>match a with
 | .tup xs=>.ok (FZ xs) S1
 | _=>.no
def Z6{K:au}{H0:Hp}{p:ak}(h:nh K H0 p vs)(r:AVs K ρ0 H0 xs vs):JR K (FZ xs) (Ite K p) ρ0 H0 where
 go:=λi S H ρ x e R g=>by
  obtain⟨y,hy,rfl⟩:=aP.mp<|show(xs[i]?).map (λx=>A.tup [.int i,x])=some x from g;obtain⟨v,ev,k⟩:=(AVs.mJ e r).get hy;have hs:=e.sqT h;refine⟨⟨vs,v,hs,ev⟩,λw H' q=>?_⟩;obtain⟨B,f,rfl,t⟩:=q;have d:=t vs v hs ev;subst d;obtain⟨ex,j⟩:=R.im (u:=.tup [.int i,v]) f;exact⟨ex,j,.tup kK<|.cons (.int _)<|.cons (k.ext ex) .nil⟩
 stop:=λS H ρ e R _=>⟨vs,e.sqT h,by rw[<- r.length];rfl⟩
def RZ{p:Pos}{c:Ex}(hm:X.mg "enumerate" = none)(ha:AE X a c)(hg:Gl X "enumerate"<|>ε)(hs:starEach [a] X.env=[(false,eval a X.env)]<|>ε):AI X (.Tuple elts x1 tpos) (.Call (.Name "enumerate" p) [a] [] pos) (MZ c):=λpins s σ H Q I h9=>by
 z_go;refine Rj hg hm (vV ha Bs hs) hs pins s σ H Q I ⟨ρ,S,τ,R,r,jX (j5 h) .refl λx S1 h1 ρ1 H1 v e1 R1 v1=>?_⟩
 cases v1 with
 | tup h2 r2=>exact⟨_,_,rfl,(nh.of h2),h1 ρ1 H1 _ e1 R1<|Z6 (nh.of h2) r2⟩
 | _=>exact h1.elim
abbrev sF (s:Src)(g:Tg)(c:Sm):Nat->Nat->Sm
 | 0,_=>λτ S=>if s.fin S then .nx τ S else .no
 | k+1,i=>λτ S=>match s.get i S with
  | none=>.no
  | some x=>.of (g x τ S) λj S1=>match c j S1 with
   | .nx d f=>sF s g c k (i+1) d f
   | .ct d f=>sF s g c k (i+1) d f
   | .bk d f=>.nx d f
   | r=>r
abbrev mX (src:Ic)(g:Tg)(c:Sm):Sm:=λτ S=>.of (src τ S) λs S1=>sF s g c s.k 0 τ S1
theorem nv{iter:aE}{src:Ic}{g:Tg}{c:Sm}(hp:PassesOwn (model X.prog X.w) X.A X.env X.xe)(hc:X.calm=true)(hi:AI X tg iter src)(hg:AG X tg g)(hb:UK X body c)
  (hs:(∀x,foldedSetIterable iter X.env x=pure x)<|>ζ):AS X (.For tg iter body [] pos) (mX src g c):=PS.imp (Yn hp hc hi hg hb hs) λD σ H h9=>by
 z_go;refine⟨ρ,S,τ,R,r,jX (of_post h) .refl λs S1 h1 ρ1 H1 J e1 R1 jr=>?_⟩;refine⟨λi m B H'=>m+i=s.k/\∃ρ' q d,Ext ρ1 ρ' H1 H'/\Rel X.K ρ' H' q/\SR X.K ρ' H' d B/\Ck X ρ' H' D (sF s g c m i d q),⟨s.k,rfl,ρ1,S1,τ,.refl,R1,r.ext e1,Ck.ext h1 e1⟩,?_⟩;rintro i m V H2 ⟨hm,ρ2,S2,C,e2,R2,r2,h2⟩
 cases m with
 | zero=>
  left;have h2:Ck X ρ2 H2 D (if s.fin S2 then .nx C S2 else .no):=h2
  cases hf:s.fin S2 with
  | false=>rw[hf]at h2;exact h2.elim
  | true=>
   rw[hf]at h2;refine⟨by rw[show i=s.k by lia];exact jr.stop S2 H2 ρ2 e2.toExt0 R2 hf,h2 ρ2 H2 V .refl R2 r2⟩
 | succ m=>
  right;have h2:Ck X ρ2 H2 D (match s.get i S2 with
   | none=>.no
   | some x=>.of (g x C S2) λP S1=>match c P S1 with
    | .nx d q=>sF s g c m (i+1) d q
    | .ct d q=>sF s g c m (i+1) d q
    | .bk d q=>.nx d q
    | r=>r):=h2
  cases T:s.get i S2 with
  | none=>rw[T]at h2;exact h2.elim
  | some x=>
   rw[T]at h2;obtain⟨U,hy⟩:=jr.go i S2 H2 ρ2 x e2.toExt0 R2 T;refine⟨U,λB H'=>m+(i+1)=s.k/\∃ρ' q d,Ext ρ1 ρ' H1 H'/\Rel X.K ρ' H' q/\SR X.K ρ' H' d B/\Ck X ρ' H' D (sF s g c m (i+1) d q),λB H' z=>⟨m,dI _,z⟩,λv H3 y=>?_⟩;obtain⟨e3,R3,v3⟩:=hy v H3 y;refine⟨ρ2,S2,C,x,R3,r2.ext e3,v3,jX (of_post h2) e3 λM Z p O H4 σ4 e4 R4 r4=>⟨O,Z,M,R4,r4,?_⟩⟩;have f:=e3.trans e4
   cases j:c M Z with
   | nx t G=>rw[j]at p;exact λF H5 N L Y W=>⟨(),F,G,t,(e2.trans f).trans L,Y,W,Ck.ext p<|f.trans L⟩
   | ct t G=>rw[j]at p;exact λF H5 N L Y W=>⟨(),F,G,t,(e2.trans f).trans L,Y,W,Ck.ext p<|f.trans L⟩
   | bk t G=>rw[j]at p;exact IM.ext p f
   | rt x5 G=>rw[j]at p;exact zN.ext p f
   | ex x5 G=>rw[j]at p;exact XE.ext p f
   | no=>rw[j]at p;exact p
end
abbrev R.nV {α β:Type}(r:R α)(f:α->jV->R β):R β:=match r with
 | .ok a S=>f a S
 | _=>.no
def o8{α β:Type}{r:R α}{f:α->jV->R β}{b:β}(h:r.nV f=.ok b S2):∃a S,r=.ok a S/\f a S=.ok b S2:=by
 cases r with
 | ok a S=>exact⟨a,S,rfl,h⟩
 | ex _ _=>cases h
 | no=>cases h
def Ao{α β:Type}{r:R α}{f:α->jV->R β}{P:β->jV->Prop}{E:Str->jV->Prop}(h:(r.nV f).post P E):∃a S,r=.ok a S/\(f a S).post P E:=by
 cases r with
 | ok a S=>exact⟨a,S,rfl,h⟩
 | ex _ _=>exact h.elim
 | no=>exact h.elim
def DE{α β:Type}{o:Option β}{f:β->R α}{a:α}(h:opt o f=.ok a S):∃b,o=some b/\f b=.ok a S:=by
 cases o with
 | none=>cases h
 | some b=>exact⟨b,rfl,h⟩
abbrev nP (s:Src)(g:Tg)(t:Te)(e:Ex):Nat->Nat->ae->jV->R (ae)
 | 0,_=>λ_ S=>if s.fin S then .ok [] S else .no
 | k+1,i=>λτ S=>opt (s.get i S) λx=>(g x τ S).nV λd S1=>(t d S1).nV λb S2=>match b with
  | true=>(e d S2).nV λy S3=>(nP s g t e k (i+1) d S3).nV λys f=>.ok (y::ys) f
  | false=>nP s g t e k (i+1) d S2
abbrev l7 (cap:List<|bj)(τ:ae):ae:=cap.map λo=>match o with
 | some j=>τ.getD j .unb
 | none=>.unb
abbrev kL (cap:List<|bj)(src:Ic)(g:Tg)(t:Te)(e:Ex):Ex:=λτ S=>(src τ S).bind λs S1=>(nP s g t e s.k 0 (l7 cap τ) S1).nV λys S2=>newL ys S2
abbrev nM:Te:=λ_ S=>.ok true S
def ET{s:Src}{g:Tg}{t:Te}{e:Ex}{k:Nat}{T:Prop}(h:nP s g t e (k+1) i τ S=.ok zs S')
  (q:∀x τ1 S1 b S2,s.get i S=some x->g x τ S=.ok τ1 S1->t τ1 S1=.ok b S2->(b=true->∃y S3 ws,e τ1 S2=.ok y S3/\nP s g t e k (i+1) τ1 S3=.ok ws S'/\zs=y::ws)->(b=false->nP s g t e k (i+1) τ1 S2=.ok zs S')->T):T:=by
 obtain⟨x,f,h⟩:=DE h;obtain⟨τ1,S1,h1,h⟩:=o8 h;obtain⟨b,S2,h2,h⟩:=o8 h;refine q x τ1 S1 b S2 f h1 h2 (λhb=>?_) λhb=>?_
 ·subst hb;obtain⟨y,S3,h3,h⟩:=o8 h;obtain⟨ws,j,d,h⟩:=o8 h
  cases h
  exact⟨y,S3,ws,h3,d,rfl⟩
 ·subst hb;exact h
structure Out (ρ1:bb)(H1:Hp)(D:ak)(accV:List V)(ρ:bb)(H:Hp):Prop where
 e0:Ext0 ρ1 ρ H1 H
 fr:∀a u,a≠D->H1 a=some u->a∉ρ1->H a=some u
 nw:∀a∈ρ,a∈ρ1\/H1 a=none
 nD:D∉ρ
 hD:H D=some (.lst accV)
def Out.stay{H1 H3 H7:Hp}{D:ak}(o:Out ρ1 H1 D accV ρ3 H3)(hD1:H1 D=none)(e7:Ext ρ3 ρ7 H3 H7):Out ρ1 H1 D accV ρ7 H7:=by
 refine⟨⟨o.e0.pre.trans e7.pre,λa u i h=>e7.im a u i<|o.e0.im a u i h⟩,λa u na f g=>e7.fr a u (o.fr a u na f g) λz=>(o.nw a z).elim g λz=>by(rw[z]at f;cases f),λa ha=>?_,λz=>(e7.nw D z).elim o.nD λz=>by(rw[o.hD]at z;cases z),e7.fr D _ o.hD o.nD⟩;by_cases d:a∈ρ1
 ·exact .inl d
 ·right
  cases q:H1 a with
  | none=>rfl
  | some u=>
   have j:a≠D:=kg q hD1
   rcases e7.nw a ha with z|z
   ·exact((o.nw a z).elim d λz=>by(rw[z]at q;cases q)).elim
   ·rw[o.fr a u j q d]at z;cases z
def Out.put{H1 H:Hp}{D:ak}(o:Out ρ1 H1 D accV ρ H)(ex:Ext0 ρ ρ H<|upd H D<|.lst vs):Out ρ1 H1 D vs ρ (upd H D<|.lst vs):=
 ⟨⟨o.e0.pre,λa u i h=>ex.im a u i<|o.e0.im a u i h⟩,λa u na d f=>by rw[jZ na];exact o.fr a u na d f,o.nw,o.nD,kK⟩
def Out.end{H1 H:Hp}{D:ak}(o:Out ρ1 H1 D accV ρ H)(hD:H1 D=none):Ext ρ1 (ρ++[D]) H1 H:=by
 refine⟨⟨o.e0.pre.trans<|dG _ _,o.e0.im⟩,λa u d na=>o.fr a u (kg d hD) d na,λa ha=>?_⟩
 rcases bH.mp ha with z|z
 ·exact o.nw a z
 ·have:a=D:=by simpa using z
  rw[this];exact .inr hD
abbrev Cq (K:au)(ρ1:bb)(H1:Hp)(D:ak)(ys:ae)(k:Nat)(E:bb->Hp->Prop)(P:Nat->Nat->ae->jV->ae->Prop)(i m:Nat)(σ:L2.St)(H:Hp):Prop:=
 m+i=k/\∃ρ S τ acc zs accV,Out ρ1 H1 D accV ρ H/\E ρ H/\Rel K ρ H S/\SR K ρ H τ σ/\AVs K ρ H acc accV/\P m i τ S zs/\acc++zs=ys
section
variable {K:au}{ρ1 ρ:bb}{H1 H:Hp}{D:ak}{ys acc zs:ae}{accV:List V}{k i m:Nat}{E:bb->Hp->Prop}{P:Nat->Nat->ae->jV->ae->Prop}{σ:L2.St}{S:jV}{τ:ae}
def Cq.el{T:Prop}(h:Cq K ρ1 H1 D ys k E P i m σ H)(q:∀ρ S τ acc zs accV,m+i=k->Out ρ1 H1 D accV ρ H->E ρ H->Rel K ρ H S->SR K ρ H τ σ->AVs K ρ H acc accV->P m i τ S zs->acc++zs=ys->T):T:=by
 obtain⟨j,ρ,S,τ,acc,zs,accV,h1,h2,h3,d,p,f,g⟩:=h;exact q ρ S τ acc zs accV j h1 h2 h3 d p f g
def Cq.of(hm:m+i=k)(o:Out ρ1 H1 D accV ρ H)(e:E ρ H)(R:Rel K ρ H S)(r:SR K ρ H τ σ)(v:AVs K ρ H acc accV)(p:P m i τ S zs)(q:acc++zs=ys):Cq K ρ1 H1 D ys k E P i m σ H:=⟨hm,ρ,S,τ,acc,zs,accV,o,e,R,r,v,p,q⟩
end
abbrev Wb (K:au)(c:Ex):TE:=λσ H Q=>∃ρ S τ a d,Rel K ρ H S/\SR K ρ H τ σ/\c τ S=.ok a d/\∀ρ' H' v,Ext ρ ρ' H H'->Rel K ρ' H' d->AV K ρ' H' a v->Q v H'
abbrev Zn (K:au)(c:Te):TT:=λσ H Q=>∃ρ S τ a d,Rel K ρ H S/\SR K ρ H τ σ/\c τ S=.ok a d/\∀ρ' H',Ext ρ ρ' H H'->Rel K ρ' H' d->Q a H'
abbrev tG0 (K:au)(g:Tg):TG:=λv σ H Q=>∃ρ S τ a f j,Rel K ρ H S/\SR K ρ H τ σ/\AV K ρ H a v/\g a τ S=.ok f j/\∀ρ' H' d,Ext ρ ρ' H H'->Rel K ρ' H' j->SR K ρ' H' f d->Q d H'
section
variable {X:Cx}{pos:Pos}{tg iter elt e:aE}{ifs:List aE}{scope:Scope}{N:ar}{cap:List (bj)}{src:Ic}{g:Tg}{t:Te}{c:Ex}
def AE.e0{K:au}(hK:X.K=K)(h:AE X e c):PE X e (Wb K c):=PE.imp h λσ H Q ⟨ρ,S,τ,a,g,R,r,hc,q⟩=>⟨ρ,S,τ,by rw[hK];exact R,by rw[hK];exact r,by rw[hc];exact λρ' H' v e d f=>q ρ' H' v e (by rw[<- hK];exact d)<|by rw[<- hK];exact f⟩
def AT.t0{K:au}(hK:X.K=K)(h:AT X e t):PT X e (Zn K t):=PT.imp h λσ H Q ⟨ρ,S,τ,a,f,R,r,hc,q⟩=>⟨ρ,S,τ,by rw[hK];exact R,by rw[hK];exact r,by rw[hc];exact λρ' H' e d=>q ρ' H' e<|by rw[<- hK];exact d⟩
def AG.g0{K:au}(hK:X.K=K)(h:AG X e g):PG X e (tG0 K g):=by
 subst hK;refine PG.imp h λv σ H Q h9=>?_;obtain⟨ρ,S,τ,a,d,f,R,r,va,hc,q⟩:=h9;exact⟨ρ,S,τ,a,R,r,va,by rw[hc];exact q⟩
abbrev ATs (X:Cx)(ifs:List aE)(t:Te):Prop:=SJ X ifs<|Zn X.K t
def oh:ATs X [] nM:=λpins s σ H Q I ⟨ρ,S,τ,a,d,R,r,hc,q⟩=>U1 pins s σ H Q I<|by cases hc;exact q ρ H .refl R
def uF(h:AT X e t):ATs X [e] t:=Vq<|h.t0 rfl
def Wv{K:au}{H:Hp}(r:SR K ρ H τ σ)(cap:List<|bj):SR K ρ H (l7 cap τ) (cap.map<|Tv σ):=by
 refine⟨by simp[l7],λi a h=>?_⟩;unfold l7 at h;rw[aR]at h;obtain⟨o,f,e⟩:=aP.mp h
 cases o with
 | none=>exact .inl e.symm
 | some j=>
  have e:τ.getD j .unb=a:=e
  cases d:τ[j]? with
  | none=>rw[aK,d]at e;exact .inl e.symm
  | some b=>
   rw[aK,d]at e;have e:b=a:=e;subst e
   rcases r.at j b d with z|⟨v,h1,h2⟩
   ·exact .inl z
   ·exact .inr ⟨v,by rw[aR,f];show some ((σ[j]?).getD none)=_;rw[h1];rfl,h2⟩
def Rel.BZ{K:au}{H:Hp}{p:ak}(R:Rel K ρ H S)(hp:H p=none):p∉ρ:=λg=>by
 obtain⟨n,hn,e⟩:=cA.mp g;have j:n<S.length:=by rw[<- R.len];exact hn
 have:=R.at n p S[n] (by rw[aI hn,e]) (aI j)
 cases d:S[n]with
 | lst xs=>rw[d]at this;obtain⟨f,h,_⟩:=this;rw[hp]at h;cases h
 | dct _|qv _|uY _|u0 _=>rw[d]at this;obtain⟨f,h,_⟩:=this;rw[hp]at h;cases h
 | dcf _=>rw[d]at this;obtain⟨_,f,h,_⟩:=this;rw[hp]at h;cases h
 | ins _ _=>rw[d]at this;obtain⟨_,_,h⟩:=this;rw[hp]at h;cases h
def GC(σ:L2.St)(H:Hp)(Q:VK)(h:tE X (kL cap src g t c) σ H Q):tLC cap (tI X src) (tG0 X.K g) (Zn X.K t) (Wb X.K c) σ H Q:=by
 f_are;refine⟨ρ,S,τ,R,r,jX (j5 h) .refl λs S1 h1 ρ1 H1 J e1 R1 jr D hD=>?_⟩;obtain⟨ys,S2,W,h1⟩:=Ao h1;obtain⟨F,h1⟩:=kB h1;have h1:zN X ρ H Q (.ref S2.length) (S2++[.lst ys]):=h1;obtain⟨eD,RD⟩:=R1.im (u:=.lst []) hD;refine⟨Cq X.K ρ1 H1 D ys s.k (λ_ _=>True) λm i τ S zs=>nP s g t c m i τ S=.ok zs S2,⟨s.k,.of rfl ⟨eD.toExt0,λa u na hu _=>by rw[jZ na];exact hu,λa ha=>.inl ha,R1.BZ hD,kK⟩ trivial RD (Wv ((r.ext e1).ext eD) cap) .nil W rfl⟩,?_⟩;intro i m σ3 H3 hw;refine hw.el λρ3 S3 τ3 acc zs accV hm B _ R3 r3 p d f=>?_;clear hw
 cases m with
 | zero=>
  left;have d:(if s.fin S3 then Am.R.ok [] S3 else .no)=.ok zs S2:=d
  cases hf:s.fin S3 with
  | false=>rw[hf]at d;cases d
  | true=>
   rw[hf]at d
   cases d
   rw[cu]at f;subst f;refine⟨by rw[show i=s.k by lia];exact jr.stop _ H3 ρ3 B.e0 R3 hf,?_⟩;obtain⟨RT,gt⟩:=R3.take B.hD B.nD p;exact h1 (ρ3++[D]) H3 _ (e1.trans<|B.end hD) RT<|.ref gt
 | succ m=>
  right;refine ET d λx C S4 b S5 hx Y V hT hF=>?_;have jg:=jr.go i S3 H3 ρ3 x B.e0 R3 hx;refine⟨jg.1,λv H4 y=>?_⟩;obtain⟨e4,R4,v4⟩:=jg.2 v H4 y;refine⟨ρ3,S3,τ3,x,C,S4,R4,r3.ext e4,v4,Y,λT H5 σ5 e5 R5 N=>⟨T,S4,C,b,S5,R5,N,V,λU H6 L R6=>?_⟩⟩;have j:=(e4.trans e5).trans L
  cases b with
  | false=>
   dsimp only;rw[aV bw];exact⟨m,dI _,.of () (B.stay hD j) trivial R6 (N.ext L) (p.ext j) (hF rfl) f⟩
  | true=>
   dsimp only;rw[aW rfl];obtain⟨y,S6,ws,Z,P,G⟩:=hT rfl;refine⟨U,S5,C,y,S6,R6,N.ext L,Z,λρ7 H7 w O R7 v7=>?_⟩;have M:=B.stay hD<|j.trans O;obtain⟨q,R8⟩:=R7.out (ws:=accV++[w]) M.hD M.nD;have l1:=p.length;refine⟨accV,M.hD,?_,m,dI _,.of () (M.put q) trivial R8 ((N.ext<|L.trans O).mJ q) (AVs.mJ q<|(p.ext<|j.trans O).append<|.one v7) P ?_⟩
   ·have:(acc++zs).length<=sizeLine:=by rw[f];exact F
    rw[G,bh,bB]at this
    lia
   ·rw[cQ,<- f,G];rfl
def mT(hc:X.calm=true)(Sc:CpScope X scope N cap)(hi:AI X tg iter src)(hg:∀C s₀ H₀ ex,AG (lR X scope N C s₀ H₀ ex) tg g)(ht:∀C s₀ H₀ ex,ATs (lR X scope N C s₀ H₀ ex) ifs t)(he:∀C s₀ H₀ ex,AE (lR X scope N C s₀ H₀ ex) elt c)
  (hs:(∀x,foldedSetIterable iter X.env x=pure x)<|>ζ):AE X (.ListComp elt [⟨tg,iter,ifs,0⟩] scope pos) (kL cap src g t c):=
 PE.imp (abg hc Sc hi (g:=tG0 X.K g) (tc:=Zn X.K t) (te:=Wb X.K c) (λC s₀ H₀ ex=>(hg C s₀ H₀ ex).g0 rfl) (λC s₀ H₀ ex=>ht C s₀ H₀ ex) (λC s₀ H₀ ex=>(he C s₀ H₀ ex).e0 rfl) hs) GC
def Ul{i:Nat}{x:Str}{spos:Pos}(hN:X.N.Nodup)(hc:X.calm=true)(Sc:CpScope X scope N cap)(hi:AI X tg iter src)(hg:∀C s₀ H₀ ex,AG (lR X scope N C s₀ H₀ ex) tg g)(ht:∀C s₀ H₀ ex,ATs (lR X scope N C s₀ H₀ ex) ifs t)(he:∀C s₀ H₀ ex,AE (lR X scope N C s₀ H₀ ex) elt c)
  (hi':X.N[i]?=some x<|>ε) (hx:Loc X.env.scope x:=by first|exact Or.inl rfl|exact Or.inr rfl)
  (hsw:(swapsWith (.ListComp elt [⟨tg,iter,ifs,0⟩] scope pos) (some<|.Name x pos') spos.line X.env=pure true)<|>ε) (hf:X.fn x=true\/X.env.scope.names.lookup x=some .local<|>γ)
  (hs:(∀x,foldedSetIterable iter X.env x=pure x)<|>ζ):AS X (.Assign [.Name x pos'] (.ListComp elt [⟨tg,iter,ifs,0⟩] scope pos) spos) (kP (kL cap src g t c)<|kG i):=
 PS.imp (N3 hN hi' hx hc Sc hi (g:=tG0 X.K g) (tc:=Zn X.K t) (te:=Wb X.K c) (λC s₀ H₀ ex=>(hg C s₀ H₀ ex).g0 rfl) (λC s₀ H₀ ex=>ht C s₀ H₀ ex) (λC s₀ H₀ ex=>(he C s₀ H₀ ex).e0 rfl) hsw hf hs) λD σ H ⟨ρ,S,τ,R,r,h⟩=>
  GC σ H _ ⟨ρ,S,τ,R,r,jX (of_post h) .refl λa S1 h1 ρ1 H1 x e1 R1 v1=>h1 ρ1 H1 _ e1 R1<|(r.ext e1).set v1⟩
end
abbrev A.lst? (S:jV):A->Option (ae)
 | .ref n=>jT S n
 | _=>none
abbrev F8 (f:A->ae->jV->R A)(co:Ex)(d:q_):Ex:=λτ S=>(co τ S).bind λo S1=>opt (o.lst? S1) λ_=>(d τ S1).bind λas S2=>f o as S2
abbrev Qn (f:A->ae->jV->R A)(co:Ex):Ex:=λτ S=>(co τ S).bind λo S1=>opt (o.lst? S1) λ_=>f o [] S1
abbrev rM (X:Cx)(f:A->ae->jV->R A):V->List V->Hp->VK->Prop:=λx d H Q=>∃ρ S o as,Rel X.K ρ H S/\AV X.K ρ H o x/\AVs X.K ρ H as d/\(f o as S).post (zN X ρ H Q) (XE X ρ H)
section
variable {X:Cx}{apos cpos:Pos}{o e:aE}{es:List aE}{name:Str}{id:String}{f:A->ae->jV->R A}{co:Ex}{d:q_}
def lst?_ty{K:au}{H:Hp}{x:A}{v:V}(R:Rel K ρ H S)(h:AV K ρ H x v)(e:x.lst? S=some xs):XT K "list" v H:=by
 cases h with
 | ref h=>
  obtain⟨d,h1,_⟩:=R.lst h<|j8 e;exact .inl ⟨rfl,d,oS.of h1⟩
 | _=>cases e
def wF(slot:Slot "list" name id)(hty:typeOf (.builtin id)=pure (.type "method_descriptor"))(hm:E_ X id<|rM X f)(ho:AE X o co)(ha:AL X (e::es) d)
  (hbase:attributeBase o name X.env (eval o X.env)=eval o X.env<|>ε)
  (hfew:(((backTo cpos<|starEach (e::es) X.env).all (λx=>!x.1) && (backToKw cpos<|keywordEach [] X.env).all (λx=>x.1.isSome)
   && decide ((e::es).length+([]:List Keyword).length+(if ([]:List Keyword).isEmpty then 0 else 1)<30))=true)<|>ε)
  (hline:(apos.endLine == cpos.line)=true<|>ε) (hs:starEach (e::es) X.env=(false,eval e X.env)::starEach es X.env<|>ε) (hplain:((backTo cpos<|starEach es X.env).any (·.1)=false)<|>ε) :
  AE X (.Call (.Attribute o name apos) (e::es) [] cpos) (F8 f co d):=PE.imp (J5 gS slot hty hm ho ha hbase hfew hline hs hplain) λσ H Q h9=>by
 z_go;gp_on;obtain⟨xs,g,h1⟩:=jY h1;refine⟨lst?_ty R1 v1 g,ρ1,S1,τ,R1,r.ext e1,jX (j5 h1) e1 λas S2 h2 ρ2 H2 j e2 R2 v2=>?_⟩;kst_p
def Rp(slot:Slot "list" name id)(hty:typeOf (.builtin id)=pure (.type "method_descriptor"))(hm:E_ X id<|rM X f)(ho:AE X o co)
  (hbase:attributeBase o name X.env (eval o X.env)=eval o X.env<|>ε) (hline:(apos.endLine == cpos.line)=true<|>ε):AE X (.Call (.Attribute o name apos) [] [] cpos) (Qn f co):=PE.imp (Z3 gS slot hty hm ho hbase hline) λσ H Q h9=>by
 z_go;gp_on;obtain⟨xs,d,h1⟩:=jY h1;exact⟨lst?_ty R1 v1 d,ρ1,S1,x,[],R1,v1,.nil,jX h1 e1 λ_ _ z=>z.ext e1⟩
abbrev mV (o:A)(as:ae)(S:jV):R A:=match o,as with
 | .ref n,[x]=>opt (jT S n) λxs=>gd (xs.length<sizeLine) (.ok .non<|S.set n<|.lst<|xs++[x])
 | _,_=>.no
def qd:E_ X "list.append" (rM X mV):=λpins s σ H x q v us Q I rx k h9=>by
 cb_eq
 cases vo with
 | @ref p n d=>
  match as,va,h with
  | [],_,h=>exact h.elim
  | _::_::_,_,h=>exact h.elim
  | [y],va,h=>
   obtain⟨w,rfl,hw⟩:=LJ va;kj_on;obtain⟨g,h⟩:=kB h;obtain⟨f,h1,r⟩:=R.lst d<|j8 hn;obtain⟨ex,j⟩:=R.put d (j8 hn)<|r.append<|.one hw;exact B8 pins s σ H _ _ v us Q I rx k ⟨p,f,w,rfl,rfl,h1,by rw[<- r.length];exact g,h _ _ _ ex j .non⟩
 | _=>exact h.elim
abbrev Xc (o:A)(as:ae)(S:jV):R A:=match o,as with
 | .ref n,[]=>opt (jT S n) λxs=>opt (xs[xs.length-1]?) λx=>.ok x (S.set n<|.lst xs.dropLast)
 | _,_=>.no
def AVs.dropLast{K:au}{H:Hp}{xs:ae}{vs:List V}(r:AVs K ρ H xs vs):AVs K ρ H xs.dropLast vs.dropLast:=by
 rw[List.dropLast_eq_take,List.dropLast_eq_take,r.length];exact r.take _
def abt:E_ X "list.pop" (rM X Xc):=λpins s σ H x q v us Q I rx k h9=>by
 cb_eq
 cases vo with
 | @ref p n d=>
  match as,va,h with
  | _::_,_,h=>exact h.elim
  | [],va,h=>
   cases va
   kj_on;obtain⟨y,hy,h⟩:=jY h;obtain⟨g,h1,r⟩:=R.lst d<|j8 hn;obtain⟨w,hw,f⟩:=r.get hy;obtain⟨ex,j⟩:=R.put d (j8 hn) r.dropLast;exact ZG pins s σ H _ _ v us Q I rx k ⟨p,g,w,rfl,rfl,h1,by rw[<- r.length];exact hw,h _ _ _ ex j<|f.ext ex⟩
 | _=>exact h.elim
abbrev HB (o:A)(as:ae)(S:jV):R A:=match o,as with
 | .ref n,[.int i]=>opt (jT S n) λxs=>gd (-(2 ^ 63)<=i/\i<2 ^ 63) (opt (seqIndex? i xs.length) λk=>opt (xs[k]?) λx=>.ok x<|S.set n<|.lst<|xs.eraseIdx k)
 | _,_=>.no
def Tc:E_ X "list.pop" (rM X HB):=λpins s σ H x C v us Q I rx B h9=>by
 cb_eq
 cases vo with
 | @ref p n f=>
  match as,va,h with
  | [],_,h=>exact h.elim
  | y::_::_,_,h=>exact(by cases y<;>exact h.elim)
  | [y],va,h=>
   obtain⟨w,rfl,hw⟩:=LJ va
   cases hw with
   | int i=>
    kj_on;obtain⟨d,h⟩:=kB h;obtain⟨k,g,h⟩:=jY h;obtain⟨y,hy,h⟩:=jY h;obtain⟨q,h1,r⟩:=R.lst f<|j8 hn;obtain⟨w,hw,j⟩:=r.get hy;obtain⟨ex,t⟩:=R.put f (j8 hn)<|r.eraseIdx k;exact N2 pins s σ H _ _ v us Q I rx B ⟨p,q,i,k,w,rfl,rfl,h1,d.1,d.2,by rw[<- r.length];exact g,hw,h _ _ _ ex t<|j.ext ex⟩
   | _=>exact h.elim
 | _=>exact h.elim
end
abbrev lY (N:ar)(m:Sm)(as:ae)(S:jV):R A:=match m (as++List.replicate (N.length-as.length) .unb) S with
 | .rt a d=>.ok a d
 | .nx _ d=>.ok .non d
 | .ex c d=>.ex c d
 | _=>.no
abbrev qQ (K:au)(n:Nat)(F:ae->jV->R A):Sp:=λf H Q _=>f.length=n/\∃ρ S as a d,Rel K ρ H S/\AVs K ρ H as f/\F as S=.ok a d/\∀ρ' H' v,Ext ρ ρ' H H'->Rel K ρ' H' d->AV K ρ' H' a v->Q v H'
def T7{K:au}{H:Hp}{as:ae}(r:AVs K ρ H as vs)(N:ar):SR K ρ H (as++List.replicate (N.length-as.length) .unb) (L2.start N vs):=by
 have g:=r.length;refine⟨by unfold L2.start;simp[g],λi a h=>?_⟩;by_cases d:i<as.length
 ·rw[bu d]at h;obtain⟨v,hv,f⟩:=r.get h;exact .inr ⟨v,by unfold L2.start;rw[bu<|by simp;lia,aR,hv];rfl,f⟩
 ·rw[jd (),List.getElem?_replicate]at h;split at h
  ·exact .inl (bg h).symm
  ·cases h
section
variable {P:aj}{w:ah}{K:au}{mg:Str->bd}{base:aq}
def uG{x:Str}{st:aF}{f:ak}{N ps:ar}{k:Nat}{m:Sm}(F:Fun K x qual st f fd)(Sc:FnScope N ps<|j9 st)
  (body:∀(cdv:af) (A:aA) (outer:List Env) (s:aC) (H:Hp) (E:XK),Room k (A.deeper<|envOfC qual (j9 st) s.heap.objs.size f cdv)->UK (Hw qf P w K mg base N qual (j9 st) f cdv A outer s H E).nox (sE st) m) :
  FnOk P w K mg base qf (k+1) f fd ps (qQ K ps.length<|lY N m):=by
 refine F.ok Sc (λp H Q E h=>h.1) λcdv B outer s H p Q E C ⟨G,ρ,S,as,a,D,R,va,d,q⟩=>⟨_,body cdv B outer s H E C,ρ,S,_,R,T7 va N,?_⟩;unfold lY at d
 cases g:m (as++List.replicate (N.length-as.length) .unb) S with
 | rt b S2=>rw[g]at d;cases d;exact q
 | nx τ S2=>rw[g]at d;cases d;exact λρ' H' t e j _=>q ρ' H' _ e j .non
 | bk τ S2=>rw[g]at d;cases d
 | ct τ S2=>rw[g]at d;cases d
 | ex c S2=>rw[g]at d;cases d
 | no=>rw[g]at d;cases d
end
meta abbrev ow (P:aj)(w:ah)(K:au)(mg:Str->bd)(base:aq)(k:Nat)(x:Str)(ps:ar)(F:ae->jV->R A):Prop:=Kn P w K mg base k x ps<|qQ K ps.length F
abbrev eFn (F:ae->jV->R A)(d:q_):Ex:=λτ S=>(d τ S).bind λas S1=>match F as S1 with
 | .ok a S2=>.ok a S2
 | _=>.no
section
variable {X:Cx}{pos p:Pos}{e:aE}{es:List aE}{x:Str}{ps:ar}{k:Nat}{F:ae->jV->R A}{d:q_}
def rY(G:ow X.prog X.w X.K X.mg X.base k x ps F)(hr:Room k X.A)(ha:AL X (e::es) d)(hl:∀τ S as S',d τ S=.ok as S'->as.length=ps.length)(hg:Gl X x<|>ε)(hdb:(x == ("__debug__" : Str))=false<|>δ)
  (hs:starEach (e::es) X.env=(false,eval e X.env)::starEach es X.env<|>ε) (hplain:((backTo pos<|starEach es X.env).any (·.1)=false)<|>ε):AE X (.Call (.Name x p) (e::es) [] pos) (eFn F d):=
 PE.imp (abT G hr ha hg hdb hs hplain) λσ H Q h9=>by
  z_go;refine⟨ρ,S,τ,R,r,?_⟩;have hb:=j5 h
  cases f:d τ S with
  | no=>rw[f]at hb;exact hb
  | ex c S1=>rw[f]at hb;exact hb
  | ok as S1=>
   rw[f]at hb;intro ρ1 H1 j e1 R1 v1;rw[cu];refine⟨by rw[<- v1.length];exact hl τ S as S1 f,ρ1,S1,as,?_⟩;have hb:Am.R.post (match F as S1 with
    | .ok a S2=>.ok a S2
    | _=>.no) (zN X ρ H Q) (XE X ρ H):=hb
   cases g:F as S1 with
   | ok a S2=>rw[g]at hb;exact⟨a,S2,R1,v1,rfl,λρ2 H2 v e2=>hb ρ2 H2 v<|e1.trans e2⟩
   | ex c S2=>rw[g]at hb;exact hb.elim
   | no=>rw[g]at hb;exact hb.elim
def m9:∀τ S as S',j0 τ S=.ok as S'->as.length=0:=λτ S as S' h=>by cases h;rfl
def kF{c:Ex}{d:q_}{n:Nat}(h:∀τ S as S',d τ S=.ok as S'->as.length=n):∀τ S as S',jS c d τ S=.ok as S'->as.length=n+1:=λτ S as S' e=>by
 unfold jS at e
 cases hc:c τ S with
 | ok a S1=>
  rw[hc]at e
  cases f:d τ S1 with
  | ok bs S2=>
   have e:R.bind (d τ S1) (λas S2=>.ok (a::as) S2)=.ok as S':=e;rw[f]at e;cases e;rw[bB,h τ S1 bs _ f]
  | ex _ _=>
   have e:R.bind (d τ S1) (λas S2=>.ok (a::as) S2)=.ok as S':=e;rw[f]at e;cases e
  | no=>
   have e:R.bind (d τ S1) (λas S2=>.ok (a::as) S2)=.ok as S':=e;rw[f]at e;cases e
 | ex _ _=>rw[hc]at e;cases e
 | no=>rw[hc]at e;cases e
end
section
variable {X:Cx}{pos:Pos}{a b c d:aE}
abbrev kCh (f':A->A->jV->R A)(cc:Ex)(τ:ae)(b k:A)(S:jV):R A:=match k with
 | .bl true=>(cc τ S).bind λc d=>f' b c d
 | .bl false=>.ok (.bl false) S
 | _=>.no
abbrev eCh (f f':A->A->jV->R A)(ca cb cc:Ex):Ex:=λτ S=>(ca τ S).bind λa S1=>(cb τ S1).bind λb S2=>(f a b S2).bind λk S3=>kCh f' cc τ b k S3
def ZV{f f':A->A->jV->R A}{ca cb cc:Ex}{H:Hp}{Q:VK}(h:tE X (eCh f f' ca cb cc) σ H Q):MX (r2 X f) (r2 X f') (tE X ca) (tE X cb) (tE X cc) σ H Q:=by
 f_are;refine⟨ρ,S,τ,R,r,jX (j5 h) .refl λa S1 h1 ρ1 H1 x e1 R1 v1=>⟨ρ1,S1,τ,R1,r.ext e1,jX (j5 h1) e1 λb S2 h2 ρ2 H2 y e2 R2 v2=>?_⟩⟩;have g:=e1.trans e2;refine⟨ρ2,S2,a,b,R2,v1.ext e2,v2,jX (j5 h2) g λk S3 h3 ρ3 H3 z e3 R3 F=>?_⟩;have d:=g.trans e3
 cases k with
 | bl k=>
  cases E1 F
  refine⟨k,rfl,?_⟩
  cases k with
  | true=>
   rw[aW rfl];exact⟨ρ3,S3,τ,R3,r.ext d,jX (j5 h3) d λc C t p G w j B D=>⟨p,C,b,c,B,v2.ext<|e3.trans j,D,jX t (d.trans j) λ_ _ q=>q.ext<|d.trans j⟩⟩
  | false=>
   rw[aV bw];exact h3 ρ3 H3 _ d R3<|.bl false
 | _=>exact h3.elim
def abp{f f':A->A->jV->R A}{ca cb cc:Ex}(ho:oR X (compareOp op)<|r2 X f)(ho':oR X (compareOp op')<|r2 X f')(ha:AE X a ca)(hb:AE X b cb)(hc:AE X c cc)(hm:lastMarks [op,op'] [b,c]=false<|>η) :
  AE X (.Compare a [op,op'] [b,c] pos) (eCh f f' ca cb cc):=PE.imp (Nd ho ho' ha hb hc hm) λ_ _ _ h=>ZV h
abbrev A.flat:A->Bool
 | .non=>true
 | .bl _=>true
 | .int _=>true
 | .str _=>true
 | _=>false
abbrev eqF:A->A->Bool
 | .non,.non=>true
 | .bl a,.bl b=>a == b
 | .bl a,.int b=>(if a then 1 else 0) == b
 | .int a,.bl b=>a == (if b then 1 else 0)
 | .int a,.int b=>a == b
 | .str a,.str b=>a == b
 | _,_=>false
def Kx{K:au}{H:Hp}{x:A}{v:V}(h:AV K ρ H x v)(f:x.flat=true):uW v=true:=by cases h<;>first|rfl|cases f
def G1{K:au}{H:Hp}{x y:A}{v:V}(h:AV K ρ H x v)(h':AV K ρ H y u)(f:x.flat=true)(f':y.flat=true):GW v u=eqF x y:=by
 cases h<;>cases h'<;>first|rfl|(cases f;done)|(cases f';done)
theorem Rc{K:au}{H:Hp}{x:A}{v:V}(h:AV K ρ H x v)(f:x.flat=true):∀{ys:ae}{us:List V},AVs K ρ H ys us->ys.all A.flat=true->inV v us=(ys.any λz=>eqF z x)/\us.all uW=true
 | _,_,.nil,_=>⟨rfl,rfl⟩
 | y::ys,u::us,.cons hy t,fs=>by
  rw[jv,dU]at fs;obtain⟨h1,h2⟩:=Rc h f t fs.2;refine⟨?_,by rw[jv,Kx hy fs.1,h2];rfl⟩;show(GW u v || inV v us)=_;rw[h1,G1 hy h fs.1 f];rfl
abbrev inA (S:jV)(x:A):ae->bi
 | []=>some false
 | z::zs=>(zd S 12 z x).bind λp=>(inA S x zs).map λq=>p || q
abbrev LN (neg:Bool)(x y:A)(S:jV):R A:=opt (y.seq S) λys=>opt (inA S x ys) λb=>.ok (.bl<|if neg then !b else b) S
def zM{H:Hp}{x:A}{v:af}(I:Inv X pins σ H s)(R:Rel X.K ρ H S)(hu:X.A.units+64<cLine)(hx:AV X.K ρ H x vx)(rx:RelV vx v) :
  ∀{ys:ae} {us:List V} {its:ba} {b:Bool},AVs X.K ρ H ys us->Vals us its->inA S x ys=some b->∃e:af->Bool,(∀w∈its,SeqAt.EqAt X.A.in1 s w v<|e w)/\its.any e=b:=by
 intro ys
 induction ys with
 | nil=>
  intro us its b h1 h2 h
  cases h1
  cases h2
  exact⟨λ_=>false,(λw hw=>by cases hw),bg h⟩
 | cons z zs j=>
  intro us its b h1 h2 h
  cases h1 with
  | cons F k=>
   rename_i u us
   cases h2 with
   | cons r C=>
    rename_i f its
    classical
    obtain⟨p,D,h⟩:=bN.mp h;obtain⟨q,hq,h⟩:=aP.mp h;obtain⟨e,g,ha⟩:=j k C hq;have h0:=(J7 I R 12 X.A.in1 z x u vx f v p (by rw[in1_units];omega) F hx r rx D).2.1;subst h
    cases p with
    | true=>
     refine⟨λw=>if w=f then true else e w,λw hw=>?_,?_⟩
     ·by_cases d:w=f
      ·dsimp[d,fq];exact h0
      ·dsimp[d,cH]
       rcases bG.mp hw with z|z
       ·exact absurd z d
       ·exact g w z
     ·simp
    | false=>
     by_cases t:f∈its
     ·refine⟨e,λw hw=>?_,?_⟩
      ·rcases bG.mp hw with z|z
       ·rw[z];exact g f t
       ·exact g w z
      ·rw[fY,ha,gG]
       cases q with
       | true=>simp
       | false=>
        have:=List.any_eq_false.mp ha f t;simpa using this
     ·refine⟨λw=>if w=f then false else e w,λw hw=>?_,?_⟩
      ·by_cases d:w=f
       ·dsimp[d,fq];exact h0
       ·dsimp[d,cH]
        rcases bG.mp hw with z|z
        ·exact absurd z d
        ·exact g w z
      ·rw[fY,<- ha];dsimp[fq,gG];have:∀l:ba,(∀w∈l,w≠f)->l.any (λw=>if w=f then false else e w)=l.any e:=λl B=>by
        induction l with
        | nil=>rfl
        | cons c l j=>rw[fY,fY,j λw hw=>B w<|aO _ hw,aV<|B c<|aL ..]
       exact this its λw hw z=>t<|z ▸ hw
def aaO(hu:X.A.units+64<cLine):oR X (compareOp .In) (r2 X<|LN false):=λpins s σ H x y v u Q I rx ry h9=>by
 x_go;obtain⟨ys,hy,h⟩:=jY h;obtain⟨k,j,h⟩:=jY h;obtain⟨p,us,rfl,hs,r⟩:=Ra R vb hy
 cases ry
 rcases hs with hs|hs
 ·obtain⟨d,f,pl,q⟩:=I.list hs;obtain⟨e,g,ha⟩:=zM I R hu va rx r f j;refine SeqAt.in_listAt e pl.isList (λw hw=>g w<|by simpa using hw) ⟨.bl _,H,I,rfl,?_⟩;rw[show d.toArray.any e=d.any e by simp,ha];exact h _ _ _ .refl R (.bl _)
 ·obtain⟨d,f,pl,q⟩:=I.tuple hs;obtain⟨e,g,ha⟩:=zM I R hu va rx r f j;refine SeqAt.in_tupleAt e pl (λw hw=>g w<|by simpa using hw) ⟨.bl _,H,I,rfl,?_⟩;rw[show d.toArray.any e=d.any e by simp,ha];exact h _ _ _ .refl R<|.bl _
def JM(hu:X.A.units+64<cLine):oR X (compareOp .NotIn) (r2 X<|LN true):=λpins s σ H x y v u Q I rx ry h9=>by
 x_go;obtain⟨ys,hy,h⟩:=jY h;obtain⟨k,j,h⟩:=jY h;obtain⟨p,us,rfl,hs,r⟩:=Ra R vb hy
 cases ry
 rcases hs with hs|hs
 ·obtain⟨d,f,pl,q⟩:=I.list hs;obtain⟨e,g,ha⟩:=zM I R hu va rx r f j;refine SeqAt.notIn_listAt e pl.isList (λw hw=>g w<|by simpa using hw) ⟨.bl _,H,I,rfl,?_⟩;rw[show d.toArray.any e=d.any e by simp,ha];exact h _ _ _ .refl R (.bl _)
 ·obtain⟨d,f,pl,q⟩:=I.tuple hs;obtain⟨e,g,ha⟩:=zM I R hu va rx r f j;refine SeqAt.notIn_tupleAt e pl (λw hw=>g w<|by simpa using hw) ⟨.bl _,H,I,rfl,?_⟩;rw[show d.toArray.any e=d.any e by simp,ha];exact h _ _ _ .refl R<|.bl _
abbrev Xn (o:A)(as:ae)(S:jV):R A:=match as with
 | [x]=>opt (o.seq S) λys=>gd (x.flat=true/\ys.all A.flat=true) (opt (ys.findIdx? λz=>eqF z x) λk=>.ok (.int (k:Nat)) S)
 | _=>.no
abbrev VE (co:Ex)(d:q_):Ex:=λτ S=>(co τ S).bind λo S1=>opt (o.seq S1) λ_=>(d τ S1).bind λas S2=>Xn o as S2
abbrev A.isTup:A->Bool
 | .tup _=>true
 | _=>false
def FJ{K:au}{H:Hp}{x:A}{v:V}(R:Rel K ρ H S)(h:AV K ρ H x v)(e:x.seq S=some xs):∃p vs,v=.ref p/\(if x.isTup=true then nh K H p vs else oS K H p vs)/\AVs K ρ H xs vs:=by
 cases h with
 | tup h r=>cases bg e;exact⟨_,_,rfl,(nh.of h),r⟩
 | frz h r=>cases bg e;exact⟨_,_,rfl,h.SI,r⟩
 | ref h=>
  obtain⟨vs,h1,r1⟩:=R.lst h<|j8 e;exact⟨_,vs,rfl,oS.of h1,r1⟩
 | _=>cases e
def X5{K:au}{H:Hp}{x:A}{v:V}{ys:ae}{us:List V}{k:Nat}(h:AV K ρ H x v)(f:x.flat=true)(r:AVs K ρ H ys us)(fs:ys.all A.flat=true)(e:(ys.findIdx? λz=>eqF z x)=some k) :
  us.all uW=true/\∃z,us[k]?=some z/\GW z v=true/\∀(m:Nat) (z':V),m<k->us[m]?=some z'->GW z' v=false:=by
 rw[gT]at e;obtain⟨t,h1,h2⟩:=e;have fl:∀m (j:m<ys.length),ys[m].flat=true:=λm j=>dM.mp fs _<|di j;refine⟨(Rc h f r fs).2,?_⟩;obtain⟨z,C,B⟩:=r.get<|aI t;refine⟨z,C,by rw[G1 B h (fl k t) f];exact h1,λm z' j q=>?_⟩;have g:m<ys.length:=()
 obtain⟨D,d,p⟩:=r.get<|aI g;rw[q]at d;cases d;rw[G1 p h (fl m g) f];have:=h2 m j;simpa using this
def XQ{e:aE}{apos cpos:Pos}{co:Ex}{d:q_}(ho:AE X o co)(ha:AL X (e::es) d)
  (hbase:attributeBase o "index" X.env (eval o X.env)=eval o X.env<|>ε)
  (hfew:(((backTo cpos<|starEach (e::es) X.env).all (λx=>!x.1) && (backToKw cpos<|keywordEach [] X.env).all (λx=>x.1.isSome)
   && decide ((e::es).length+([]:List Keyword).length+(if ([]:List Keyword).isEmpty then 0 else 1)<30))=true)<|>ε)
  (hline:(apos.endLine == cpos.line)=true<|>ε) (hs:starEach (e::es) X.env=(false,eval e X.env)::starEach es X.env<|>ε) (hplain:((backTo cpos<|starEach es X.env).any (·.1)=false)<|>ε) :
  AE X (.Call (.Attribute o "index" apos) (e::es) [] cpos) (VE co d):=PE.imp (WX ho ha hbase hfew hline hs hplain) λσ H Q h9=>by
 z_go;gp_on;obtain⟨xs,j,h1⟩:=jY h1;obtain⟨p,t,hv,hq,_⟩:=FJ R1 v1 j;refine⟨x.isTup,p,t,hv,hq,ρ1,S1,τ,R1,r.ext e1,jX (j5 h1) e1 λas S2 h2 ρ2 H2 K e2 R2 v2=>?_⟩;unfold Xn at h2
 match as,v2,h2 with
 | [],_,h2=>exact h2.elim
 | _::_::_,_,h2=>exact h2.elim
 | [y],v2,h2=>
  obtain⟨w,rfl,hw⟩:=LJ v2;obtain⟨ys,hy,h2⟩:=jY h2;obtain⟨⟨f1,f2⟩,h2⟩:=kB h2;obtain⟨k,q,h2⟩:=jY h2;obtain⟨G,us,f,g,B⟩:=FJ R2 (v1.ext e2) hy;obtain⟨F,z,C,J,D⟩:=X5 hw f1 B f2 q;exact⟨G,w,us,k,z,f,rfl,g,Kx hw f1,F,C,J,D,h2 _ _ _ (e1.trans e2) R2<|.int _⟩
abbrev Ea (o:A)(as:ae)(S:jV):R A:=match o,as with
 | .ref n,[.ref m]=>opt (jT S n) λxs=>opt (jT S m) λys=>gd (xs.length+ys.length<=sizeLine) (.ok .non<|S.set n<|.lst<|xs++ys)
 | _,_=>.no
def OS:E_ X "list.extend" (rM X Ea):=λpins s σ H x C v us Q I rx t h9=>by
 cb_eq
 cases vo with
 | @ref p n d=>
  match as,va,h with
  | [],_,h=>exact h.elim
  | y::_::_,_,h=>exact(by cases y<;>exact h.elim)
  | [y],va,h=>
   obtain⟨w,rfl,hw⟩:=LJ va
   cases hw with
   | @ref q m hq=>
    kj_on;obtain⟨ys,B,h⟩:=jY h;obtain⟨j,h⟩:=kB h;obtain⟨g,h1,r⟩:=R.lst d<|j8 hn;obtain⟨zs,h2,f⟩:=R.lst hq<|j8 B;obtain⟨ex,k⟩:=R.put d (j8 hn)<|r.append f;exact Ml pins s σ H _ _ v us Q I rx t ⟨p,q,g,zs,rfl,rfl,h1,h2,by rw[<- r.length,<- f.length];exact j,h _ _ _ ex k .non⟩
   | _=>exact h.elim
 | _=>exact h.elim
abbrev xY (o:A)(as:ae)(S:jV):R A:=match o,as with
 | .ref n,[]=>opt (jT S n) λxs=>.ok .non (S.set n<|.lst xs.reverse)
 | _,_=>.no
def MA:E_ X "list.reverse" (rM X xY):=λpins s σ H x k v us Q I rx j h9=>by
 cb_eq
 cases vo with
 | @ref p n d=>
  match as,va,h with
  | _::_,_,h=>exact h.elim
  | [],va,h=>
   cases va
   kj_on;obtain⟨f,h1,r⟩:=R.lst d<|j8 hn;obtain⟨ex,g⟩:=R.put d (j8 hn) r.reverse;exact GR pins s σ H _ _ v us Q I rx j ⟨p,f,rfl,rfl,h1,h _ _ _ ex g .non⟩
 | _=>exact h.elim
abbrev Xk (a b:A)(S:jV):R A:=match a,b with
 | .int i,.int j=>gd (yg i j) (.ok (.int<|i * j) S)
 | _,_=>.no
def Vr:PIp X .Mult (ip X Xk):=λpins s σ H x y v u Q I r1 r2 h9=>by
 x_go
 cases va with
 | int i=>
  cases vb with
  | int j=>
   obtain⟨d,h⟩:=kB h;obtain⟨t,rfl⟩:=(show ∃t,v=Value.int i t from r1);obtain⟨f,rfl⟩:=(show ∃t,u=Value.int j t from r2);exact imul_int ⟨.int _,H,I.tok _,⟨_,rfl⟩,h _ _ _ .refl R<|.int _⟩ (mulOk_of d).ok
  | _=>exact h.elim
 | _=>exact h.elim
end
abbrev ki (S:jV)(n:Nat):Option (List<|ag×A):=match S[n]? with
 | some (.dct xs)=>some xs
 | _=>none
def mC{n:Nat}(h:ki S n=some xs):S[n]?=some (.dct xs):=by
 unfold ki at h;split at h
 ·rename_i e;cases h;exact e
 ·cases h
def rz{S:jV}{n:Nat}(h:S[n]?=some (.dct xs)):ki S n=some xs:=by
 unfold ki;rw[h]
abbrev lC (kvs:List<|ag×A)(k:ag):Option A:=(kvs.find? λkv=>decide<|kv.1=k).map (·.2)
abbrev putD (kvs:List<|ag×A)(k:ag)(v:A):List (ag×A):=
 if (lC kvs k).isSome=true then kvs.map (λkv=>if kv.1=k then(kv.1,v)else kv)else kvs++[(k,v)]
theorem Ek:∀{a b:ag},a.map (Sum.inl:Int->Key)=b.map Sum.inl->a=b
 | [],[],_=>rfl
 | [],_::_,e=>by simp at e
 | _::_,[],e=>by simp at e
 | x::xs,y::ys,e=>by
  rw[bC,bC]at e
  injection e with e1 e2
  injection e1 with e1
  rw[e1,Ek e2]
def v8(ns:ag):(ns.map (Sum.inl:Int->Key)).map kV=ns.map V.int:=by rw[aY];rfl
section
variable {K:au}{ρ:bb}{H:Hp}
def Cu{p:ag×A}{r:List<|ag×A}{k:ag}(e:p.1=k):lC (p::r) k=some p.2:=by simp[lC,bU,e]
def Ca{p:ag×A}{r:List<|ag×A}{k:ag}(e:¬p.1=k):lC (p::r) k=lC r k:=by simp[lC,bU,e]
theorem DV.look:∀{kvs:List<|ag×A}{ks:List<|List Key×V}(k:ag),DV K ρ H kvs ks->(lC kvs k).isSome=(pV ks<|k.map Sum.inl).isSome/\∀x,lC kvs k=some x->∃v,pV ks (k.map Sum.inl)=some v/\AV K ρ H x v
 | [],[],k,_=>⟨rfl,λx h=>nomatch h⟩
 | p::r,q::r',k,⟨⟨e,a⟩,t⟩=>by
  by_cases c:p.1=k
  ·have d:q.1=k.map Sum.inl:=by rw[e,c]
   rw[Cu c,tX d];exact⟨rfl,λx h=>by cases h;exact⟨_,rfl,a⟩⟩
  ·have d:¬q.1=k.map Sum.inl:=λz=>c<|Ek<|e.symm.trans z;rw[Ca c,tK d];exact DV.look k t
theorem DV.repl{x:A}{v:V}(h:AV K ρ H x v)(k:ag):∀{kvs:List<|ag×A}{ks:List<|List Key×V},DV K ρ H kvs ks->DV K ρ H (kvs.map λkv=>if kv.1=k then(kv.1,x)else kv) (ks.map λkv=>if kv.1=k.map Sum.inl then(kv.1,v)else kv)
 | [],[],_=>trivial
 | p::r,q::r',⟨⟨e,a⟩,t⟩=>by
  refine⟨?_,DV.repl h k t⟩;dsimp only;by_cases c:p.1=k
  ·rw[aW c,aW<|by rw[e,c]];exact⟨e,h⟩
  ·rw[aV c,aV λz=>c<|Ek<|e.symm.trans z];exact⟨e,a⟩
theorem DV.snoc{x:A}{v:V}(h:AV K ρ H x v)(k:ag):∀{kvs:List<|ag×A}{ks:List<|List Key×V},DV K ρ H kvs ks->DV K ρ H (kvs++[(k,x)]) (ks++[(k.map Sum.inl,v)])
 | [],[],_=>⟨⟨rfl,h⟩,trivial⟩
 | p::r,q::r',⟨a,t⟩=>⟨a,DV.snoc h k t⟩
def DV.put{x:A}{v:V}(h:AV K ρ H x v)(k:ag){ks:List<|List Key×V}(d:DV K ρ H kvs ks):DV K ρ H (putD kvs k x) (putK ks (k.map Sum.inl) v):=by
 unfold putD putK;rw[vU,<- (d.look k).1];by_cases c:(lC kvs k).isSome=true
 ·rw[aW c,aW c];exact DV.repl h k d
 ·rw[aV c,aV c];exact DV.snoc h k d
def DV.length:∀{kvs:List<|ag×A}{ks:List<|List Key×V},DV K ρ H kvs ks->kvs.length=ks.length
 | [],[],_=>rfl
 | _::_,_::_,⟨_,t⟩=>cV (·+1) t.length
def Rel.dct{n:Nat}{a:ak}(R:Rel K ρ H S)(ha:ρ[n]?=some a)(hS:S[n]?=some (.dct xs)):∃vs,H a=some (.dT vs)/\DV K ρ H xs vs:=R.at n a _ ha hS
def Rel.aan{S:jV}{p:ak}(R:Rel K ρ H S)(hp:H p=none)(r:DV K ρ H xs vs):Ext ρ (ρ++[p]) H (upd H p<|.dT vs)/\Rel K (ρ++[p]) (upd H p<|.dT vs) (S++[.dct xs])/\(ρ++[p])[S.length]?=some p:=by
 have ex:Ext ρ (ρ++[p]) H (upd H p<|.dT vs):=⟨⟨dG _ _,λa u _ h=>by rw[jZ<|kg h hp];exact h⟩,λa u h _=>by rw[jZ<|kg h hp];exact h,λa h=>by
  rcases bH.mp h with z|z
  ·exact .inl z
  ·have e:a=p:=by simpa using z
   rw[e];exact .inr hp⟩
 have j:p∉ρ:=R.BZ hp;have d:(ρ++[p])[S.length]?=some p:=by rw[<- R.len];simp
 refine⟨ex,⟨by simp[R.len],?_,?_⟩,d⟩
 ·rw[b_];kln_w;have:b=p:=by simpa using hb
  exact j<|by rw[<- this,<- e];exact ha
 ·intro n a o h1 h2;by_cases hn:n<S.length
  ·rw[bu<|by rw[R.len];exact hn]at h1;rw[bu hn]at h2;have na:a≠p:=λz=>j (by rw[<- z];exact aZ h1);have:=R.at n a o h1 h2
   cases o with
   | lst ys=>obtain⟨f,e,q⟩:=this;exact⟨f,by rw[jZ na];exact e,q.ext ex⟩
   | dct _|qv _|uY _|u0 _=>obtain⟨f,e,q⟩:=this;exact⟨f,by rw[jZ na];exact e,q.ext ex⟩
   | dcf _=>obtain⟨g,f,e,q⟩:=this;exact⟨g,f,by rw[jZ na];exact e,q.ext ex⟩
   | ins _ _=>obtain⟨g,k,e⟩:=this;exact⟨g,k,by rw[jZ na];exact e⟩
  ·have e:n=S.length:=by
    have:=(aJ.mp h2).1;simp at this;omega
   subst e;rw[d]at h1
   cases h1
   simp at h2;subst h2;exact⟨vs,kK,r.ext ex⟩
def Rel.putD{S:jV}{n:Nat}{a:ak}(R:Rel K ρ H S)(ha:ρ[n]?=some a)(hS:S[n]?=some (.dct xs))(r:DV K ρ H ys ws):Ext ρ ρ H (upd H a<|.dT ws)/\Rel K ρ (upd H a<|.dT ws) (S.set n<|.dct ys):=by
 obtain⟨t,e,_⟩:=R.at n a _ ha hS;have ex:Ext ρ ρ H (upd H a<|.dT ws):=⟨⟨dO _,λb u i h=>by
  have:b≠a:=by
   intro z;subst z;rw[e]at h;cases h;exact i
  rw[jZ this];exact h⟩,λb u h n=>by
  rw[jZ λz=>n<|by rw[z];exact aZ ha];exact h,λ_ h=>.inl h⟩
 refine⟨ex,by rw[bX];exact R.len,R.nd,λm b o h1 h2=>?_⟩;by_cases j:m=n
 ·subst j;rw[ha]at h1;cases h1;rw[bA (aJ.mp hS).1]at h2
  cases h2
  exact⟨ws,kK,r.ext ex⟩
 ·rw[bJ<|cO j]at h2;have nb:b≠a:=λz=>by
   subst z;obtain⟨p,e1⟩:=aJ.mp ha;obtain⟨B,e2⟩:=aJ.mp h1;exact j<|(cG R.nd).mp<|e2.trans e1.symm
  have:=R.at m b o h1 h2
  cases o with
  | lst ys=>obtain⟨d,f,q⟩:=this;exact⟨d,by rw[jZ nb];exact f,q.ext ex⟩
  | dct _|qv _|uY _|u0 _=>obtain⟨d,f,q⟩:=this;exact⟨d,by rw[jZ nb];exact f,q.ext ex⟩
  | dcf _=>obtain⟨g,d,f,q⟩:=this;exact⟨g,d,by rw[jZ nb];exact f,q.ext ex⟩
  | ins _ _=>obtain⟨g,k,f⟩:=this;exact⟨g,k,by rw[jZ nb];exact f⟩
end
section
variable {X:Cx}{pos:Pos}{a b:aE}
def Em{H:Hp}{p q:ak}{n:Nat}{ns:ag}(R:Rel X.K ρ H S)(hp:ρ[n]?=some p)(hn:ki S n=some kvs)(hq:H q=some (.tup vs))(r:AVs X.K ρ H xs vs)(hi:A.ints xs=some ns) :
  ∃ks,H p=some (.dT ks)/\DV X.K ρ H kvs ks/\H q=some (.tup<|(ns.map (Sum.inl:Int->Key)).map kV)/\uH H p (.ref q) (pV ks<|ns.map Sum.inl):=by
 obtain⟨ks,e,d⟩:=R.dct hp<|mC hn;have z:=qX r hi;subst z;rw[<- v8]at hq;exact⟨ks,e,d,hq,uH.t e hq⟩
abbrev uJ (x y:A)(S:jV):R A:=match x,y with
 | .ref n,.tup xs=>opt (ki S n) λkvs=>opt (A.ints xs) λns=>opt (lC kvs ns) λv=>.ok v S
 | _,_=>.no
def abV(hu:X.A.units+64<cLine):UA X (r2 X uJ):=λf j pins s σ H x y v u Q I rx ry ⟨ρ,S,a,b,R,va,vb,h⟩ hs=>by
 cases va with
 | @ref p n B=>
  cases vb with
  | @tup q xs F hq r=>
   o_rec;obtain⟨ns,k,h⟩:=jY h;obtain⟨z,D,h⟩:=jY h;obtain⟨ks,e,d,C,g⟩:=Em R B hn hq r k;obtain⟨w,hw,t⟩:=(d.look ns).2 z D;rw[hw]at g;exact Dv (by omega) f j pins s σ H _ _ v u Q I rx ry ⟨p,w,rfl,g,h _ _ _ .refl R t⟩ hs
  | _=>exact h.elim
 | _=>exact h.elim
def Bt(hu:X.A.units+64<cLine){ca cb:Ex}(ha:AE X a ca)(hb:AE X b cb)(hs:xN b<|>θ):AE X (.Subscript a b pos) (j6 uJ ca cb):=PE.imp (Jj (abV hu) ha hb hs) λσ H Q h=>uQ h
abbrev Mf (neg:Bool)(x y:A)(S:jV):R A:=match x,y with
 | .tup xs,.ref n=>opt (ki S n) λkvs=>opt (A.ints xs) λns=>.ok (.bl<|if neg then !(lC kvs ns).isSome else(lC kvs ns).isSome) S
 | _,_=>.no
def EF(hu:X.A.units+64<cLine):oR X (compareOp .NotIn) (r2 X<|Mf true):=λpins s σ H x y v u Q I rx ry h9=>by
 x_go
 cases va with
 | @tup q xs t hq r=>
  cases vb with
  | @ref p n k=>
   o_rec;obtain⟨ns,f,h⟩:=jY h;obtain⟨ks,e,d,j,g⟩:=Em R k hn hq r f;exact LW (by omega) pins s σ H _ _ v u Q I rx ry ⟨p,_,rfl,g,by rw[<- (d.look ns).1];exact h _ _ _ .refl R<|.bl _⟩
  | _=>exact h.elim
 | _=>exact h.elim
abbrev qP (o i v:A)(S:jV):R Unit:=match o,i with
 | .ref n,.tup xs=>opt (ki S n) λkvs=>opt (A.ints xs) λns=>gd (kvs.length<sizeLine) (.ok Unit.unit<|S.set n<|.dct<|putD kvs ns v)
 | _,_=>.no
abbrev acE (X:Cx):EE:=λo i v H Q=>∃ρ S ao f d,Rel X.K ρ H S/\AV X.K ρ H ao o/\AV X.K ρ H f i/\AV X.K ρ H d v/\(qP ao f d S).post (λ_ g=>∀ρ' H',Ext ρ ρ' H H'->Rel X.K ρ' H' g->Q H') (XE X ρ H)
def SK(hu:X.A.units+64<cLine):C1 X (acE X):=λpins s σ H o i v C iv u Q I B F J h9=>by
 obtain⟨ρ,S,ao,M,L,R,h1,h2,h3,h⟩:=h9
 cases h1 with
 | @ref p n j=>
  cases h2 with
  | @tup q xs K hq r=>
   o_rec;obtain⟨ns,k,h⟩:=jY h;obtain⟨D,h⟩:=kB h;obtain⟨ks,e,d,f,g⟩:=Em R j hn hq r k;obtain⟨ex,G⟩:=R.putD j (mC hn)<|d.put h3 ns;exact set_dict () pins s σ H _ _ v C iv u Q I B F J ⟨p,_,rfl,yu.t e f<|by rw[<- d.length];exact D,h _ _ ex G⟩
  | _=>exact h.elim
 | _=>exact h.elim
abbrev LO (co ci:Ex):Tg:=λa τ S=>(co τ S).bind λo S1=>(ci τ S1).bind λi S2=>(qP o i a S2).bind λ_ S3=>.ok τ S3
def zE(hu:X.A.units+64<cLine){co ci:Ex}(ho:AE X o co)(hi:AE X i ci)
  (ha:(∀v,assign (.Subscript o i pos) X.env v=(do
   let ov <- holding [v] (eval o X.env)
   let iv <- holding [v,ov] (eval i X.env)
   standAt pos
   holding [v,ov,iv] (setItem ov iv v)
   release [v,ov,iv] []))<|>ζ):AG X (.Subscript o i pos) (LO co ci):=PG.imp (A5 ho hi (SK hu) ha) λv σ H Q h9=>by
 obtain⟨ρ,S,τ,a,R,r,va,h⟩:=h9;w_up;k_ne;kpc_g
abbrev B7:Ex:=λ_ S=>.ok (.ref S.length)<|S++[.dct []]
def zL:AE X (.Dict [] [] pos) B7:=PE.imp PC λσ H Q ⟨ρ,S,τ,R,r,h⟩ p d=>by
 obtain⟨ex,f,g⟩:=R.aan (xs:=[]) (vs:=[]) d trivial;exact h _ _ _ ex f<|.ref g
abbrev J9 (ck cv:Ex):Ex:=λτ S=>(ck τ S).bind λk S1=>(cv τ S1).bind λv S2=>match k with
 | .tup xs=>opt (A.ints xs) λns=>.ok (.ref S2.length) (S2++[.dct [(ns,v)]])
 | _=>.no
def Rel.abh{K:au}{H:Hp}{S:jV}{D:ak}(R:Rel K ρ H S)(hD:H D=some (.dT us))(hn:D∉ρ)(r:DV K ρ H xs vs):Ext0 ρ (ρ++[D]) H (upd H D<|.dT vs)/\Rel K (ρ++[D]) (upd H D<|.dT vs) (S++[.dct xs])/\(ρ++[D])[S.length]?=some D:=by
 have ex:Ext0 ρ (ρ++[D]) H (upd H D<|.dT vs):=⟨dG _ _,λb u i h=>by
  have:b≠D:=by
   intro z;subst z;rw[hD]at h;cases h;exact i
  rw[jZ this];exact h⟩
 have d:(ρ++[D])[S.length]?=some D:=by rw[<- R.len];simp
 refine⟨ex,⟨by simp[R.len],?_,λn a o h1 h2=>?_⟩,d⟩
 ·rw[b_];kln_w;have:b=D:=by simpa using hb
  exact hn<|by rw[<- this,<- e];exact ha
 ·by_cases hs:n<S.length
  ·rw[bu<|by rw[R.len];exact hs]at h1;rw[bu hs]at h2;have na:a≠D:=λz=>hn (by rw[<- z];exact aZ h1);have:=R.at n a o h1 h2
   cases o with
   | lst ys=>obtain⟨f,e,q⟩:=this;exact⟨f,by rw[jZ na];exact e,AVs.mJ ex q⟩
   | dct _|qv _|uY _|u0 _=>obtain⟨f,e,q⟩:=this;exact⟨f,by rw[jZ na];exact e,q.mJ ex⟩
   | dcf _=>obtain⟨g,f,e,q⟩:=this;exact⟨g,f,by rw[jZ na];exact e,q.mJ ex⟩
   | ins _ _=>obtain⟨g,j,e⟩:=this;exact⟨g,j,by rw[jZ na];exact e⟩
  ·have e:n=S.length:=by
    have:=(aJ.mp h2).1;simp at this
    lia
   subst e;rw[d]at h1
   cases h1
   simp at h2;subst h2;exact⟨vs,kK,r.mJ ex⟩
def Vs(hu:X.A.units+64<cLine){k v:aE}{ck cv:Ex}(hk:AE X k ck)(hv:AE X v cv):AE X (.Dict [some k] [v] pos) (J9 ck cv):=PE.imp (O_ () hk hv) λσ H Q ⟨ρ,S,τ,R,r,h⟩ p g=>by
 obtain⟨e0,J⟩:=R.im (u:=.dT []) g;have t:p∉ρ:=R.BZ g;refine⟨ρ,S,τ,J,r.ext e0,jX (j5 h) e0 λa S1 h1 ρ1 H1 x e1 R1 v1=>⟨ρ1,S1,τ,R1,(r.ext e0).ext e1,jX (j5 h1) (e0.trans e1) λb S2 h2 ρ2 H2 y e2 R2 v2=>?_⟩⟩;have d:=e1.trans e2;have f:H2 p=some (.dT []):=d.fr p _ kK t;have j:p∉ρ2:=λG=>(d.nw p G).elim t λz=>by rw[kK]at z;cases z
 cases v1.ext e2 with
 | @tup q xs vs hq F=>
  obtain⟨ns,B,h2⟩:=jY h2;have z:=qX F B;subst z;refine⟨f,q,ns.map Sum.inl,rfl,by rw[v8];exact hq,?_⟩;obtain⟨e3,R3,C⟩:=R2.abh (xs:=[(ns,b)]) (vs:=[(ns.map Sum.inl,y)]) f j ⟨⟨rfl,v2⟩,trivial⟩;refine h2 _ _ _ ⟨⟨(e0.trans d).pre.trans e3.pre,λc u i hc=>e3.im c u i<|(e0.trans d).im c u i hc⟩,λc u hc D=>?_,λc hc=>?_⟩ R3 (.ref C)
  ·rw[jZ<|kg hc g];exact(e0.trans d).fr c u hc D
  ·rcases bH.mp hc with z|z
   ·exact(e0.trans d).nw c z
   ·have:c=p:=by simpa using z
    rw[this];exact .inr g
 | _=>exact h2.elim
abbrev dct? (a:A)(S:jV):Option Unit:=match a with
 | .ref n=>(ki S n).map λ_=>Unit.unit
 | _=>none
abbrev YN (f:A->ae->jV->R A)(co:Ex)(d:q_):Ex:=λτ S=>(co τ S).bind λx S1=>opt (dct? x S1) λ_=>(d τ S1).bind λas S2=>f x as S2
def dct?_ty{K:au}{H:Hp}{x:A}{v:V}(R:Rel K ρ H S)(a:AV K ρ H x v)(e:dct? x S=some u):XT K "dict" v H:=by
 cases a with
 | @ref p n h=>
  obtain⟨xs,d,_⟩:=aP.mp e;obtain⟨f,h1,_⟩:=R.dct h<|mC d;exact .inr<|.inr<|.inl ⟨rfl,.inr ⟨f,h1⟩⟩
 | _=>cases e
def YY{e:aE}{id:String}{apos cpos:Pos}{f:A->ae->jV->R A}{co:Ex}{d:q_}(slot:Slot "dict" name id)(hty:typeOf (.builtin id)=pure (.type "method_descriptor"))(hm:E_ X id<|rM X f)(ho:AE X o co)(ha:AL X (e::es) d)
  (hbase:attributeBase o name X.env (eval o X.env)=eval o X.env<|>ε)
  (hfew:(((backTo cpos<|starEach (e::es) X.env).all (λx=>!x.1) && (backToKw cpos<|keywordEach [] X.env).all (λx=>x.1.isSome)
   && decide ((e::es).length+([]:List Keyword).length+(if ([]:List Keyword).isEmpty then 0 else 1)<30))=true)<|>ε)
  (hline:(apos.endLine == cpos.line)=true<|>ε) (hs:starEach (e::es) X.env=(false,eval e X.env)::starEach es X.env<|>ε) (hplain:((backTo cpos<|starEach es X.env).any (·.1)=false)<|>ε) :
  AE X (.Call (.Attribute o name apos) (e::es) [] cpos) (YN f co d):=PE.imp (J5 fH slot hty hm ho ha hbase hfew hline hs hplain) λσ H Q h9=>by
 z_go;gp_on;obtain⟨xs,g,h1⟩:=jY h1;refine⟨dct?_ty R1 v1 g,ρ1,S1,τ,R1,r.ext e1,jX (j5 h1) e1 λas S2 h2 ρ2 H2 j e2 R2 v2=>?_⟩;kst_p
abbrev Yq (o:A)(as:ae)(S:jV):R A:=match o,as with
 | .ref n,[.tup xs,y]=>opt (ki S n) λkvs=>opt (A.ints xs) λk=>.ok ((lC kvs k).getD y) S
 | _,_=>.no
def abc(hu:X.A.units+64<cLine):E_ X "dict.get" (rM X Yq):=λpins s σ H x L v us Q I rx t h9=>by
 cb_eq
 cases vo with
 | @ref p n k=>
  match as,va,h with
  | [],_,h=>exact h.elim
  | [z],_,h=>exact(by cases z<;>exact h.elim)
  | z::_::_::_,_,h=>exact(by cases z<;>exact h.elim)
  | [z,y],va,h=>
   obtain⟨J,D,rfl,G,hy⟩:=P8 va
   cases G with
   | @tup q xs K hq B=>
    o_rec;obtain⟨ns,f,h⟩:=jY h;have z:=qX B f;subst z;obtain⟨ks,h1,j⟩:=R.dct k<|mC hn;refine Tr (by omega) pins s σ H _ _ v us Q I rx t ⟨p,q,ns.map Sum.inl,ks,D,rfl,rfl,h1,by rw[v8];exact hq,h _ _ _ .refl R ?_⟩;obtain⟨d,F⟩:=j.look ns
    cases e1:lC kvs ns with
    | none=>
     rw[e1]at d
     cases e2:pV ks (ns.map Sum.inl)with
     | none=>exact hy
     | some _=>rw[e2]at d;cases d
    | some C=>
     obtain⟨v1,e2,g⟩:=F C e1;rw[e2];exact g
   | _=>exact h.elim
 | _=>exact h.elim
end
section
variable {a b:aE}
theorem Wy{K:au}{H:Hp}:∀{kvs:List<|ag×A}{ks:List<|List Key×V}{i:Nat}{p:ag×A},DV K ρ H kvs ks->kvs[i]?=some p->∃q,ks[i]?=some q/\q.1=p.1.map Sum.inl/\AV K ρ H p.2 q.2
 | [],[],_,_,_,h=>by simp at h
 | a::kvs,b::ks,0,p,⟨z,_⟩,h=>by
  have:a=p:=by simpa using h
  subst this;exact⟨b,rfl,z⟩
 | a::kvs,b::ks,i+1,p,⟨_,t⟩,h=>Wy (kvs:=kvs) (ks:=ks) (i:=i) t<|by simpa using h
def Rel.gone{K:au}{H:Hp}{S:jV}{n:Nat}{a:ak}(R:Rel K ρ H S)(ha:ρ[n]?=some a)(hS:S[n]?=some (.dct xs)):Ext ρ ρ H (upd H a<|.frz o u)/\Rel K ρ (upd H a<|.frz o u) (S.set n<|.ins "" []):=by
 obtain⟨B,e,_⟩:=R.at n a _ ha hS;have ex:Ext ρ ρ H (upd H a<|.frz o u):=⟨⟨dO _,λb p i h=>by
  have:b≠a:=by
   intro z;subst z;rw[e]at h;cases h;exact i
  rw[jZ this];exact h⟩,λb p h nb=>by
  rw[jZ λz=>nb<|by rw[z];exact aZ ha];exact h,λ_ h=>.inl h⟩
 refine⟨ex,by rw[bX];exact R.len,R.nd,λm b ob h1 h2=>?_⟩;by_cases j:m=n
 ·subst j;rw[ha]at h1;cases h1;rw[bA (aJ.mp hS).1]at h2
  cases h2
  exact⟨o,u,kK⟩
 ·rw[bJ<|cO j]at h2;have nb:b≠a:=λz=>by
   subst z;obtain⟨t,e1⟩:=aJ.mp ha;obtain⟨C,e2⟩:=aJ.mp h1;exact j<|(cG R.nd).mp<|e2.trans e1.symm
  have:=R.at m b ob h1 h2
  cases ob with
  | lst ys=>obtain⟨d,f,q⟩:=this;exact⟨d,by rw[jZ nb];exact f,q.ext ex⟩
  | dct _|qv _|uY _|u0 _=>obtain⟨d,f,q⟩:=this;exact⟨d,by rw[jZ nb];exact f,q.ext ex⟩
  | dcf _=>obtain⟨g,d,f,q⟩:=this;exact⟨g,d,by rw[jZ nb];exact f,q.ext ex⟩
  | ins _ _=>obtain⟨g,k,f⟩:=this;exact⟨g,k,by rw[jZ nb];exact f⟩
end
abbrev adj (F:ae->jV->R A)(d:q_):Ex:=λτ S=>(d τ S).bind λas S1=>F as S1
abbrev bmV:ba:=[.type "ValueError",.type "Exception",.type "BaseException",.type "object"]
abbrev Vd:List (Str ⊕ Ex)->ae->jV->R Unit
 | [],_,S=>.ok Unit.unit S
 | .inl _::ps,τ,S=>Vd ps τ S
 | .inr e::ps,τ,S=>(e τ S).bind λv S1=>match v with
  | .int i=>gd (i.natAbs.log2<64) (Vd ps τ S1)
  | _=>.no
abbrev ZL (c:Str)(ps:List<|Str ⊕ Ex):Sm:=λτ S=>.of (Vd ps τ S) λ_ S1=>.ex c S1
abbrev WC (i:Nat):RS->RS
 | .nx τ S=>.nx (τ.set i .unb) S
 | .bk τ S=>.bk (τ.set i .unb) S
 | .ct τ S=>.ct (τ.set i .unb) S
 | .rt a S=>.rt a S
 | _=>.no
abbrev aal (i n:Nat)(cs:ar)(c d:Sm):Sm:=λτ S=>match c τ S with
 | .ex x S1=>if x∈cs then WC i (d ((List.replicate n .unb).set i<|.exn x) S1)else .no
 | r=>r
abbrev adK (f:Str->bi)(c:Ex):Ex:=λτ S=>(c τ S).bind λv S1=>match v with
 | .exn x=>opt (f x) λb=>.ok (.bl b) S1
 | _=>.no
structure ExcK (K:au)(U:ak)(c:Str)(C:ak):Prop where
 n:ClN K c C
 q:PySem.W.excIn K C bmV "ValueError.__new__" = true
 r:L2.mroIn K C=some (.ref U::bmV)
 x:XCls K C
 cl:(PySem.W.clsIn K C).isSome=true
 v:PySem.W.kitOne K (.ref C) (.type "ValueError")=some true
abbrev tbX (tb:List<|Str×Bool):Str->bi:=λx=>tb.lookup x
abbrev aaI (F:ae->jV->R A)(d:q_):Ex:=λτ S=>match d τ S with
 | .ok as S1=>F as S1
 | _=>.no
section
variable {d:q_}
abbrev aa4 (t:Te)(c d:Sm):Sm:=λτ S=>match t τ S with
 | .ok true S1=>c τ S1
 | .ok false S1=>d τ S1
 | _=>.no
end
abbrev VT (i:Nat)(cs:ar)(c d:Sm):Sm:=λτ S=>match c τ S with
 | .ex x S1=>if x∈cs then WC i (d (τ.set i<|.exn x) S1)else .no
 | r=>r
abbrev sNo:Sm:=λ_ _=>.no
def KG{X:Cx}{st:aF}:AS X st sNo:=PS.imp QK λD σ H ⟨ρ,S,τ,R,r,h⟩=>h.elim
def MF{K:au}{H:Hp}{a:ak}{ns:ag}{F:ae->jV->R A}(hO:U4 H)(hS:oS K H a<|ns.map V.int)(h:∃S',F [.frz<|ns.map .int] []=.ok (.bl true) S'):qQ K 1 F [.ref a] H (λv _=>v=.bl true) λ_ _ _=>False:=by
 obtain⟨S',h⟩:=h;have fz:Fz K H a (ns.map V.int):=by
  rcases hS with(h|⟨o,h⟩)|h
  ·rcases hO a with z|⟨ob,xs,z⟩
   ·rw[h]at z;cases z
   ·rw[h]at z;cases z
  ·exact .inl ⟨o,h⟩
  ·exact .inr h
 exact⟨rfl,[],[],_,_,S',⟨rfl,dc,λn a o h=>by simp at h⟩,.cons (.frz fz<|rK ns) .nil,h,λρ' H' v _ _ hv=>E1 hv⟩
section
variable {P:aj}{w:ah}{K:au}{mg:Str->bd}{base:aq}{f:ak}{fd:FuncData}{ps:ar}{k n:Nat}
def WY(h:n=ps.length):FnOk P w K mg base qf k f fd ps (qQ K n λ_ _=>.no):=
 ⟨λ_ _ _ _ z=>z.1.trans h,λ_ _ _ _ _ _ _ _ _ _ _ _ _ z=>by obtain⟨_,_,_,_,_,_,_,_,e,_⟩:=z;cases e⟩
end
def DM{P:ba->Prop}(h:∀a0,P [a0]):∀us:ba,us.length=1->P us
 | [_],_=>h _
def Ez{P:ba->Prop}(h:∀a0 a1,P [a0,a1]):∀us:ba,us.length=2->P us
 | [_,_],_=>h _ _
def XF{n:Nat}{us:ba}(h:us.length=n+1):∃a t,us=a::t/\t.length=n:=by
 cases us with
 | nil=>simp at h
 | cons a t=>exact⟨a,t,rfl,by simpa using h⟩
def us3{P:ba->Prop}(h:∀a0 a1 a2,P [a0,a1,a2]):∀us:ba,us.length=3->P us:=λus e=>by
 obtain⟨a0,t0,rfl,e0⟩:=XF e;obtain⟨a1,d,rfl,e1⟩:=XF e0;obtain⟨a2,f,rfl,e2⟩:=XF e1
 cases fG.mp e2
 exact h _ _ _
end Am
namespace Am
open PySem L2
section
variable {α β:Type}{a b:A}{S S1:jV}{τ:ae}{x:α}
@[simp]def R.ny {f:α->jV->R β}:(R.ok x S).bind f=f x S:=rfl
@[simp]def R.Lc {f:α->jV->R β}{c:Str}:(R.ex c S:R α).bind f=.ex c S:=rfl
@[simp]def R.kX {f:α->jV->R β}:(R.ok x S).nV f=f x S:=rfl
@[simp]def RS.of_ok {f:α->jV->RS}:RS.of (R.ok x S) f=f x S:=rfl
@[simp]def RS.Wu {f:α->jV->RS}{c:Str}:RS.of (R.ex c S:R α) f=.ex c S:=rfl
@[simp]def j_ {f:β->R α}{y:β}:opt (some y) f=f y:=rfl
@[simp]def Jg {r:R α}:gd True r=r:=aW trivial
theorem oO{c:Prop}[Decidable c]{r:R α}(h:c):gd c r=r:=aW h
@[simp]def qU {i:Nat}:jR i τ S=bif (τ.getD i .unb).pL then .no else .ok (τ.getD i .unb) S:=by unfold jR;cases(τ.getD i .unb).pL<;>rfl
@[simp]def KA {xs:ae}:A.pL (.tup xs)=false:=rfl
@[simp]def IS {xs:ae}:A.pL (.frz xs)=false:=rfl
@[simp]def KC {i:Int}:A.pL (.int i)=false:=rfl
@[simp]def NV {i:Bool}:A.pL (.bl i)=false:=rfl
@[simp]def Jv {i:Str}:A.pL (.str i)=false:=rfl
@[simp]def KZ {i:Nat}:A.pL (.ref i)=false:=rfl
@[simp]def KS:A.pL .non=false:=rfl
@[simp]def IT {i j:Int}:A.pL (.rng i j)=false:=rfl
@[simp]def IC {c:Str}:A.pL (.exn c)=false:=rfl
@[simp]def VO:eC a τ S=.ok a S:=rfl
abbrev aaM (f:A->A->jV->R A)(cb:Ex)(τ:ae)(a:A)(S:jV):R A:=(cb τ S).bind<|f a
@[simp]def KR {f:A->A->jV->R A}{cb:Ex}:aaM f cb τ a S=(cb τ S).bind (f a):=rfl
@[simp]def Lj {f:A->A->jV->R A}{ca cb:Ex}:j6 f ca cb τ S=(ca τ S).bind (aaM f cb τ):=rfl
@[simp]def RY {f:A->jV->R A}{ca:Ex}:eUn f ca τ S=(ca τ S).bind f:=rfl
@[simp]def JW {c:Ex}:rO c τ S=(c τ S).bind λa S1=>opt (a.WH S1) λb=>.ok b S1:=rfl
abbrev aB (a:A)(S:jV):R Bool:=match a with
 | .bl b=>.ok b S
 | _=>.no
@[simp]def V7 {b:Bool}:aB (.bl b) S=.ok b S:=rfl
@[simp]def OJ {c:Ex}:sG c τ S=(c τ S).bind aB:=rfl
@[simp]def Kg {c:Te}:BC c τ S=(c τ S).bind λb S1=>.ok (!b) S1:=rfl
abbrev XC (d:Te)(τ:ae)(b:Bool)(S:jV):R Bool:=match b with|true=>d τ S|false=>.ok false S
abbrev kOr (d:Te)(τ:ae)(b:Bool)(S:jV):R Bool:=match b with|true=>.ok true S|false=>d τ S
@[simp]def Na {d:Te}:XC d τ true S=d τ S:=rfl
@[simp]def RE {d:Te}:XC d τ false S=.ok false S:=rfl
@[simp]def VV {d:Te}:kOr d τ true S=.ok true S:=rfl
@[simp]def WQ {d:Te}:kOr d τ false S=d τ S:=rfl
@[simp]def JV {c d:Te}:An c d τ S=(c τ S).bind (XC d τ):=rfl
@[simp]def O2 {c d:Te}:Zz c d τ S=(c τ S).bind (kOr d τ):=rfl
@[simp]def K8:nM τ S=.ok true S:=rfl
abbrev NW (d:Ex)(τ:ae)(a:A)(S:jV):R A:=match a with | .bl true=>d τ S | .bl false=>.ok (.bl false) S|_=>.no
abbrev X4 (d:Ex)(τ:ae)(a:A)(S:jV):R A:=match a with | .bl true=>.ok (.bl true) S | .bl false=>d τ S|_=>.no
@[simp]def J8 {d:Ex}:NW d τ (.bl true) S=d τ S:=rfl
@[simp]def IA {d:Ex}:NW d τ (.bl false) S=.ok (.bl false) S:=rfl
@[simp]def OP {d:Ex}:X4 d τ (.bl true) S=.ok (.bl true) S:=rfl
@[simp]def N8 {d:Ex}:X4 d τ (.bl false) S=d τ S:=rfl
@[simp]def Ku {c d:Ex}:QW c d τ S=(c τ S).bind (NW d τ):=by
 unfold QW
 cases c τ S with
 | ok a S1=>cases a<;>first|rfl|(rename_i b;cases b<;>rfl)
 | _=>rfl
@[simp]def Nm {c d:Ex}:eOr c d τ S=(c τ S).bind (X4 d τ):=by
 unfold eOr
 cases c τ S with
 | ok a S1=>cases a<;>first|rfl|(rename_i b;cases b<;>rfl)
 | _=>rfl
abbrev Wk (a:A)(S:jV):R A:=match a with | .bl b=>.ok (.bl !b) S|_=>.no
@[simp]def FF {b:Bool}:Wk (.bl b) S=.ok (.bl !b) S:=rfl
@[simp]def IX {c:Ex}:Z4 c τ S=(c τ S).bind Wk:=rfl
abbrev Xo (c d:Ex)(τ:ae)(b:Bool)(S:jV):R A:=match b with|true=>c τ S|false=>d τ S
@[simp]def OY {c d:Ex}:Xo c d τ true S=c τ S:=rfl
@[simp]def OM {c d:Ex}:Xo c d τ false S=d τ S:=rfl
@[simp]def Se {t:Te}{c d:Ex}:eIf t c d τ S=(t τ S).bind (Xo c d τ):=rfl
@[simp]def JZ:j0 τ S=.ok [] S:=rfl
abbrev HZ (a:A)(as:ae)(S:jV):R (ae):=.ok (a::as) S
abbrev V_ (d:q_)(τ:ae)(a:A)(S:jV):R (ae):=(d τ S).bind<|HZ a
@[simp]def Co {as:ae}:HZ a as S=.ok (a::as) S:=rfl
@[simp]def GA {d:q_}:V_ d τ a S=(d τ S).bind (HZ a):=rfl
@[simp]def Fi {c:Ex}{d:q_}:jS c d τ S=(c τ S).bind (V_ d τ):=rfl
@[simp]def Lq {d:q_}:pK d τ S=(d τ S).bind λas S1=>gd (as.length<=sizeLine) (.ok (.tup as) S1):=rfl
@[simp]def Jo {d:q_}:qJ d τ S=(d τ S).bind newL:=rfl
theorem mW{as:ae}(h:as.length<=16777216):newL as S=.ok (.ref S.length) (S++[.lst as]):=oO<|by rw[eS];exact h
@[simp]def Ge {f:ae->jV->R A}{d:q_}:kj f d τ S=(d τ S).bind f:=rfl
abbrev okR (r:R A):R A:=match r with
 | .ok a S=>.ok a S
 | _=>.no
@[simp]def PZ:okR (.ok a S)=.ok a S:=rfl
abbrev kFn (f:ae->jV->R A)(as:ae)(S:jV):R A:=okR<|f as S
@[simp]def RW {f:ae->jV->R A}{as:ae}:kFn f as S=okR (f as S):=rfl
@[simp]def RV {f:ae->jV->R A}{d:q_}:eFn f d τ S=(d τ S).bind (kFn f):=rfl
@[simp]def VY {g:A->jV->R A}:f1 g [a] S=g a S:=rfl
@[simp]def VQ {g:A->A->jV->R A}:f2 g [a,b] S=g a b S:=rfl
abbrev Zw (h:Pt)(τ:ae)(a:A)(l:Option Int)(S:jV):R A:=(h τ S).bind<|aSl a l
abbrev kSl (l h:Pt)(τ:ae)(a:A)(S:jV):R A:=(l τ S).bind<|Zw h τ a
@[simp]def Jk {h:Pt}{l:Option Int}:Zw h τ a l S=(h τ S).bind (aSl a l):=rfl
@[simp]def Rl {l h:Pt}:kSl l h τ a S=(l τ S).bind (Zw h τ a):=rfl
@[simp]def Sb {c:Ex}{l h:Pt}:eSl c l h τ S=(c τ S).bind (kSl l h τ):=rfl
@[simp]def E5:aay τ S=.ok none S:=rfl
abbrev aPt (a:A)(S:jV):R (Option Int):=match a with
 | .int i=>.ok (some i) S
 | _=>.no
@[simp]def Ir {i:Int}:aPt (.int i) S=.ok (some i) S:=rfl
@[simp]def FH {c:Ex}:abP c τ S=(c τ S).bind aPt:=rfl
abbrev ZS (f:A->ae->jV->R A)(d:q_)(τ:ae)(o:A)(S:jV)(_:ae):R A:=(d τ S).bind<|f o
abbrev kMe (f:A->ae->jV->R A)(d:q_)(τ:ae)(o:A)(S:jV):R A:=opt (o.lst? S)<|ZS f d τ o S
@[simp]def Kq {f:A->ae->jV->R A}{d:q_}{xs:ae}:ZS f d τ a S xs=(d τ S).bind (f a):=rfl
@[simp]def OI {f:A->ae->jV->R A}{d:q_}:kMe f d τ a S=opt (a.lst? S) (ZS f d τ a S):=rfl
@[simp]def Of {f:A->ae->jV->R A}{c:Ex}{d:q_}:F8 f c d τ S=(c τ S).bind (kMe f d τ):=rfl
@[simp]def K5 {f:A->ae->jV->R A}{c:Ex}:Qn f c τ S=(c τ S).bind λo S1=>opt (o.lst? S1) λ_=>f o [] S1:=rfl
@[simp]def lst?_ref {n:Nat}:A.lst? S (.ref n)=jT S n:=rfl
abbrev RS.seq (r:RS)(d:Sm):RS:=match r with
 | .nx τ S=>d τ S
 | r=>r
@[simp]def RS.PY {d:Sm}:RS.seq (.nx τ S) d=d τ S:=rfl
@[simp]def RS.PF {d:Sm}:RS.seq (.rt a S) d=.rt a S:=rfl
@[simp]def RS.Om {d:Sm}{c:Str}:RS.seq (.ex c S) d=.ex c S:=rfl
@[simp]def RS.NY {d:Sm}:RS.seq (.bk τ S) d=.bk τ S:=rfl
@[simp]def RS.NB {d:Sm}:RS.seq (.ct τ S) d=.ct τ S:=rfl
@[simp]def Jf {c d:Sm}:ko c d τ S=RS.seq (c τ S) d:=by unfold ko RS.seq;cases c τ S<;>rfl
@[simp]def JG:qR τ S=.nx τ S:=rfl
@[simp]def B6:Yp τ S=.bk τ S:=rfl
@[simp]def EM:aa_ τ S=.ct τ S:=rfl
@[simp]def ED {e:Ex}:nA e τ S=RS.of (e τ S) λ_ S1=>.nx τ S1:=rfl
@[simp]def Ko {e:Ex}:mw e τ S=RS.of (e τ S) .rt:=rfl
@[simp]def Gw:abB τ S=.rt .non S:=rfl
abbrev kIf (c d:Sm)(τ:ae)(b:Bool)(S:jV):RS:=match b with|true=>c τ S|false=>d τ S
@[simp]def Wf {c d:Sm}:kIf c d τ true S=c τ S:=rfl
@[simp]def V0 {c d:Sm}:kIf c d τ false S=d τ S:=rfl
@[simp]def Pf {t:Te}{c d:Sm}:yo t c d τ S=RS.of (t τ S) (kIf c d τ):=rfl
abbrev aa1 (g:Tg)(τ:ae)(a:A)(S:jV):RS:=RS.of (g a τ S) .nx
@[simp]def Lm {g:Tg}:aa1 g τ a S=RS.of (g a τ S) .nx:=rfl
@[simp]def IJ {e:Ex}{g:Tg}:kP e g τ S=RS.of (e τ S) (aa1 g τ):=rfl
@[simp]def YU {i:Nat}:kG i a τ S=.ok (τ.set i a) S:=rfl
abbrev XY (a o:A)(τ:ae)(i:A)(S:jV):R (ae):=(Fl o i a S).bind λ_ S3=>.ok τ S3
abbrev kSb (ci:Ex)(τ:ae)(a o:A)(S:jV):R (ae):=(ci τ S).bind<|XY a o τ
@[simp]def Jw {o i:A}:XY a o τ i S=(Fl o i a S).bind λ_ S3=>.ok τ S3:=rfl
@[simp]def Qx {ci:Ex}{o:A}:kSb ci τ a o S=(ci τ S).bind (XY a o τ):=rfl
@[simp]def Pr {co ci:Ex}:Uu co ci a τ S=(co τ S).bind (kSb ci τ a):=rfl
@[simp]def RQ {n:Nat}{gs:SD}{xs:ae}:Bv n gs (.tup xs) τ S=gd (xs.length=n) (gs xs τ S):=rfl
@[simp]def Ng:Bw [] τ S=.ok τ S:=rfl
@[simp]def Nh {g:Tg}{gs:SD}{as:ae}:tB g gs (a::as) τ S=(g a τ S).bind (gs as):=rfl
abbrev sPr (i j:Nat)(τ:ae)(as:ae)(S:jV):RS:=match as with
 | [a,b]=>.nx ((τ.set i a).set j b) S
 | _=>.no
@[simp]def Qt {i j:Nat}:sPr i j τ [a,b] S=.nx ((τ.set i a).set j b) S:=rfl
@[simp]def Jx {i j:Nat}{c:q_}:adB i j c τ S=RS.of (c τ S) (sPr i j τ):=rfl
abbrev Nj (i:Nat)(τ:ae)(c:A)(S:jV):RS:=.nx (τ.set i c) S
abbrev aby (i:Nat)(f:A->A->jV->R A)(τ:ae)(b:A)(S:jV):RS:=.of (f (τ.getD i .unb) b S)<|Nj i τ
@[simp]def Ft {i:Nat}:Nj i τ a S=.nx (τ.set i a) S:=rfl
@[simp]def IP {i:Nat}{f:A->A->jV->R A}:aby i f τ a S=.of (f (τ.getD i .unb) a S) (Nj i τ):=rfl
@[simp]def Il {i:Nat}{f:A->A->jV->R A}{e:Ex}:O0 i f e τ S=bif (τ.getD i .unb).pL then .no else .of (e τ S) (aby i f τ):=by
 unfold O0;cases(τ.getD i .unb).pL<;>rfl
abbrev kS5 (o i:A)(τ:ae)(z:A)(S:jV):RS:=.of (Fl o i z S) λ_ d=>.nx τ d
abbrev kS4 (f:A->A->jV->R A)(o i x:A)(τ:ae)(y:A)(S:jV):RS:=.of (f x y S)<|kS5 o i τ
abbrev kS3 (ce:Ex)(f:A->A->jV->R A)(o i:A)(τ:ae)(x:A)(S:jV):RS:=.of (ce τ S)<|kS4 f o i x τ
abbrev kS2 (ce:Ex)(f:A->A->jV->R A)(o:A)(τ:ae)(i:A)(S:jV):RS:=.of (Uv o i S)<|kS3 ce f o i τ
abbrev kS1 (ci ce:Ex)(f:A->A->jV->R A)(τ:ae)(o:A)(S:jV):RS:=.of (ci τ S)<|kS2 ce f o τ
@[simp]def N7 {o i:A}:kS5 o i τ a S=.of (Fl o i a S) λ_ S6=>.nx τ S6:=rfl
@[simp]def PU {f:A->A->jV->R A}{o i x:A}:kS4 f o i x τ a S=.of (f x a S) (kS5 o i τ):=rfl
@[simp]def Np {ce:Ex}{f:A->A->jV->R A}{o i:A}:kS3 ce f o i τ a S=.of (ce τ S) (kS4 f o i a τ):=rfl
@[simp]def Qp {ce:Ex}{f:A->A->jV->R A}{o:A}:kS2 ce f o τ a S=.of (Uv o a S) (kS3 ce f o a τ):=rfl
@[simp]def QF {ci ce:Ex}{f:A->A->jV->R A}:kS1 ci ce f τ a S=.of (ci τ S) (kS2 ce f a τ):=rfl
@[simp]def EN {co ci ce:Ex}{f:A->A->jV->R A}:aav co ci ce f τ S=RS.of (co τ S) (kS1 ci ce f τ):=rfl
abbrev RS.end (r:RS):R A:=match r with
 | .rt a d=>.ok a d
 | .nx _ d=>.ok .non d
 | .ex c d=>.ex c d
 | _=>.no
@[simp]def RS.N5:RS.end (.rt a S)=.ok a S:=rfl
@[simp]def RS.O4:RS.end (.nx τ S)=.ok .non S:=rfl
@[simp]def RS.PM {c:Str}:RS.end (.ex c S)=.ex c S:=rfl
theorem xW {N:ar}{m:Sm}{as:ae}:lY N m as S=RS.end (m (as++List.replicate (N.length-as.length) .unb) S):=by
 unfold lY RS.end;cases m (as++List.replicate (N.length-as.length) .unb) S<;>rfl
@[simp]def Rh {i j:Int}:nB (.int i) (.int j) S=.ok (.int<|i+j) S:=rfl
@[simp]def Ph {i j:Int}:aSub (.int i) (.int j) S=.ok (.int<|i-j) S:=rfl
@[simp]def Qa {i j:Int}:ac4 (.int i) (.int j) S=.ok (.int<|i+j) S:=rfl
theorem Od{i j:Int}(h:-18446744073709551616<i)(h':i<18446744073709551616):yC (.int i) (.int j) S=.ok (.int<|i * j) S:=oO<|by unfold yg;simp;left;exact⟨by omega,by omega⟩
def mul_r{i j:Int}(h:-18446744073709551616<j)(h':j<18446744073709551616):yC (.int i) (.int j) S=.ok (.int<|i * j) S:=oO<|by unfold yg;simp;right;exact⟨(),()⟩
def Rw{i j:Int}(h:0<j)(h':j<1073741824):z9 (.int i) (.int j) S=.ok (.int<|i / j) S:=oO ⟨h,()⟩
def Zq{i j:Int}(h:0<j)(h':j<18446744073709551616):z9 (.int i) (.int j) S=.ok (.int<|i / j) S:=oO ⟨h,h'⟩
def Fq{i j:Int}(h:0<j):Dw (.int i) (.int j) S=.ok (.int<|i % j) S:=oO h
@[simp]def VZ {i j:Int}:Zr (.int i) (.int j) S=.ok (.bl<|decide<|i<j) S:=rfl
@[simp]def VN {i j:Int}:aLe (.int i) (.int j) S=.ok (.bl<|decide<|i<=j) S:=rfl
@[simp]def Wc {i j:Int}:MW (.int i) (.int j) S=.ok (.bl<|decide<|j<i) S:=rfl
@[simp]def VX {i j:Int}:aGe (.int i) (.int j) S=.ok (.bl<|decide<|j<=i) S:=rfl
@[simp]def Wr {i j:Bool}:HL false (.bl i) (.bl j) S=.ok (.bl<|i == j) S:=rfl
@[simp]def PR {i j:Bool}:HL true (.bl i) (.bl j) S=.ok (.bl<|i != j) S:=rfl
@[simp]def Ou {i:Int}:N4 (.int i) S=.ok (.int<|-i) S:=rfl
@[simp]def O3 {xs:ae}:tP (.tup xs) S=.ok (.int xs.length) S:=rfl
@[simp]def Ox {xs:ae}:tP (.frz xs) S=.ok (.int xs.length) S:=rfl
@[simp]def Q_ {n:Nat}:tP (.ref n) S=opt (jT S n) λxs=>.ok (.int xs.length) S:=rfl
@[simp]def Sv {i:Int}:Yi (.int i) S=.ok (.int<|if i<0 then -i else i) S:=rfl
@[simp]def Jm {i j:Int}:abw (.int i) (.int j) S=.ok (.int<|if j>i then j else i) S:=rfl
@[simp]def Iz {i j:Int}:ab1 (.int i) (.int j) S=.ok (.int<|if j<i then j else i) S:=rfl
@[simp]def J0 {i:Int}:Wt (.int i) S=.ok (.int i) S:=rfl
@[simp]def Ky {i:Bool}:Wt (.bl i) S=.ok (.int<|if i then 1 else 0) S:=rfl
@[simp]def Ce {i j:Int}:Ei (.int i) (.int j) S=.ok (.rng i j) S:=rfl
@[simp]def V8 {xs:ae}{i:Int}:pP (.tup xs) (.int i) S=opt (uZ xs i) λx=>.ok x S:=rfl
@[simp]def Ws {xs:ae}{i:Int}:pP (.frz xs) (.int i) S=opt (uZ xs i) λx=>.ok x S:=rfl
@[simp]def WE {n:Nat}{i:Int}:pP (.ref n) (.int i) S=opt (jT S n) λxs=>opt (uZ xs i) λx=>.ok x S:=rfl
@[simp]def M8 {n:Nat}{k:Int}:Fl (.ref n) (.int k) a S=opt (jT S n) λxs=>opt (EB xs.length k) λj=>.ok Unit.unit (S.set n<|.lst<|xs.set j a):=rfl
@[simp]def NK {n:Nat}{i:Int}:Uv (.ref n) (.int i) S=opt (jT S n) λxs=>gd (0<=i) (opt (xs[i.toNat]?) λx=>.ok x S):=rfl
theorem MI{i j:Int}(h:BV i j):ze (.rng i j) S=.ok (.ref S.length) (S++[.lst<|(l8 i j).map .int]):=oO h
@[simp]def JO {xs:ae}:ze (.tup xs) S=.ok (.ref S.length) (S++[.lst xs]):=rfl
@[simp]def Kv {xs:ae}:ze (.frz xs) S=.ok (.ref S.length) (S++[.lst xs]):=rfl
@[simp]def Jr {n:Nat}:ze (.ref n) S=opt (jT S n) λxs=>.ok (.ref S.length) (S++[.lst xs]):=rfl
@[simp]def Gu {xs:ae}:vf (.tup xs) S=.ok (.tup xs) S:=rfl
@[simp]def F5 {n:Nat}:vf (.ref n) S=opt (jT S n) λxs=>.ok (.tup xs) S:=rfl
@[simp]def OV {xs:ae}:aap (.tup xs) S=.ok (.tup xs.reverse) S:=rfl
@[simp]def Pp {n:Nat}:aap (.ref n) S=opt (jT S n) λxs=>.ok (.ref S.length) (S++[.lst xs.reverse]):=rfl
@[simp]def WK {n:Nat}{l u:Option Int}:aSl (.ref n) l u S=opt (jT S n) λxs=>.ok (.ref S.length) (S++[.lst<|Ug xs l u]):=rfl
@[simp]def Ac {n:Nat}:mV (.ref n) [a] S=opt (jT S n) λxs=>gd (xs.length<sizeLine) (.ok .non<|S.set n<|.lst<|xs++[a]):=rfl
@[simp]def NJ {b:Bool}:A.WH (.bl b) S=some b:=rfl
@[simp]def J2 {i:Int}:A.WH (.int i) S=some (i != 0):=rfl
theorem Be{o:O}:(S++[o])[S.length]?=some o:=by simp
@[simp]def kc {xs:ae}:jT (S++[.lst xs]) S.length=some xs:=nj Be
theorem k_{o:O}{n:Nat}(h:jT S n=some xs):jT (S++[o]) n=some xs:=by
 have h':=j8 h;exact nj<|by rw[bu (aJ.mp h').1];exact h'
def mh{n:Nat}(h:jT S n=some xs):n<S.length:=(aJ.mp<|j8 h).1
def qc{n:Nat}(h:n<S.length):jT (S.set n<|.lst ys) n=some ys:=nj<|bA h
def nF{n:Nat}(h:n≠m):jT (S.set n<|.lst ys) m=jT S m:=by unfold jT;rw[bJ h]
def Av{xs:ae}{i:Int}{k:Nat}{x:A}(h:i=k)(hx:xs[k]?=some x):uZ xs i=some x:=by rw[h];exact TF hx
def yJ{n:Nat}{i:Int}{k:Nat}(h:i=k)(hk:k<n):EB n i=some k:=by
 subst h;unfold EB;rw[aW (),aW ()];simp
end
structure Kp (b:Nat->Prop)(S S':jV):Prop where
 len:S.length<=S'.length
 obj:∀(n:Nat) (o:O),¬b n->S[n]?=some o->S'[n]?=some o
meta abbrev lG:=Kp λ_=>False
def Kp.lst{b:Nat->Prop}(h:Kp b S S')(n:Nat)(xs:ae)(hb:¬b n)(e:jT S n=some xs):jT S' n=some xs:=nj<|h.obj n _ hb<|j8 e
def Kp.dct{b:Nat->Prop}(h:Kp b S S')(n:Nat)(xs:List<|ag×A)(hb:¬b n)(e:ki S n=some xs):ki S' n=some xs:=rz<|h.obj n _ hb<|mC e
def Kp.refl{b:Nat->Prop}:Kp b S S:=⟨aN _,λ_ _ _ h=>h⟩
def Kp.trans{b:Nat->Prop}(h:Kp b S S1)(h':Kp b S1 S2):Kp b S S2:=⟨bK h.len h'.len,λn xs hb e=>h'.obj n xs hb<|h.obj n xs hb e⟩
def CQ{S:jV}{n:Nat}(e:S[n]?=some o):n<S.length:=(aJ.mp e).1
def Kp.lay{b:Nat->Prop}{o:O}(h:Kp b S S1):Kp b S (S1++[o]):=⟨bK h.len<|by simp,λn xs hb e=>by
 have:=h.obj n xs hb e;rw[bu<|CQ this];exact this⟩
def Kp.qi{b:Nat->Prop}{S S1:jV}(h:Kp b S S1)(hm:b m\/S.length<=m):Kp b S (S1.set m o):=⟨by rw[bX];exact h.len,λn xs hb e=>by
 have:m≠n:=λz=>by
  subst z
  rcases hm with z|z
  ·exact hb z
  ·exact absurd (CQ e) ()
 rw[bJ this];exact h.obj n xs hb e⟩
def Kp.set{b:Nat->Prop}{S S1:jV}(h:Kp b S S1)(hm:b m\/S.length<=m):Kp b S (S1.set m<|.lst ys):=h.qi hm
def Kp.mono{b c:Nat->Prop}{S:jV}(h:Kp b S S1)(hb:∀n,n<S.length->b n->c n):Kp c S S1:=⟨h.len,λn xs hc e=>h.obj n xs (λz=>hc<|hb n (CQ e) z) e⟩
def Kp.of0{b:Nat->Prop}(h:lG S S1):Kp b S S1:=h.mono λ_ _ z=>z.elim
def Kp.old{b c:Nat->Prop}{S:jV}(h:Kp b S S1)(h':Kp c S1 S2)(hc:∀n,n<S.length->¬b n->¬c n):Kp b S S2:=⟨bK h.len h'.len,λn xs hb e=>h'.obj n xs (hc n (CQ e) hb)<|h.obj n xs hb e⟩
theorem z8{t:Te}{c:Sm}(Inv:ae->jV->Prop)(μ:ae->jV->Nat)(Post:RS->Prop)
  (h:∀τ S,Inv τ S->(∃S1,t τ S=.ok false S1/\Post (.nx τ S1))\/(∃S1,t τ S=.ok true S1/\((∃τ' S',c τ S1=.nx τ' S'/\Inv τ' S'/\μ τ' S'<μ τ S)\/(∃a S',c τ S1=.rt a S'/\Post (.rt a S'))))) :
  ∀n τ S,Inv τ S->μ τ S<n->Post (lD t c n τ S)
 | 0,_,_,_,hn=>absurd hn (eB _)
 | n+1,τ,S,f,hn=>by
  unfold lD
  rcases h τ S f with⟨S1,e,q⟩|⟨S1,e,⟨τ',S',e2,d,g⟩|⟨a,S',e2,q⟩⟩
  ·rw[e];exact q
  ·rw[e];show Post (match c τ S1 with
    | .nx τ' S'=>lD t c n τ' S'
    | .ct τ' S'=>lD t c n τ' S'
    | .bk τ' S'=>.nx τ' S'
    | r=>r)
   rw[e2];exact z8 Inv μ Post h n τ' S' d ()
  ·rw[e];show Post (match c τ S1 with
    | .nx τ' S'=>lD t c n τ' S'
    | .ct τ' S'=>lD t c n τ' S'
    | .bk τ' S'=>.nx τ' S'
    | r=>r)
   rw[e2];exact q
theorem Dr{s:Src}{g:Tg}{c:Sm}(Inv:Nat->ae->jV->Prop)(Post:RS->Prop)
  (step:∀i τ S,i<s.k->Inv i τ S->∃x τ1 S1,s.get i S=some x/\g x τ S=.ok τ1 S1/\((∃τ' S',c τ1 S1=.nx τ' S'/\Inv (i+1) τ' S')\/(∃a S',c τ1 S1=.rt a S'/\Post (.rt a S'))))
  (fin:∀τ S,Inv s.k τ S->s.fin S=true/\Post (.nx τ S)):∀k i τ S,k+i=s.k->Inv i τ S->Post (sF s g c k i τ S)
 | 0,i,τ,S,hk,hi=>by
  have:i=s.k:=()
  subst this;obtain⟨hf,q⟩:=fin τ S hi;unfold sF;rw[aW hf];exact q
 | k+1,i,τ,S,hk,hi=>by
  obtain⟨x,τ1,S1,f,hg,h⟩:=step i τ S () hi;unfold sF;rw[f];show Post (RS.of (g x τ S) λτ1 S1=>match c τ1 S1 with
   | .nx τ' S'=>sF s g c k (i+1) τ' S'
   | .ct τ' S'=>sF s g c k (i+1) τ' S'
   | .bk τ' S'=>.nx τ' S'
   | r=>r)
  rw[hg];show Post (match c τ1 S1 with
   | .nx τ' S'=>sF s g c k (i+1) τ' S'
   | .ct τ' S'=>sF s g c k (i+1) τ' S'
   | .bk τ' S'=>.nx τ' S'
   | r=>r)
  rcases h with⟨τ',S',e,d⟩|⟨a,S',e,q⟩
  ·rw[e];exact Dr Inv Post step fin k (i+1) τ' S' () d
  ·rw[e];exact q
def IE{lo hi:Int}{c:Sm}{src:Ic}{τ:ae}(hs:src τ S=.ok (sJ lo hi) S1)(Inv:Nat->ae->jV->Prop)(Post:RS->Prop)(h0:Inv 0 τ S1)
  (step:∀(i:Nat) τ S,(i:Int)<hi-lo->Inv i τ S->(∃τ' S',c (τ.set j<|.int<|lo+i) S=.nx τ' S'/\Inv (i+1) τ' S')\/(∃a S',c (τ.set j<|.int<|lo+i) S=.rt a S'/\Post (.rt a S')))
  (fin:∀τ S,Inv (hi-lo).toNat τ S->Post (.nx τ S)):Post (mX src (kG j) c τ S):=by
 unfold mX;rw[hs];refine Dr (s:=sJ lo hi) Inv Post (λi τ S d h=>?_) (λτ S h=>⟨rfl,fin τ S h⟩) _ 0 τ S1 rfl h0;have d:i<(hi-lo).toNat:=d;exact⟨.int<|lo+i,_,S,aW d,rfl,step i τ S (by omega) h⟩
def QE{xs:ae}{g:Tg}{c:Sm}{src:Ic}(hs:src τ S=.ok (FZ xs) S1)(Inv:Nat->ae->jV->Prop)(Post:RS->Prop)(h0:Inv 0 τ S1)
  (step:∀(i:Nat) x τ S,xs[i]?=some x->Inv i τ S->∃τ1 S1,g (.tup [.int i,x]) τ S=.ok τ1 S1/\((∃τ' S',c τ1 S1=.nx τ' S'/\Inv (i+1) τ' S')\/(∃a S',c τ1 S1=.rt a S'/\Post (.rt a S'))))
  (fin:∀τ S,Inv xs.length τ S->Post (.nx τ S)):Post (mX src g c τ S):=by
 unfold mX;rw[hs];refine Dr (s:=FZ xs) Inv Post (λi τ S d h=>?_) (λτ S h=>⟨rfl,fin τ S h⟩) _ 0 τ S1 rfl h0;have d:i<xs.length:=d;obtain⟨τ1,S1,e,q⟩:=step i xs[i] τ S (aI d) h;exact⟨.tup [.int i,xs[i]],τ1,S1,by show(xs[i]?).map _=_;rw[aI d];rfl,e,q⟩
def o9{n:Nat}{xs:ae}{g:Tg}{c:Sm}{src:Ic}(hs:src τ S=.ok (l_ n xs.length) S1)(Inv:Nat->ae->jV->Prop)(Post:RS->Prop)(h0:Inv 0 τ S1)(hl:∀i τ S,Inv i τ S->jT S n=some xs)
  (step:∀(i:Nat) x τ S,xs[i]?=some x->Inv i τ S->∃τ1 S1,g x τ S=.ok τ1 S1/\((∃τ' S',c τ1 S1=.nx τ' S'/\Inv (i+1) τ' S')\/(∃a S',c τ1 S1=.rt a S'/\Post (.rt a S'))))
  (fin:∀τ S,Inv xs.length τ S->Post (.nx τ S)):Post (mX src g c τ S):=by
 unfold mX;rw[hs];refine Dr (s:=l_ n xs.length) Inv Post (λi τ S d h=>?_) (λτ S h=>⟨?_,fin τ S h⟩) _ 0 τ S1 rfl h0
 ·have d:i<xs.length:=d;obtain⟨τ1,S1,e,q⟩:=step i xs[i] τ S (aI d) h;exact⟨xs[i],τ1,S1,by show(jT S n).bind _=_;rw[hl i τ S h];exact aI d,e,q⟩
 ·show(match jT S n with
   | some ys=>decide (ys.length<=xs.length)
   | none=>false)=true
  rw[hl _ τ S h];exact bf<|aN _
@[simp]def AZ {c:Ex}{τ:ae}{S S1:jV}{j:Int}(h:c τ S=.ok (.int j) S1)(hb:bnd j):tH c τ S=.ok (sJ 0 j) S1:=by
 unfold tH;rw[h];exact oO hb
def xJ{c d:Ex}{i j:Int}(h:c τ S=.ok (.int i) S1)(h':d τ S1=.ok (.int j) S2)(hb:bnd i)(hb':bnd j):uU c d τ S=.ok (sJ i j) S2:=by
 unfold uU;rw[h];show(d τ S1).bind _=_;rw[h'];exact oO ⟨hb,hb'⟩
def mF{c:Ex}{n:Nat}{xs:ae}(h:c τ S=.ok (.ref n) S1)(hl:jT S1 n=some xs):lJ c τ S=.ok (l_ n xs.length) S1:=by
 unfold lJ;rw[h];show opt (jT S1 n) _=_;rw[hl];rfl
def Sl{c:Ex}(h:c τ S=.ok (.tup xs) S1):MZ c τ S=.ok (FZ xs) S1:=by unfold MZ;rw[h];rfl
theorem xZ{s:Src}{g:Tg}{t:Te}{e:Ex}{P:jV->Prop}{T:ae->Prop}(it:Nat->A)(p:Nat->Bool)(f:Nat->A)
  (hget:∀i S,i<s.k->P S->s.get i S=some (it i)) (hfin:∀S,P S->s.fin S=true)
  (step:∀i τ S,i<s.k->T τ->P S->∃τ1 S1 S2,g (it i) τ S=.ok τ1 S1/\t τ1 S1=.ok (p i) S2/\T τ1/\(p i=false->P S2)/\(p i=true->∃S3,e τ1 S2=.ok (f i) S3/\P S3)) :
  ∀k i τ S,k+i=s.k->T τ->P S->∃S',nP s g t e k i τ S=.ok (((List.range' i k).filter p).map f) S'/\P S'
 | 0,i,τ,S,hk,hT,hP=>⟨S,by unfold nP;rw[aW<|hfin S hP];rfl,hP⟩
 | k+1,i,τ,S,hk,hT,hP=>by
  obtain⟨τ1,S1,S2,hg,C,d,F,q⟩:=step i τ S (by omega) hT hP;unfold nP;rw[hget i S (by omega) hP,j_,hg,R.kX,C,R.kX,iM,gv]
  cases B:p i with
  | false=>
   obtain⟨S',h1,h2⟩:=xZ it p f hget hfin step k (i+1) τ1 S2 (by omega) d<|F B;exact⟨S',by simpa using h1,h2⟩
  | true=>
   obtain⟨S3,D,j⟩:=q B;obtain⟨S',h1,h2⟩:=xZ it p f hget hfin step k (i+1) τ1 S3 (by omega) d j;refine⟨S',?_,h2⟩
   skip
   rw[D,R.kX,h1];rfl
def yU{s:Src}{src:Ic}{t:Te}{e:Ex}{S1:jV}(hs:src τ S=.ok s S1)(it:Nat->A)(p:Nat->Bool)(f:Nat->A)(hget:∀i,i<s.k->s.get i S1=some (it i))(hfin:s.fin S1=true)
  (ht:∀i,i<s.k->t (it i::l7 cap τ) S1=.ok (p i) S1) (he:∀i,i<s.k->p i=true->e (it i::l7 cap τ) S1=.ok (f i) S1) (hl:s.k<=16777216) :
  kL (none::cap) src (kG 0) t e τ S=.ok (.ref S1.length) (S1++[.lst<|((List.range s.k).filter p).map f]):=by
 unfold kL;rw[hs,R.ny];obtain⟨B,h1,h2⟩:=xZ (s:=s) (g:=kG 0) (t:=t) (e:=e) (P:=λS=>S=S1) (T:=λd=>∃y,d=y::l7 cap τ) it p f (λi S j h=>by subst h;exact hget i j) (λS h=>by subst h;exact hfin)
  (λi d S j ⟨y,hy⟩ h=>by
   subst h hy;exact⟨it i::l7 cap τ,S,S,rfl,ht i j,⟨_,rfl⟩,λ_=>rfl,λq=>⟨S,he i j q,rfl⟩⟩) s.k 0 (l7 (none::cap) τ) S1 rfl ⟨_,rfl⟩ rfl
 subst h2;rw[h1,R.kX,f_];refine mW ?_;rw[aH];refine bK (c8 _ _) ?_;rw[List.length_range'];exact hl
def nO{α β:Type}(xs:List α)(p:α->Bool)(f:α->β):∀(d:α) ,(((List.range xs.length).filter λi=>p<|xs.getD i d).map λi=>f<|xs.getD i d)=(xs.filter p).map f:=by
 intro d
 induction xs with
 | nil=>rfl
 | cons x xs j=>
  rw[bB,List.range_succ_eq_map,gv,gv];have e:((List.filter (λi=>p<|(x::xs).getD i d)<|List.map Nat.succ<|List.range xs.length).map λi=>f<|(x::xs).getD i d)=(xs.filter p).map f:=by
   rw[gK,aY];rw[<- j];rfl
  show List.map _ (if p x=true then _ else _)=List.map f (if p x=true then _ else _);by_cases g:p x=true
  ·rw[aW g,aW g,bC,bC,e];rfl
  ·rw[aV g,aV g,e]
def Sf{xs:ae}{src:Ic}{t:Te}{e:Ex}{S1:jV}(hs:src τ S=.ok (qD xs) S1)(p:A->Bool)(f:A->A)
  (ht:∀x∈xs,t (x::l7 cap τ) S1=.ok (p x) S1) (he:∀x∈xs,p x=true->e (x::l7 cap τ) S1=.ok (f x) S1) (hl:xs.length<=16777216) :
  kL (none::cap) src (kG 0) t e τ S=.ok (.ref S1.length) (S1++[.lst<|(xs.filter p).map f]):=by
 have g:∀i,i<xs.length->xs.getD i .unb∈xs:=λi d=>by
  rw[aK,aI d];exact di d
 rw[yU hs (λi=>xs.getD i .unb) (λi=>p<|xs.getD i .unb) (λi=>f<|xs.getD i .unb) (λi d=>by
  have d:i<xs.length:=d;show xs[i]?=_;rw[aK,aI d];rfl) rfl (λi d=>ht _<|g i d) (λi d=>he _<|g i d) hl]
 have:=nO xs p f .unb;show R.ok _ (S1++[O.lst<|((List.range xs.length).filter _).map _])=_;rw[this]
def yj{lo hi:Int}{src:Ic}{t:Te}{e:Ex}{S1:jV}(hs:src τ S=.ok (sJ lo hi) S1)(p:Int->Bool)(f:Int->A)
  (ht:∀k,lo<=k->k<hi->t (.int k::l7 cap τ) S1=.ok (p k) S1) (he:∀k,lo<=k->k<hi->p k=true->e (.int k::l7 cap τ) S1=.ok (f k) S1) (hl:(hi-lo).toNat<=16777216) :
  kL (none::cap) src (kG 0) t e τ S=.ok (.ref S1.length) (S1++[.lst<|((l8 lo hi).filter p).map f]):=by
 rw[yU hs (λi=>.int<|lo+i) (λi=>p<|lo+i) (λi=>f<|lo+i) (λi d=>aW d) rfl (λi d=>ht _ () (by have:i<(hi-lo).toNat:=d;lia)) (λi d=>he _ () (by have:i<(hi-lo).toNat:=d;lia)) hl];unfold l8;rw[gK,aY];rfl
@[simp]def Pn {cap:List<|bj}{τ:ae}:l7 (none::cap) τ=.unb::l7 cap τ:=rfl
@[simp]def Rm {cap:List<|bj}{τ:ae}{j:Nat}:l7 (some j::cap) τ=τ.getD j .unb::l7 cap τ:=rfl
@[simp]def F_ {τ:ae}:l7 [] τ=[]:=rfl
theorem xK{x:A}:uZ (x::xs) 0=some x:=Av (k:=0) rfl rfl
def Jt{x:A}:uZ (x::y::xs) 1=some y:=Av (k:=1) rfl rfl
def Ep{ns:ag}{i:Int}{k:Nat}{x:Int}(h:i=k)(hx:ns[k]?=some x):uZ (ns.map A.int) i=some (.int x):=Av h<|by rw[aR,hx];rfl
def rJ{j:Int}(h:-4611686018427387904<=j)(h':j<4611686018427387904):bnd j:=⟨(),()⟩
def M4{i j:Int}(h1:-1000000<=i)(h2:i<=1000000)(h3:-1000000<=j)(h4:j<=1000000)(h5:j-i<=1000):BV i j:=⟨⟨(),(),(),()⟩,()⟩
theorem ints_map:∀(ns:ag),A.ints (ns.map .int)=some ns
 | []=>rfl
 | n::ns=>by show(A.ints<|ns.map .int).map (n::·)=_;rw[ints_map ns];rfl
theorem yI{n:Nat}:∀(xs ys:ag),tR (zd S<|n+1) (xs.map .int) (ys.map .int)=some (decide<|xs=ys)
 | [],[]=>rfl
 | [],_::_=>rfl
 | _::_,[]=>rfl
 | x::xs,y::ys=>by
  skip
  skip
  show Option.map _ (tR (zd S<|n+1) (xs.map .int)<|ys.map .int)=_;rw[yI xs ys]
  skip
  by_cases h1:x=y<;>by_cases h2:xs=ys<;>simp[h1,h2]
@[simp]def Wh {S:jV}{x y:Bool}:yc false (.bl x) (.bl y) S=.ok (.bl<|x == y) S:=rfl
@[simp]def V5 {S:jV}{x y:Bool}:yc true (.bl x) (.bl y) S=.ok (.bl<|!(x == y)) S:=rfl
@[simp]def VW {S:jV}{x y:Int}:yc false (.int x) (.int y) S=.ok (.bl<|x == y) S:=rfl
@[simp]def WN {S:jV}{x y:Int}:yc true (.int x) (.int y) S=.ok (.bl<|!(x == y)) S:=rfl
@[simp]def KP {S:jV}:HL false .non .non S=.ok (.bl true) S:=rfl
@[simp]def KL {S:jV}{xs:ae}:HL false (.tup xs) .non S=.ok (.bl false) S:=rfl
@[simp]def JP {S:jV}{n:Nat}:HL false (.ref n) .non S=.ok (.bl false) S:=rfl
@[simp]def Fy {S:jV}:HL true .non .non S=.ok (.bl false) S:=rfl
@[simp]def EC {S:jV}{xs:ae}:HL true (.tup xs) .non S=.ok (.bl true) S:=rfl
@[simp]def FN {S:jV}{n:Nat}:HL true (.ref n) .non S=.ok (.bl true) S:=rfl
@[simp]def ID {S:jV}{x:A}{c:String}:yx x (.ty c) S=opt (x.kd S) λk=>opt (Me k c) λb=>.ok (.bl b) S:=rfl
@[simp]def Wq {S:jV}{b:Bool}:A.kd (.bl b) S=some .bl:=rfl
@[simp]def RK {S:jV}{b:Int}:A.kd (.int b) S=some .int:=rfl
@[simp]def Py {S:jV}{b:ae}:A.kd (.tup b) S=some .tup:=rfl
@[simp]def OB {S:jV}:A.kd .non S=some .non:=rfl
@[simp]def Pe {S:jV}{b:Str}:A.kd (.str b) S=some .str:=rfl
@[simp]def QS {S:jV}{n:Nat}:A.kd (.ref n) S=(jT S n).map λ_=>.lst:=rfl
@[simp]def P1 {S:jV}:newL [] S=.ok (.ref S.length) (S++[.lst []]):=mW<|by simp
@[simp]def Sw {S:jV}{x0:A}:newL [x0] S=.ok (.ref S.length) (S++[.lst [x0]]):=mW<|by simp
@[simp]def Sy {S:jV}{x0 x1:A}:newL [x0,x1] S=.ok (.ref S.length) (S++[.lst [x0,x1]]):=mW<|by simp
@[simp]def RI {S:jV}{x0 x1 x2:A}:newL [x0,x1,x2] S=.ok (.ref S.length) (S++[.lst [x0,x1,x2]]):=mW<|by simp
@[simp]def Rf {S:jV}{x0 x1 x2 x3:A}:newL [x0,x1,x2,x3] S=.ok (.ref S.length) (S++[.lst [x0,x1,x2,x3]]):=mW<|by simp
@[simp]def Qy {S:jV}{x0 x1 x2 x3 x4:A}:newL [x0,x1,x2,x3,x4] S=.ok (.ref S.length) (S++[.lst [x0,x1,x2,x3,x4]]):=mW<|by simp
@[simp]def Ob {S:jV}{x0 x1 x2 x3 x4 x5:A}:newL [x0,x1,x2,x3,x4,x5] S=.ok (.ref S.length) (S++[.lst [x0,x1,x2,x3,x4,x5]]):=mW<|by simp
@[simp]def OH {S:jV}{x0 x1 x2 x3 x4 x5 x6:A}:newL [x0,x1,x2,x3,x4,x5,x6] S=.ok (.ref S.length) (S++[.lst [x0,x1,x2,x3,x4,x5,x6]]):=mW<|by simp
@[simp]def NN {S:jV}{x0 x1 x2 x3 x4 x5 x6 x7:A}:newL [x0,x1,x2,x3,x4,x5,x6,x7] S=.ok (.ref S.length) (S++[.lst [x0,x1,x2,x3,x4,x5,x6,x7]]):=mW<|by simp
@[simp]def Qg {S:jV}{x0 x1 x2 x3 x4 x5 x6 x7 x8:A}:newL [x0,x1,x2,x3,x4,x5,x6,x7,x8] S=.ok (.ref S.length) (S++[.lst [x0,x1,x2,x3,x4,x5,x6,x7,x8]]):=mW<|by simp
@[simp]def La {S:jV}{x0 x1 x2 x3 x4 x5 x6 x7 x8 x9:A}:newL [x0,x1,x2,x3,x4,x5,x6,x7,x8,x9] S=.ok (.ref S.length) (S++[.lst [x0,x1,x2,x3,x4,x5,x6,x7,x8,x9]]):=mW<|by simp
theorem pG{α:Type}{n:Nat}{r:R α}(h:n<=16777216):gd (n<=sizeLine) r=r:=oO<|by rw[eS];exact h
def pN{α:Type}{n:Nat}{r:R α}(h:n<16777216):gd (n<sizeLine) r=r:=oO<|by rw[eS];exact h
def Wo {x:A}{xs:ae}:(x::xs).getD 0 .unb=x:=rfl
def V4 {x:A}{xs:ae}{n:Nat}:(x::xs).getD (n+1) .unb=xs.getD n .unb:=rfl
def aa3 {x y:A}{xs:ae}:(x::xs).set 0 y=y::xs:=rfl
def sets {x y:A}{xs:ae}{n:Nat}:(x::xs).set (n+1) y=x::xs.set n y:=rfl
def rep0 {x:A}:List.replicate 0 x=[]:=rfl
def reps {x:A}{n:Nat}:List.replicate (n+1) x=x::List.replicate n x:=rfl
def aa0 {x:A}{xs ys:ae}:(x::xs)++ys=x::(xs++ys):=rfl
def ab6 {ys:ae}:[]++ys=ys:=rfl
def WG{S:jV}{n:Nat}{xs ys:ae}(h:jT S n=some xs)(h':jT S m=some ys)(hl:xs.length+ys.length<=16777216):nB (.ref n) (.ref m) S=.ok (.ref S.length) (S++[.lst<|xs++ys]):=by
 show opt (jT S n) _=_;rw[h,j_,h',j_];exact oO<|by rw[eS];exact hl
abbrev uV (x:A)(S:jV):R A:=bif x.pL then .no else .ok x S
def P9 {xs:ae}{S:jV}:uV (.tup xs) S=.ok (.tup xs) S:=rfl
def Pk {xs:ae}{S:jV}:uV (.frz xs) S=.ok (.frz xs) S:=rfl
def OO {i:Int}{S:jV}:uV (.int i) S=.ok (.int i) S:=rfl
def Wz {b:Bool}{S:jV}:uV (.bl b) S=.ok (.bl b) S:=rfl
def Pb {s:Str}{S:jV}:uV (.str s) S=.ok (.str s) S:=rfl
def Nl {n:Nat}{S:jV}:uV (.ref n) S=.ok (.ref n) S:=rfl
def QI  {S:jV}:uV (.non) S=.ok (.non) S:=rfl
def Ov {i j:Int}{S:jV}:uV (.rng i j) S=.ok (.rng i j) S:=rfl
def QG {s:Str}{S:jV}:uV (.exn s) S=.ok (.exn s) S:=rfl
def eV0 {x0:A}{xs:ae}{S:jV}:jR 0 (x0::xs) S=uV x0 S:=qU
def eV1 {x0 x1:A}{xs:ae}{S:jV}:jR 1 (x0::x1::xs) S=uV x1 S:=qU
def eV2 {x0 x1 x2:A}{xs:ae}{S:jV}:jR 2 (x0::x1::x2::xs) S=uV x2 S:=qU
def eV3 {x0 x1 x2 x3:A}{xs:ae}{S:jV}:jR 3 (x0::x1::x2::x3::xs) S=uV x3 S:=qU
def eV4 {x0 x1 x2 x3 x4:A}{xs:ae}{S:jV}:jR 4 (x0::x1::x2::x3::x4::xs) S=uV x4 S:=qU
def eV5 {x0 x1 x2 x3 x4 x5:A}{xs:ae}{S:jV}:jR 5 (x0::x1::x2::x3::x4::x5::xs) S=uV x5 S:=qU
def eV6 {x0 x1 x2 x3 x4 x5 x6:A}{xs:ae}{S:jV}:jR 6 (x0::x1::x2::x3::x4::x5::x6::xs) S=uV x6 S:=qU
def eV7 {x0 x1 x2 x3 x4 x5 x6 x7:A}{xs:ae}{S:jV}:jR 7 (x0::x1::x2::x3::x4::x5::x6::x7::xs) S=uV x7 S:=qU
def eV8 {x0 x1 x2 x3 x4 x5 x6 x7 x8:A}{xs:ae}{S:jV}:jR 8 (x0::x1::x2::x3::x4::x5::x6::x7::x8::xs) S=uV x8 S:=qU
def gN0 {a x0:A}{xs:ae}{S:jV}:kG 0 a (x0::xs) S=.ok (a::xs) S:=rfl
def gN1 {a x0 x1:A}{xs:ae}{S:jV}:kG 1 a (x0::x1::xs) S=.ok (x0::a::xs) S:=rfl
def gN2 {a x0 x1 x2:A}{xs:ae}{S:jV}:kG 2 a (x0::x1::x2::xs) S=.ok (x0::x1::a::xs) S:=rfl
def gN3 {a x0 x1 x2 x3:A}{xs:ae}{S:jV}:kG 3 a (x0::x1::x2::x3::xs) S=.ok (x0::x1::x2::a::xs) S:=rfl
def gN4 {a x0 x1 x2 x3 x4:A}{xs:ae}{S:jV}:kG 4 a (x0::x1::x2::x3::x4::xs) S=.ok (x0::x1::x2::x3::a::xs) S:=rfl
def gN5 {a x0 x1 x2 x3 x4 x5:A}{xs:ae}{S:jV}:kG 5 a (x0::x1::x2::x3::x4::x5::xs) S=.ok (x0::x1::x2::x3::x4::a::xs) S:=rfl
def gN6 {a x0 x1 x2 x3 x4 x5 x6:A}{xs:ae}{S:jV}:kG 6 a (x0::x1::x2::x3::x4::x5::x6::xs) S=.ok (x0::x1::x2::x3::x4::x5::a::xs) S:=rfl
def gN7 {a x0 x1 x2 x3 x4 x5 x6 x7:A}{xs:ae}{S:jV}:kG 7 a (x0::x1::x2::x3::x4::x5::x6::x7::xs) S=.ok (x0::x1::x2::x3::x4::x5::x6::a::xs) S:=rfl
def gN8 {a x0 x1 x2 x3 x4 x5 x6 x7 x8:A}{xs:ae}{S:jV}:kG 8 a (x0::x1::x2::x3::x4::x5::x6::x7::x8::xs) S=.ok (x0::x1::x2::x3::x4::x5::x6::x7::a::xs) S:=rfl
def kJ:type_of% (anI @R.ny<|anI @R.Lc<|anI @R.kX<|anI @RS.of_ok<|anI @RS.Wu<|anI @j_<|anI @Jg<|anI @eV0<|anI @eV1<|anI @eV2<|anI @eV3<|anI @eV4<|anI @eV5<|anI @eV6<|anI @eV7<|anI @eV8<|anI @P9<|anI @Pk<|anI @OO<|anI @Wz<|anI @Pb<|anI @Nl<|anI @QI<|anI @Ov<|anI @QG<|anI @KA<|anI @IS<|anI @KC<|anI @NV<|anI @Jv<|anI @KZ<|anI @KS<|anI @IT<|anI @IC<|anI @VO<|anI @Lj<|anI @RY<|anI @JW<|anI @V7<|anI @OJ<|anI @Kg<|anI @JV<|anI @O2<|anI @K8<|anI @J8<|anI @IA<|anI @OP<|anI @N8<|anI @Ku<|anI @Nm<|anI @FF<|anI @IX<|anI @Se<|anI @JZ<|anI @Fi<|anI @Lq<|anI @Jo<|anI @Ge<|anI @PZ<|anI @RV<|anI @VY<|anI @VQ<|anI @Sb<|anI @E5<|anI @Ir<|anI @FH<|anI @Of<|anI @K5<|anI @lst?_ref<|anI @RS.PY<|anI @RS.PF<|anI @RS.Om<|anI @RS.NY<|anI @RS.NB<|anI @Jf<|anI @JG<|anI @B6<|anI @EM<|anI @ED<|anI @Ko<|anI @Gw<|anI @Pf<|anI @IJ<|anI @gN0<|anI @gN1<|anI @gN2<|anI @gN3<|anI @gN4<|anI @gN5<|anI @gN6<|anI @gN7<|anI @gN8<|anI @Pr<|anI @RQ<|anI @Ng<|anI @Nh<|anI @Qt<|anI @Jx<|anI @Il<|anI @EN<|anI @RS.N5<|anI @RS.O4<|anI @RS.PM<|anI @Rh<|anI @Ph<|anI @Qa<|anI @VZ<|anI @VN<|anI @Wc<|anI @VX<|anI @Wr<|anI @PR<|anI @Ou<|anI @O3<|anI @Ox<|anI @Q_<|anI @Sv<|anI @Jm<|anI @Iz<|anI @J0<|anI @Ky<|anI @Ce<|anI @V8<|anI @Ws<|anI @WE<|anI @M8<|anI @NK<|anI @JO<|anI @Kv<|anI @Jr<|anI @Gu<|anI @F5<|anI @OV<|anI @Pp<|anI @WK<|anI @Ac<|anI @NJ<|anI @J2<|anI @kc<|anI @Pn<|anI @Rm<|anI @F_<|anI @Wh<|anI @V5<|anI @VW<|anI @WN<|anI @KP<|anI @KL<|anI @JP<|anI @Fy<|anI @EC<|anI @FN<|anI @ID<|anI @Wq<|anI @RK<|anI @Py<|anI @OB<|anI @Pe<|anI @QS<|anI @P1<|anI @Sw<|anI @Sy<|anI @RI<|anI @Rf<|anI @Qy<|anI @Ob<|anI @OH<|anI @NN<|anI @Qg<|anI @La<|anI @Wo<|anI @V4<|anI @aa3<|anI @sets<|anI @rep0<|anI @reps<|anI @aa0<|anI @ab6<|anI @xW<|anI @KR<|anI @Na<|anI @RE<|anI @VV<|anI @WQ<|anI @OY<|anI @OM<|anI @Co<|anI @GA<|anI @RW<|anI @Jk<|anI @Rl<|anI @Kq<|anI @OI<|anI @Wf<|anI @V0<|anI @Lm<|anI @Jw<|anI @Qx<|anI @Ft<|anI @IP<|anI @QF<|anI @Qp<|anI @Np<|anI @PU<|@N7):=anI @R.ny<|anI @R.Lc<|anI @R.kX<|anI @RS.of_ok<|anI @RS.Wu<|anI @j_<|anI @Jg<|anI @eV0<|anI @eV1<|anI @eV2<|anI @eV3<|anI @eV4<|anI @eV5<|anI @eV6<|anI @eV7<|anI @eV8<|anI @P9<|anI @Pk<|anI @OO<|anI @Wz<|anI @Pb<|anI @Nl<|anI @QI<|anI @Ov<|anI @QG<|anI @KA<|anI @IS<|anI @KC<|anI @NV<|anI @Jv<|anI @KZ<|anI @KS<|anI @IT<|anI @IC<|anI @VO<|anI @Lj<|anI @RY<|anI @JW<|anI @V7<|anI @OJ<|anI @Kg<|anI @JV<|anI @O2<|anI @K8<|anI @J8<|anI @IA<|anI @OP<|anI @N8<|anI @Ku<|anI @Nm<|anI @FF<|anI @IX<|anI @Se<|anI @JZ<|anI @Fi<|anI @Lq<|anI @Jo<|anI @Ge<|anI @PZ<|anI @RV<|anI @VY<|anI @VQ<|anI @Sb<|anI @E5<|anI @Ir<|anI @FH<|anI @Of<|anI @K5<|anI @lst?_ref<|anI @RS.PY<|anI @RS.PF<|anI @RS.Om<|anI @RS.NY<|anI @RS.NB<|anI @Jf<|anI @JG<|anI @B6<|anI @EM<|anI @ED<|anI @Ko<|anI @Gw<|anI @Pf<|anI @IJ<|anI @gN0<|anI @gN1<|anI @gN2<|anI @gN3<|anI @gN4<|anI @gN5<|anI @gN6<|anI @gN7<|anI @gN8<|anI @Pr<|anI @RQ<|anI @Ng<|anI @Nh<|anI @Qt<|anI @Jx<|anI @Il<|anI @EN<|anI @RS.N5<|anI @RS.O4<|anI @RS.PM<|anI @Rh<|anI @Ph<|anI @Qa<|anI @VZ<|anI @VN<|anI @Wc<|anI @VX<|anI @Wr<|anI @PR<|anI @Ou<|anI @O3<|anI @Ox<|anI @Q_<|anI @Sv<|anI @Jm<|anI @Iz<|anI @J0<|anI @Ky<|anI @Ce<|anI @V8<|anI @Ws<|anI @WE<|anI @M8<|anI @NK<|anI @JO<|anI @Kv<|anI @Jr<|anI @Gu<|anI @F5<|anI @OV<|anI @Pp<|anI @WK<|anI @Ac<|anI @NJ<|anI @J2<|anI @kc<|anI @Pn<|anI @Rm<|anI @F_<|anI @Wh<|anI @V5<|anI @VW<|anI @WN<|anI @KP<|anI @KL<|anI @JP<|anI @Fy<|anI @EC<|anI @FN<|anI @ID<|anI @Wq<|anI @RK<|anI @Py<|anI @OB<|anI @Pe<|anI @QS<|anI @P1<|anI @Sw<|anI @Sy<|anI @RI<|anI @Rf<|anI @Qy<|anI @Ob<|anI @OH<|anI @NN<|anI @Qg<|anI @La<|anI @Wo<|anI @V4<|anI @aa3<|anI @sets<|anI @rep0<|anI @reps<|anI @aa0<|anI @ab6<|anI @xW<|anI @KR<|anI @Na<|anI @RE<|anI @VV<|anI @WQ<|anI @OY<|anI @OM<|anI @Co<|anI @GA<|anI @RW<|anI @Jk<|anI @Rl<|anI @Kq<|anI @OI<|anI @Wf<|anI @V0<|anI @Lm<|anI @Jw<|anI @Qx<|anI @Ft<|anI @IP<|anI @QF<|anI @Qp<|anI @Np<|anI @PU<|@N7
def bools:(∀b:Bool,cond false b b=b)/\(∀(α:Type) (x y:α),cond false x y=y)/\(∀(α:Type) (x y:α),cond true x y=x):=⟨λ_=>rfl,λ_ _ _=>rfl,λ_ _ _=>rfl⟩
def m8:(∀(x:Str) (xs:ar),(x::xs).length=xs.length+1)/\([]:ar).length=0/\(∀(x:A) (xs:ae),(x::xs).length=xs.length+1)/\([]:ae).length=0:=⟨λ_ _=>rfl,rfl,λ_ _=>rfl,rfl⟩
section
variable {τ:ae}{S:jV}
def JH {f:ae->jV->R A}{d:q_}:adj f d τ S=(d τ S).bind f:=rfl
abbrev kRz (c:Str):Unit->jV->RS:=λ_ S1=>.ex c S1
def Rr {c:Str}{u:Unit}:kRz c u S=.ex c S:=rfl
def Cw {c:Str}{ps:List<|Str ⊕ Ex}:ZL c ps τ S=RS.of (Vd ps τ S) (kRz c):=rfl
def Ik:Vd [] τ S=.ok Unit.unit S:=rfl
def Le {x:Str}{ps:List<|Str ⊕ Ex}:Vd (.inl x::ps) τ S=Vd ps τ S:=rfl
abbrev kFs (ps:List<|Str ⊕ Ex)(τ:ae):A->jV->R Unit:=λv S1=>match v with
 | .int i=>gd (i.natAbs.log2<64) (Vd ps τ S1)
 | _=>.no
def Ll {e:Ex}{ps:List<|Str ⊕ Ex}:Vd (.inr e::ps) τ S=(e τ S).bind (kFs ps τ):=rfl
abbrev RS.try (i n:Nat)(cs:ar)(d:Sm):RS->RS
 | .ex x S1=>if x∈cs then WC i (d ((List.replicate n .unb).set i<|.exn x) S1)else .no
 | r=>r
def Jp {i n:Nat}{cs:ar}{c d:Sm}:aal i n cs c d τ S=RS.try i n cs d (c τ S):=by
 unfold aal RS.try;cases c τ S<;>rfl
def MY {i n:Nat}{cs:ar}{d:Sm}:RS.try i n cs d (.nx τ S)=.nx τ S:=rfl
def M3 {i n:Nat}{cs:ar}{d:Sm}{a:A}:RS.try i n cs d (.rt a S)=.rt a S:=rfl
def P4 {i n:Nat}{x:Str}{cs:ar}{d:Sm}:RS.try i n (x::cs) d (.ex x S)=WC i (d ((List.replicate n .unb).set i<|.exn x) S):=aW<|.head _
def ND {i:Nat}{a:A}:WC i (.rt a S)=.rt a S:=rfl
def Oz {i:Nat}:WC i (.nx τ S)=.nx (τ.set i .unb) S:=rfl
abbrev aaG (f:Str->bi):A->jV->R A:=λv S1=>match v with
 | .exn x=>opt (f x) λb=>.ok (.bl b) S1
 | _=>.no
def Jy {f:Str->bi}{c:Ex}:adK f c τ S=(c τ S).bind (aaG f):=rfl
def O6 {x:Str}{b:Bool}{tb:List<|Str×Bool}:aaG (tbX ((x,b)::tb)) (.exn x) S=.ok (.bl b) S:=by
 show opt (List.lookup x ((x,b)::tb)) _=_;rw[eT,cZ];rfl
abbrev R.O7 {α β:Type}(r:R α)(f:α->jV->R β):R β:=match r with
 | .ok a S=>f a S
 | _=>.no
def Fo {α β:Type}{a:α}{f:α->jV->R β}:R.O7 (.ok a S) f=f a S:=rfl
def Ja {f:ae->jV->R A}{d:q_}:aaI f d τ S=R.O7 (d τ S) f:=by unfold aaI R.O7;cases d τ S<;>rfl
abbrev RS.ofK {α:Type}(r:R α)(f:α->jV->RS):RS:=match r with
 | .ok a S=>f a S
 | _=>.no
def NO {α:Type}{a:α}{f:α->jV->RS}:RS.ofK (.ok a S) f=f a S:=rfl
def Lb {t:Te}{c d:Sm}:aa4 t c d τ S=RS.ofK (t τ S) (kIf c d τ):=by
 unfold aa4 RS.ofK
 cases t τ S with
 | ok b S1=>cases b<;>rfl
 | ex _ _=>rfl
 | no=>rfl
abbrev RS.M9 (i:Nat)(cs:ar)(d:Sm)(τ:ae):RS->RS
 | .ex x S1=>if x∈cs then WC i (d (τ.set i<|.exn x) S1)else .no
 | r=>r
def Gb {i:Nat}{cs:ar}{c d:Sm}:VT i cs c d τ S=RS.M9 i cs d τ (c τ S):=by
 unfold VT RS.M9;cases c τ S<;>rfl
def Io {i:Nat}{cs:ar}{d:Sm}{τ':ae}:RS.M9 i cs d τ (.nx τ' S)=.nx τ' S:=rfl
def KJ {i:Nat}{cs:ar}{d:Sm}{a:A}:RS.M9 i cs d τ (.rt a S)=.rt a S:=rfl
def JI {i:Nat}{x:Str}{cs:ar}{d:Sm}:RS.M9 i (x::cs) d τ (.ex x S)=WC i (d (τ.set i<|.exn x) S):=aW<|.head _
def EI:A.HP []=some []:=rfl
def Cy {b:Bool}{xs:ae}:A.HP (.bl b::xs)=(A.HP xs).map (b::·):=rfl
end
def mH:type_of% (anI @JH<|anI @Cw<|anI @Rr<|anI @Ik<|anI @Le<|anI @Ll<|anI @Jp<|anI @MY<|anI @M3<|anI @P4<|anI @ND<|anI @Oz<|anI @Jy<|anI @O6<|anI @EI<|anI @Cy<|anI @Fo<|anI @Ja<|anI @NO<|anI @Lb<|anI @Gb<|anI @Io<|anI @KJ<|anI @JI<|trivial):=anI @JH<|anI @Cw<|anI @Rr<|anI @Ik<|anI @Le<|anI @Ll<|anI @Jp<|anI @MY<|anI @M3<|anI @P4<|anI @ND<|anI @Oz<|anI @Jy<|anI @O6<|anI @EI<|anI @Cy<|anI @Fo<|anI @Ja<|anI @NO<|anI @Lb<|anI @Gb<|anI @Io<|anI @KJ<|anI @JI<|trivial
end Am
namespace Am
open PySem PySem.Spec PyProof.Rows L2
abbrev Df (K:au)(x:Str)(st:aF):Prop:=∃(f:ak) (fd:FuncData),PySem.W.nsIn K mainGlobals x=some (some<|.ref f)/\Fun K x x st f fd
inductive En (P:aj) (w:ah) (K:au) (mg:Str->bd) (base:aq):Prop
 | mk (h:aq) (X:K.In h) (G:h.Ns mainGlobals mg)
section
variable {P:aj}{w:ah}{K:au}{mg:Str->bd}{base:aq}{x:Str}{st:aF}{ps:ar}{k:Nat}{F:ae->jV->R A}
def En.at(E:En P w K mg base){f:ak}(h:PySem.W.nsIn K mainGlobals x=some (some<|.ref f)):mg x=some (.ref f):=by
 obtain⟨_,X,G⟩:=E;exact jx X G h
def Df.of{f:ak}{kV pm ct:af}(a:PySem.W.nsIn K mainGlobals x=some (some<|.ref f))(l:K.lookup f=some ⟨oc,od,.func<|PySem.W.fnOf x x (we st) (sE st) (j9 st) .none kV doc pm an cdv ct,osl⟩)(c:PySem.W.codeIn K cdv x=true)(k:PySem.W.keepIn K (.ref f)=true):Df K x st:=⟨f,_,a,Zc l c k⟩
meta abbrev Bi (x:Str)(st:aF)(ps:ar):Prop:=∀us:ba,us.length=ps.length->∀(kV f j:af) (g:Option ak) (d ct:af),bindArgs (PySem.W.fnOf x x (we st) (sE st) (j9 st) .none kV f j g d ct) ⟨us,[]⟩=pure (ps.zip us)
def Df.get(d:Df K x st)(E:En P w K mg base)(b:Bi x st ps):∃f fd,Fun K x x st f fd/\mg x=some (.ref f)/\PySem.W.keepIn K (.ref f)=true/\Binds K fd ps []:=by
 obtain⟨f,fd,a,F⟩:=d;exact⟨f,fd,F,E.at a,F.kp,F.binds λkV j k p g ct us q=>b us q kV j k p g ct⟩
def Df.kA(d:Df K x st)(E:En P w K mg base)(h:∀{f fd},Fun K x x st f fd->FnOk P w K mg base qf k f fd ps (qQ K ps.length F))(b:Bi x st ps):ow P w K mg base k x ps F:=by
 obtain⟨f,fd,a,c,e,g⟩:=d.get E b;exact⟨f,fd,h a,c,e,g⟩
def Df.rA(d:Df K x st)(E:En P w K mg base)(h:∀{f fd},Fun K x x st f fd->mg x=some (.ref f)->PySem.W.keepIn K (.ref f)=true->Binds K fd ps []->FnOk P w K mg base qf k f fd ps (qQ K ps.length F))(b:Bi x st ps):ow P w K mg base k x ps F:=by
 obtain⟨f,fd,a,c,e,g⟩:=d.get E b;exact⟨f,fd,h a c e g,c,e,g⟩
end
section
variable {X:Cx}{pos p:Pos}{e1 e2 e3:aE}{x p1 p2 p3:Str}{k K0:Nat}{F:ae->jV->R A}{c1 c2 c3:Ex}
def xE(G:ow X.prog X.w X.K X.mg X.base k x [p1] F)(hr:Room K0 X.A)(h1:AE X e1 c1)(hk:k<=K0<|>δ)(hg:Gl X x<|>ε)(hdb:(x == ("__debug__" : Str))=false<|>δ)(s1:starEach [e1] X.env=(false,eval e1 X.env)::starEach [] X.env<|>ε)(hp:((backTo pos<|starEach [] X.env).any (·.1)=false)<|>ε):AE X (.Call (.Name x p) [e1] [] pos) (eFn F<|jS c1 j0):=rY G (hr.mono hk) (jU h1 j3 s1) (kF m9) hg hdb s1 hp
def GF(G:ow X.prog X.w X.K X.mg X.base k x [p1,p2] F)(hr:Room K0 X.A)(h1:AE X e1 c1)(h2:AE X e2 c2)(hk:k<=K0<|>δ)(hg:Gl X x<|>ε)(hdb:(x == ("__debug__" : Str))=false<|>δ)(s1:starEach [e1,e2] X.env=(false,eval e1 X.env)::starEach [e2] X.env<|>ε)(s2:starEach [e2] X.env=(false,eval e2 X.env)::starEach [] X.env<|>ε)(hp:((backTo pos<|starEach [e2] X.env).any (·.1)=false)<|>ε):AE X (.Call (.Name x p) [e1,e2] [] pos) (eFn F<|jS c1<|jS c2 j0):=rY G (hr.mono hk) (jU h1 (jU h2 j3 s2) s1) (kF<|kF m9) hg hdb s1 hp
def fn3(G:ow X.prog X.w X.K X.mg X.base k x [p1,p2,p3] F)(hr:Room K0 X.A)(h1:AE X e1 c1)(h2:AE X e2 c2)(h3:AE X e3 c3)(hk:k<=K0<|>δ)(hg:Gl X x<|>ε)(hdb:(x == ("__debug__" : Str))=false<|>δ)(s1:starEach [e1,e2,e3] X.env=(false,eval e1 X.env)::starEach [e2,e3] X.env<|>ε)(s2:starEach [e2,e3] X.env=(false,eval e2 X.env)::starEach [e3] X.env<|>ε)(s3:starEach [e3] X.env=(false,eval e3 X.env)::starEach [] X.env<|>ε)(hp:((backTo pos<|starEach [e2,e3] X.env).any (·.1)=false)<|>ε):AE X (.Call (.Name x p) [e1,e2,e3] [] pos) (eFn F<|jS c1<|jS c2<|jS c3 j0):=rY G (hr.mono hk) (jU h1 (jU h2 (jU h3 j3 s3) s2) s1) (kF<|kF<|kF m9) hg hdb s1 hp
def uP{N P:ar}{sc:Scope}(a:sc.kind=.function)(b:sc.isCoroutine=false)(c:sc.isGenerator=false)(h:N.Nodup/\N.take P.length=P/\(∀x∈P,sc.names.lookup x=some .local\/sc.names.lookup x=some .cell)/\∀y∈sc.names,y.2≠.free):FnScope N P sc:=⟨a,b,c,h.1,h.2.1,h.2.2.1,h.2.2.2⟩
end
abbrev mR (S:jV)(n:Nat):Option (List<|Int×A):=match S[n]? with
 | some (.qv xs)=>some xs
 | _=>none
def qW{n:Nat}(h:mR S n=some xs):S[n]?=some (.qv xs):=by
 unfold mR at h;split at h
 ·rename_i e;cases h;exact e
 ·cases h
def DG{S:jV}{n:Nat}(h:S[n]?=some (.qv xs)):mR S n=some xs:=by
 unfold mR;rw[h]
abbrev nY (kvs:List<|Int×A)(k:Int):Option A:=(kvs.find? λkv=>decide<|kv.1=k).map (·.2)
abbrev ym (kvs:List<|Int×A)(k:Int)(v:A):List (Int×A):=
 if (nY kvs k).isSome=true then kvs.map (λkv=>if kv.1=k then(kv.1,v)else kv)else kvs++[(k,v)]
section
variable {K:au}{ρ:bb}{H:Hp}
def LZ{p:Int×A}{r:List<|Int×A}{k:Int}(e:p.1=k):nY (p::r) k=some p.2:=by simp[nY,bU,e]
def L_{p:Int×A}{r:List<|Int×A}{k:Int}(e:¬p.1=k):nY (p::r) k=nY r k:=by simp[nY,bU,e]
def ab2{a b:Int}(e:(Sum.inl a:Key)=Sum.inl b):a=b:=by injection e
theorem DI.look:∀{kvs:List<|Int×A}{ks:List<|Key×V}(k:Int),DI K ρ H kvs ks->(nY kvs k).isSome=(pV ks (Sum.inl k:Key)).isSome/\∀x,nY kvs k=some x->∃v,pV ks (Sum.inl k:Key)=some v/\AV K ρ H x v
 | [],[],k,_=>⟨rfl,λx h=>nomatch h⟩
 | p::r,q::r',k,⟨⟨e,a⟩,t⟩=>by
  by_cases c:p.1=k
  ·have d:q.1=(Sum.inl k:Key):=by rw[e,c]
   rw[LZ c,tX d];exact⟨rfl,λx h=>by cases h;exact⟨_,rfl,a⟩⟩
  ·have d:¬q.1=(Sum.inl k:Key):=λz=>c<|ab2<|e.symm.trans z;rw[L_ c,tK d];exact DI.look k t
theorem DI.repl{x:A}{v:V}(h:AV K ρ H x v)(k:Int):∀{kvs:List<|Int×A}{ks:List<|Key×V},DI K ρ H kvs ks->DI K ρ H (kvs.map λkv=>if kv.1=k then(kv.1,x)else kv) (ks.map λkv=>if kv.1=(Sum.inl k:Key)then(kv.1,v)else kv)
 | [],[],_=>trivial
 | p::r,q::r',⟨⟨e,a⟩,t⟩=>by
  refine⟨?_,DI.repl h k t⟩;dsimp only;by_cases c:p.1=k
  ·rw[aW c,aW<|by rw[e,c]];exact⟨e,h⟩
  ·rw[aV c,aV λz=>c<|ab2<|e.symm.trans z];exact⟨e,a⟩
theorem DI.snoc{x:A}{v:V}(h:AV K ρ H x v)(k:Int):∀{kvs:List<|Int×A}{ks:List<|Key×V},DI K ρ H kvs ks->DI K ρ H (kvs++[(k,x)]) (ks++[(Sum.inl k,v)])
 | [],[],_=>⟨⟨rfl,h⟩,trivial⟩
 | p::r,q::r',⟨a,t⟩=>⟨a,DI.snoc h k t⟩
def DI.put{x:A}{v:V}(h:AV K ρ H x v)(k:Int){ks:List<|Key×V}(d:DI K ρ H kvs ks):DI K ρ H (ym kvs k x) (putK ks (Sum.inl k:Key) v):=by
 unfold ym putK;rw[vU,<- (d.look k).1];by_cases c:(nY kvs k).isSome=true
 ·rw[aW c,aW c];exact DI.repl h k d
 ·rw[aV c,aV c];exact DI.snoc h k d
def DI.length:∀{kvs:List<|Int×A}{ks:List<|Key×V},DI K ρ H kvs ks->kvs.length=ks.length
 | [],[],_=>rfl
 | _::_,_::_,⟨_,t⟩=>cV (·+1) t.length
theorem DI.keys:∀{kvs:List<|Int×A}{ks:List<|Key×V},DI K ρ H kvs ks->ks.map (·.1)=kvs.map λkv=>(Sum.inl kv.1:Key)
 | [],[],_=>rfl
 | _::_,_::_,⟨⟨e,_⟩,t⟩=>by rw[bC,bC,e,DI.keys t]
def Rel.qv{n:Nat}{a:ak}(R:Rel K ρ H S)(ha:ρ[n]?=some a)(hS:S[n]?=some (.qv xs)):∃vs,H a=some (.dK vs)/\DI K ρ H xs vs:=R.at n a _ ha hS
def Rel.aa6{S:jV}{p:ak}(R:Rel K ρ H S)(hp:H p=none)(r:DI K ρ H xs vs):Ext ρ (ρ++[p]) H (upd H p<|.dK vs)/\Rel K (ρ++[p]) (upd H p<|.dK vs) (S++[.qv xs])/\(ρ++[p])[S.length]?=some p:=by
 have ex:Ext ρ (ρ++[p]) H (upd H p<|.dK vs):=⟨⟨dG _ _,λa u _ h=>by rw[jZ<|kg h hp];exact h⟩,λa u h _=>by rw[jZ<|kg h hp];exact h,λa h=>by
  rcases bH.mp h with z|z
  ·exact .inl z
  ·have e:a=p:=by simpa using z
   rw[e];exact .inr hp⟩
 have j:p∉ρ:=R.BZ hp;have d:(ρ++[p])[S.length]?=some p:=by rw[<- R.len];simp
 refine⟨ex,⟨by simp[R.len],?_,?_⟩,d⟩
 ·rw[b_];kln_w;have:b=p:=by simpa using hb
  exact j<|by rw[<- this,<- e];exact ha
 ·intro n a o h1 h2;by_cases hn:n<S.length
  ·rw[bu<|by rw[R.len];exact hn]at h1;rw[bu hn]at h2;have na:a≠p:=λz=>j (by rw[<- z];exact aZ h1);have:=R.at n a o h1 h2
   cases o with
   | lst ys=>obtain⟨f,e,q⟩:=this;exact⟨f,by rw[jZ na];exact e,q.ext ex⟩
   | dct _|qv _|uY _|u0 _=>obtain⟨f,e,q⟩:=this;exact⟨f,by rw[jZ na];exact e,q.ext ex⟩
   | dcf _=>obtain⟨g,f,e,q⟩:=this;exact⟨g,f,by rw[jZ na];exact e,q.ext ex⟩
   | ins _ _=>obtain⟨g,k,e⟩:=this;exact⟨g,k,by rw[jZ na];exact e⟩
  ·have e:n=S.length:=by
    have:=(aJ.mp h2).1;simp at this
    lia
   subst e;rw[d]at h1
   cases h1
   simp at h2;subst h2;exact⟨vs,kK,r.ext ex⟩
def Rel.ym{S:jV}{n:Nat}{a:ak}(R:Rel K ρ H S)(ha:ρ[n]?=some a)(hS:S[n]?=some (.qv xs))(r:DI K ρ H ys ws):Ext ρ ρ H (upd H a<|.dK ws)/\Rel K ρ (upd H a<|.dK ws) (S.set n<|.qv ys):=by
 obtain⟨t,e,_⟩:=R.at n a _ ha hS;have ex:Ext ρ ρ H (upd H a<|.dK ws):=⟨⟨dO _,λb u i h=>by
  have:b≠a:=by
   intro z;subst z;rw[e]at h;cases h;exact i
  rw[jZ this];exact h⟩,λb u h n=>by
  rw[jZ λz=>n<|by rw[z];exact aZ ha];exact h,λ_ h=>.inl h⟩
 refine⟨ex,by rw[bX];exact R.len,R.nd,λm b o h1 h2=>?_⟩;by_cases j:m=n
 ·subst j;rw[ha]at h1;cases h1;rw[bA (aJ.mp hS).1]at h2
  cases h2
  exact⟨ws,kK,r.ext ex⟩
 ·rw[bJ<|cO j]at h2;have nb:b≠a:=λz=>by
   subst z;obtain⟨p,e1⟩:=aJ.mp ha;obtain⟨B,e2⟩:=aJ.mp h1;exact j<|(cG R.nd).mp<|e2.trans e1.symm
  have:=R.at m b o h1 h2
  cases o with
  | lst ys=>obtain⟨d,f,q⟩:=this;exact⟨d,by rw[jZ nb];exact f,q.ext ex⟩
  | dct _|qv _|uY _|u0 _=>obtain⟨d,f,q⟩:=this;exact⟨d,by rw[jZ nb];exact f,q.ext ex⟩
  | dcf _=>obtain⟨g,d,f,q⟩:=this;exact⟨g,d,by rw[jZ nb];exact f,q.ext ex⟩
  | ins _ _=>obtain⟨g,k,f⟩:=this;exact⟨g,k,by rw[jZ nb];exact f⟩
end
section
variable {X:Cx}{pos:Pos}{a b:aE}
abbrev A_ (x y:A)(S:jV):R A:=match x,y with
 | .ref n,.int k=>opt (mR S n) λkvs=>opt (nY kvs k) λv=>.ok v S
 | _,_=>.no
def Mv{x:A}{P:A->jV->Prop}{E:Str->jV->Prop}(h:(A_ x y S).post P E):∃n k kvs v,x=.ref n/\y=.int k/\mR S n=some kvs/\nY kvs k=some v/\P v S:=by
 unfold A_ at h;split at h
 ·obtain⟨kvs,h1,h⟩:=jY h;obtain⟨v,h2,h⟩:=jY h;exact⟨_,_,kvs,v,rfl,rfl,h1,h2,h⟩
 ·exact h.elim
def aaB(hu:X.A.units+64<cLine):UA X (r2 X A_):=λf j pins s σ H x y v u Q I rx ry ⟨ρ,S,a,b,R,va,vb,h⟩ hs=>by
 obtain⟨n,k,kvs,z,ha,hb,hn,B,hP⟩:=Mv h;subst ha hb
 cases vb
 cases va with
 | @ref p _ t=>
  obtain⟨ks,e,d⟩:=R.qv t<|qW hn;obtain⟨w,hw,q⟩:=(d.look k).2 z B;have g:uH H p (kV<|Sum.inl k) (pV ks<|Sum.inl k):=uH.k e;rw[hw]at g;exact Dv () f j pins s σ H _ _ v u Q I rx ry ⟨p,w,rfl,g,hP _ _ _ .refl R q⟩ hs
def QN(hu:X.A.units+64<cLine){ca cb:Ex}(ha:AE X a ca)(hb:AE X b cb)(hs:xN b<|>θ):AE X (.Subscript a b pos) (j6 A_ ca cb):=PE.imp (Jj (aaB hu) ha hb hs) λσ H Q h=>uQ h
abbrev Cg (o i v:A)(S:jV):R Unit:=match o,i with
 | .ref n,.int k=>opt (mR S n) λkvs=>gd (kvs.length<sizeLine) (.ok Unit.unit<|S.set n<|.qv<|ym kvs k v)
 | _,_=>.no
def Hz{x v:A}{S:jV}{P:Unit->jV->Prop}{E:Str->jV->Prop}(h:(Cg x y v S).post P E):∃n k kvs,x=.ref n/\y=.int k/\mR S n=some kvs/\kvs.length<sizeLine/\P Unit.unit (S.set n<|.qv<|ym kvs k v):=by
 unfold Cg at h;split at h
 ·obtain⟨kvs,h1,h⟩:=jY h;obtain⟨h2,h⟩:=kB h;exact⟨_,_,kvs,rfl,rfl,h1,h2,h⟩
 ·exact h.elim
abbrev acX (X:Cx):EE:=λo i v H Q=>∃ρ S ao f d,Rel X.K ρ H S/\AV X.K ρ H ao o/\AV X.K ρ H f i/\AV X.K ρ H d v/\(Cg ao f d S).post (λ_ g=>∀ρ' H',Ext ρ ρ' H H'->Rel X.K ρ' H' g->Q H') (XE X ρ H)
def Tf(hu:X.A.units+64<cLine):C1 X (acX X):=λpins s σ H o i v j iv u Q I g t C h9=>by
 obtain⟨ρ,S,ao,F,D,R,h1,h2,h3,h⟩:=h9;obtain⟨n,k,kvs,ha,hb,hn,q,hP⟩:=Hz h;subst ha hb
 cases h2
 cases h1 with
 | @ref p _ f=>
  obtain⟨ks,e,d⟩:=R.qv f<|qW hn;obtain⟨ex,B⟩:=R.ym f (qW hn)<|d.put h3 k;exact set_dict (by omega) pins s σ H _ _ v j iv u Q I g t C ⟨p,_,rfl,yu.k (k:=Sum.inl k) e<|by rw[<- d.length];exact q,hP _ _ ex B⟩
abbrev MO (co ci:Ex):Tg:=λa τ S=>(co τ S).bind λo S1=>(ci τ S1).bind λi S2=>(Cg o i a S2).bind λ_ S3=>.ok τ S3
def JN(hu:X.A.units+64<cLine){co ci:Ex}(ho:AE X o co)(hi:AE X i ci)
  (ha:(∀v,assign (.Subscript o i pos) X.env v=(do
   let ov <- holding [v] (eval o X.env)
   let iv <- holding [v,ov] (eval i X.env)
   standAt pos
   holding [v,ov,iv] (setItem ov iv v)
   release [v,ov,iv] []))<|>ζ):AG X (.Subscript o i pos) (MO co ci):=PG.imp (A5 ho hi (Tf hu) ha) λv σ H Q h9=>by
 obtain⟨ρ,S,τ,a,R,r,va,h⟩:=h9;w_up;k_ne;kpc_g
abbrev GX:Ex:=λ_ S=>.ok (.ref S.length)<|S++[.qv []]
def Sk:AE X (.Dict [] [] pos) GX:=PE.imp Gi λσ H Q ⟨ρ,S,τ,R,r,h⟩ p d=>by
 obtain⟨ex,f,g⟩:=R.aa6 (xs:=[]) (vs:=[]) d trivial;exact h _ _ _ ex f<|.ref g
abbrev dk? (a:A)(S:jV):Option Unit:=match a with
 | .ref n=>(mR S n).map λ_=>Unit.unit
 | _=>none
abbrev Hu (f:A->ae->jV->R A)(co:Ex)(d:q_):Ex:=λτ S=>(co τ S).bind λx S1=>opt (dk? x S1) λ_=>(d τ S1).bind λas S2=>f x as S2
def dk?_ty{K:au}{H:Hp}{x:A}{v:V}(R:Rel K ρ H S)(a:AV K ρ H x v)(e:dk? x S=some u):XT K "dict" v H:=by
 cases a with
 | @ref p n h=>
  obtain⟨xs,d,_⟩:=aP.mp e;obtain⟨f,h1,_⟩:=R.qv h<|qW d;exact .inr<|.inr<|.inl ⟨rfl,.inl ⟨f,h1⟩⟩
 | _=>cases e
def Hv{e:aE}{id:String}{apos cpos:Pos}{f:A->ae->jV->R A}{co:Ex}{d:q_}(slot:Slot "dict" name id)(hty:typeOf (.builtin id)=pure (.type "method_descriptor"))(hm:E_ X id<|rM X f)(ho:AE X o co)(ha:AL X (e::es) d)
  (hbase:attributeBase o name X.env (eval o X.env)=eval o X.env<|>ε)
  (hfew:(((backTo cpos<|starEach (e::es) X.env).all (λx=>!x.1) && (backToKw cpos<|keywordEach [] X.env).all (λx=>x.1.isSome)
   && decide ((e::es).length+([]:List Keyword).length+(if ([]:List Keyword).isEmpty then 0 else 1)<30))=true)<|>ε)
  (hline:(apos.endLine == cpos.line)=true<|>ε) (hs:starEach (e::es) X.env=(false,eval e X.env)::starEach es X.env<|>ε) (hplain:((backTo cpos<|starEach es X.env).any (·.1)=false)<|>ε) :
  AE X (.Call (.Attribute o name apos) (e::es) [] cpos) (Hu f co d):=PE.imp (J5 fH slot hty hm ho ha hbase hfew hline hs hplain) λσ H Q h9=>by
 z_go;gp_on;obtain⟨xs,g,h1⟩:=jY h1;refine⟨dk?_ty R1 v1 g,ρ1,S1,τ,R1,r.ext e1,jX (j5 h1) e1 λas S2 h2 ρ2 H2 j e2 R2 v2=>?_⟩;kst_p
abbrev xP (o:A)(as:ae)(S:jV):R A:=match o,as with
 | .ref n,[.int k,y]=>opt (mR S n) λkvs=>.ok ((nY kvs k).getD y) S
 | _,_=>.no
def Ii{x:A}{P:A->jV->Prop}{E:Str->jV->Prop}(h:(xP x as S).post P E):∃n k y kvs,x=.ref n/\as=[.int k,y]/\mR S n=some kvs/\P ((nY kvs k).getD y) S:=by
 unfold xP at h;split at h
 ·obtain⟨kvs,h1,h⟩:=jY h;exact⟨_,_,_,kvs,rfl,rfl,h1,h⟩
 ·exact h.elim
def Hy(hu:X.A.units+64<cLine):E_ X "dict.get" (rM X xP):=λpins s σ H x K v us Q I rx C h9=>by
 cb_eq;obtain⟨n,k,y,kvs,q,has,hn,hP⟩:=Ii h;subst q has;obtain⟨J,M,rfl,G,hy⟩:=P8 va
 cases G
 cases vo with
 | @ref p _ t=>
  obtain⟨ks,h1,B⟩:=R.qv t (qW hn)
  cases rx
  obtain⟨L,O,rfl,r1,r2⟩:=vals2 C;refine Oe (by omega) I (uH.k (k:=Sum.inl k) h1) r1 r2 λN s' g f=>⟨_,H,g,f,hP _ _ _ .refl R ?_⟩;obtain⟨d,F⟩:=B.look k
  cases e1:nY kvs k with
  | none=>
   rw[e1]at d
   cases e2:pV ks (Sum.inl k:Key)with
   | none=>exact hy
   | some _=>rw[e2]at d;cases d
  | some D=>
   obtain⟨v1,e2,j⟩:=F D e1;rw[e2];exact j
end
end Am
namespace L2
open PySem PySem.Spec PyProof.Rows
section
variable {P:aj}{w:ah}{A:aA}{E:af->aC->Prop}{s:aC}{it d:ak}{i ep:Nat}{es:Array DictEntry}{o:Obj}
def PV{Q:bd->aC->Prop}(hi:s.heap.IsKeyIter it d i es.size ep)(ho:s.heap.get? d=some o)(hd:o.data=.dict es ep)(lt:i<es.size)
  (q:∀h',h'.IsKeyIter it d (i+1) es.size ep->Heap.SameBut it s.heap h'->Q (some es[i].key) { s with heap:=h' }):wpAny (model P w) A (pyNext<|.ref it) Q E s:=by
 have ty:=hi.typeIs;obtain⟨C,g,k,f⟩:=id hi;have own:Builtin.Dict_items.ownsTuple "dict_keyiterator" = false:=by decide
 have t:¬((Value.ref d == Value.none)=true):=bw;have B:¬((i:Int)<0):=by omega
 unfold pyNext;refine aG<|iQ<|dJ (name:=Str.ofString "__next__") ty cU<|cB cU ty gH ?_<|gC _;refine aG (aM<|aG<|aG ?_)
 first
  | refine aG (d8 ty<|aM<|aG<|gg g f ?_)
  | refine aG<|fB ty<|aM<|aG<|gg g f ?_
 dsimp[own,cH,bI];show wpAny (model P w) _ (if (Value.ref d == Value.none)=true then _ else _) _ _ s;rw[aV t];refine aG<|aM<|aG<|fu ho hd ?_;rw[aV<|show ¬_ by simp];refine aG<|aM<|aG<|fR ho hd ?_;rw[aV<|show ¬_ by simp];refine aM ?_;dsimp[B,cH,cR,cT lt];refine aG ?_
 first
  | refine aG (d8 ty<|aM<|aG<|iH ty ?_)
  | refine aG<|fB ty<|aM<|aG<|iH ty ?_
 show wpAny (model P w) _ (setField (.ref it) 1 (rawInt<|(i:Int)+1) >>= _) _ _ s;refine aG (gb g f (show _ by simp) ?_);have j:(s.heap.update it<|Obj.mapFields λfs=>fs.setIfInBounds 1<|rawInt<|(i:Int)+1).IsKeyIter it d (i+1) es.size ep:=
  ⟨_,f6 _ g<|iF<|eW f _,(jo ..).trans k,by
   rw[eW f];simp[rawInt]⟩
 have p:Shared.TypeIs { s with heap:=s.heap.update it<|Obj.mapFields λfs=>fs.setIfInBounds 1<|rawInt<|(i:Int)+1} (.ref it) "dict_keyiterator" := Heap.IsKeyIter.typeIs (s:={ s with heap:=_ }) j;refine aG (cY<|aG<|iH p ?_)
 skip
 exact aM<|aM ⟨_,rfl,aM<|q _ j<|eG ..⟩
def K_{Q:bd->aC->Prop}(hh:A.handled=none)(hi:s.heap.IsKeyIter it d i es.size ep)(ho:s.heap.get? d=some o)(hd:o.data=.dict es ep)(ge:es.size<=i)
  (q:∀h',Heap.ExtBut it s.heap h'->Q none { s with heap:=h' }):wpAny (model P w) A (pyNext<|.ref it) Q E s:=by
 have ty:=hi.typeIs;obtain⟨t,f,j,g⟩:=id hi;have own:Builtin.Dict_items.ownsTuple "dict_keyiterator" = false:=by decide
 have k:¬((Value.ref d == Value.none)=true):=bw;have p:¬((i:Int)<0):=by omega
 unfold pyNext;refine aG<|iQ<|dJ (name:=Str.ofString "__next__") ty cU<|cB cU ty gH ?_<|gC _;refine aG (aM<|aG<|aG ?_)
 first
  | refine aG (d8 ty<|aM<|aG<|gg f g ?_)
  | refine aG<|fB ty<|aM<|aG<|gg f g ?_
 dsimp[own,cH,bI];show wpAny (model P w) _ (if (Value.ref d == Value.none)=true then _ else _) _ _ s;rw[aV k];refine aG<|aM<|aG<|fu ho hd ?_;rw[aV<|show ¬_ by simp];refine aG<|aM<|aG<|fR ho hd ?_;rw[aV<|show ¬_ by simp];refine aM ?_;dsimp[p,cH,cR,dQ ge];refine aG ?_
 first
  | refine aG (d8 ty<|aM ?_)
  | refine aG<|fB ty<|aM ?_
 show wpAny (model P w) _ (setField (.ref it) 0 .none >>= _) _ _ s;refine aG (gb f g (show _ by simp) ?_)
 skip
 refine aG ?_;dsimp[newExc,newTuple];refine aG (cC (aG (m:=firstArgMember _ _)<|wpAny_of_eq (a:=Value.none) (by first|rfl|(dsimp[firstArgMember];rfl))<|cC ?_<|by size_fits)<|by size_fits);dsimp[raiseNew];have hn:A.in1.handled=none:=hh;refine aG<|wpAny_handled<|?_;rw[hn];refine aG<|aM<|wpAny_throw<|?_;refine aG<|gu (b:=true) (T := "StopIteration") ⟨_,br _ rfl,rfl⟩ isSubtype_stop<|aM<|q _<|((eG ..).extBut.push _).push _
def A2{Q:af->aC->Prop}(ty:s.TypeIs (.ref d) "dict")(hs:(d == sysModules)=false)(ho:s.heap.get? d=some o)(hd:o.data=.dict es ep)
  (q:Q (.ref s.heap.objs.size) { s with heap:=s.heap.push { cls:=.type "dict_keyiterator",data:=.fields #[.ref d,.int 0 0,.int es.size 0,.int ep 0]}}):wpAny (model P w) A (pyIter<|.ref d) Q E s:=by
 refine wpAny_pyIter_slot ty PySem.F.slot_dict_iter<|cB PySem.F.slot_dict_iter ty PySem.F.entry_dict_iter ?_<|PySem.F.args_dict_iter_1 _;delta Builtin.«dict.__iter__»;refine aG ?_;delta Builtin.Dict.dictSlotNone;refine aG (iI ty ?_)
 skip
 refine aM ?_;show wpAny (model P w) _ (Builtin.Dict.showsAll d >>= _) _ _ s;delta Builtin.Dict.showsAll;have nd:¬((d == sysModules)=true):=by rw[hs];exact bw
 rw[aV nd];refine aG<|aM<|aG<|fu ho hd<|aG<|fR ho hd ?_;refine aG<|cC<|aM ⟨_,rfl, "dict_keyiterator",_,⟨_,br _ rfl,rfl⟩,cU.lookup,?_⟩;simpa[rawInt]using q
end
section
variable {P:aj}{w:ah}
def Mm{A:aA}(hh:A.handled=none)(it d:ak)(ne:d≠it){es:Array DictEntry}{o:Obj}(hd:o.data=.dict es ep) :
  Walks P w A it [it,d] [it] es.size (λi v=>(es[i]?).map (λe=>e.key)=some v) (λi h=>h.IsKeyIter it d i es.size ep/\h.get? d=some o) where
 sub:=λb hb=>by
  rw[aS.mp hb];exact aL ..
 frame:=λ_ _ _ st f=>⟨st.1.at λx e=>f it (aL ..) x e,f d (aO _<|aL ..) o st.2⟩
 item:=λi s Q E lt st q=>PV st.1 st.2 hd lt λh' j g=>q _ h' s.toks (by rw[cT lt];rfl) ⟨j,g.extBut d o ne st.2⟩ λb x nb e=>g.extBut b x (λz=>nb<|aS.mpr z) e
 done:=λs Q E st q=>K_ hh st.1 st.2 hd (aN _) λh' k=>q h' s.toks λb x nb e=>k b x (λz=>nb<|aS.mpr z) e
 self:=λ_ _ _ _ st q=>wpAny_pyIter_keyiter st.1 q
def IV{d:ak}{es:Array DictEntry}{o:Obj}(hs:(d == sysModules)=false)(hc:o.cls=.type "dict")(hd:o.data=.dict es ep) :
  PySem.W.KdlSrc P w "dict" d d es.size (λi v=>(es[i]?).map (λe=>e.key)=some v) (λh=>h.get? d=some o) where
 type:=λ_ f=>⟨o,f,hc⟩
 there:=λ_ f=>⟨a_ f,a_ f⟩
 keep:=λ_ _ f g=>g d (.inl rfl) o f
 notList:=by decide
 notTuple:=by decide
 hint:=λ_ _ _ _ f hq=>PySem.W.kdl_hint_dict ⟨o,f,hc⟩ hq
 iter:=λ_ s j f=>⟨_,_,(λ_ _ hq=>A2 ⟨o,f,hc⟩ hs f hd hq),Mm j _ d (bD<|a_ f) hd,⟨⟨_,br _ rfl,rfl,rfl⟩,aQ _ f⟩⟩
end
section
variable {X:Cx}
def QT{H:Hp}{s:aC}{d:ak}{kvs:List<|List Key×V}(I:Inv X pins σ H s)(ed:H d=some (.dT kvs)) :
  ∃(ob:Obj) (es:Array DictEntry) (ep:Nat) (rs:bb),s.heap.get? d=some ob/\ob.cls=.type "dict" /\ ob.data=.dict es ep/\(d == sysModules)=false/\kvs.length<=sizeLine/\rs.length=kvs.length/\es.size=kvs.length /\
   (∀i:Nat,(es[i]?).map (λe:DictEntry=>e.key)=(rs[i]?).map Value.ref)/\∀(i:Nat) r p,rs[i]?=some r->kvs[i]?=some p->H r=some (.tup<|p.1.map kV):=by
 obtain⟨z,D,xs,g,q⟩:=CA I.hok ed;obtain⟨ob,es,ep,C,B,F,k,K,J⟩:=id q;obtain⟨j,t⟩:=kt_at g;have f:es.size=xs.length:=by have:=cV List.length k;simpa using this
 refine⟨ob,es,ep,xs.map λy=>y.2.1,C,B.1,F,D,z,by rw[aH,j],by rw[f,j],λi=>?_,λi r p e1 e2=>?_⟩
 ·rw[<- cE,k,aR,aR,dS,dS]
  cases xs[i]?<;>rfl
 ·obtain⟨y,h1,h2,h3,G⟩:=t i p e2;rw[aR,h1]at e1
  cases e1
  exact h3
def DK(hc:X.calm=true):kM X (.builtin "sorted") (λxs H Q=>∃(d:ak) (kvs:List<|List Key×V) (kss:List<|ag),xs=[.ref d]/\H d=some (.dT kvs)/\kvs.map (λp=>p.1)=kss.map (λks=>ks.map Sum.inl)/\(∀ks∈kss,ks≠[])/\Sx.RO kss.length /\
  ∀(rs:bb) l g,rs.length=kss.length->(∀(i:Nat) (r:ak) (ks:ag),rs[i]?=some r->kss[i]?=some ks->H r=some (.tup<|ks.map V.int))->H l=none->Sx.Cl g 0 kss.length->Sx.So (Sx.uv kss) g 0 kss.length ->
   Q (.ref l) (upd H l<|.lst<|((List.range kss.length).map λi=>rs.getD (g i) 0).map V.ref)):=by
 kt_k;obtain⟨d,kvs,kss,rfl,U,ek,B,J,q⟩:=h;kcf_m
 cases rx
 obtain⟨ob,es,ep,rs,P,N,W,O,D,k,G,K,M⟩:=QT I U;have t:kvs.length=kss.length:=by have:=cV List.length ek;simpa using this
 have C:∀(i:Nat) (r:ak) (ks:ag),rs[i]?=some r->kss[i]?=some ks->H r=some (.tup<|ks.map V.int):=λi r ks e1 e2=>by
  have lt:i<kvs.length:=by rw[t];exact(aJ.mp e2).1
  have h1:=M i r kvs[i] e1 (aI lt);have h2:(kvs.map λp=>p.1)[i]?=(kss.map λks=>ks.map Sum.inl)[i]?:=by rw[ek]
  rw[aR,aR,e2,aI lt]at h2;have h3:kvs[i].1=ks.map Sum.inl:=bg h2;rw[h3,aY]at h1;exact h1
 refine dw iV iz iA (iB _) ?_;unfold Builtin.«sorted»;kl_no;refine aG (gD (IV O N W) (show X.A.in1.handled=none from I.ok.hd hc) P (by rw[G];exact D) λh' T acc F f=>?_);have L:acc.toList=rs.map Value.ref:=by
  refine dR λj=>?_;rw[cE,aR,<- K j]
  cases e:acc[j]? with
  | some v=>exact(f.2 j v e).symm
  | none=>
   have:acc.size<=j:=gh.mp e;rw[dQ<|by rw[<- f.1];exact this];rfl
 rw[L];exact yr (s:=s) (I.kept (t':=T) F) J (by rw[k,t]) (by rw[k];exact D) (λi r ks e1 e2=>⟨nh.of<|C i r ks e1 e2,B ks<|aZ e2⟩) λl g h1 h2 h3=>q rs l g (by rw[k,t]) C h1 h2 h3
abbrev Itk (d:ak)(o:Obj)(u:HO)(rs:bb):It:=
 ⟨λi H=>(∃a,rs[i]?=some a)/\H d=some (.frz o u),λi H x H'=>H'=H/\∀a,rs[i]?=some a->x=.ref a,λi H=>i=rs.length/\H d=some (.frz o u)⟩
def LQ{P:aj}{w:ah}{K:au}(d it:ak){o:Obj}{es:Array DictEntry}{rs:bb}(hd:o.data=.dict es ep)(hl:es.size=rs.length)
  (hk:∀i:Nat,(es[i]?).map (λe:DictEntry=>e.key)=(rs[i]?).map Value.ref):Turn P w K tg (Itk d o u rs) [it] it (λi h=>h.IsKeyIter it d i es.size ep) where
 mem:=aL ..
 obj:=λi h st b hb=>by
  have:b=it:=by simpa using hb
  subst this;obtain⟨ob,h1,h2,h3⟩:=st;exact⟨ob,h1,λv z=>by rw[h3]at z;cases z⟩
 keep:=λi h h' st k=>st.at λx e=>k it (aL ..) x e
 item:=by
  fin2;subst hP hw hK;obtain⟨⟨a,ha⟩,hq⟩:=hg;have g:s.heap.get? d=some o:=(show lE _ _ H s.heap d (.frz o u)from I.hok d _ hq).1;have lt:i<es.size:=by rw[hl];exact(aJ.mp ha).1
  have ek:es[i].key=.ref a:=by
   have:=hk i;rw[cT lt,ha]at this;exact bg this
  obtain⟨f0,f1,f2,f3,f4,f5⟩:=hf it<|aL ..;refine PV st g hd lt λh' f t=>?_;have B:Inv X pins σ H { s with heap:=h' }:=I.turned (t':=s.toks) (λb x hb e=>t.extBut b x hb e) f0 f1 f3 f4 f5;obtain⟨D,e,c,p⟩:=id f;rw[ek];exact⟨_,rfl,Ga (s:={ s with heap:=h' }) e c p ⋯ ⟨.ref a,H,B,rfl,⟨rfl,λb hb=>by rw[ha]at hb;cases hb;rfl⟩,f,λb hb=>(hf b hb).1⟩⟩
 done:=by
  fin2;subst hP hw hK;obtain⟨C,hq⟩:=hg;have g:s.heap.get? d=some o:=(show lE _ _ H s.heap d (.frz o u)from I.hok d _ hq).1;obtain⟨f0,f1,f2,f3,f4,f5⟩:=hf it<|aL ..;exact K_ (I.ok.hd hc) st g hd () λh' j=>⟨rfl,I.turned (t':=s.toks) (λb x hb e=>j b x hb e) f0 f1 f3 f4 f5⟩
 self:=λ_ _ _ _ _ st q=>wpAny_pyIter_keyiter st q
abbrev abj (to:TE):TI:=λσ H R=>to σ H λx H1=>∃d kvs,x=.ref d/\H1 d=some (.dT kvs)/\∀(o:Obj) (f:bb),f.length=kvs.length->(∀(i:Nat) r p,f[i]?=some r->kvs[i]?=some p->H1 r=some (.tup<|p.1.map kV))->R (Itk d o (.dT kvs) f) (upd H1 d<|.frz o<|.dT kvs)
def TU{e:aE}{to:TE}(he:PE X e to):PI X tg e (abj to):=by
 intro pins s σ H R I h;refine nq (he pins s σ H _ I h) λv g h9=>?_;obtain⟨x,H1,I1,r1,d,kvs,ex,p,q1⟩:=h9;subst ex
 cases r1
 obtain⟨z,hd,xs,B,L⟩:=CA I1.hok p;obtain⟨f,C,q,G,Y,P,k4,_,U⟩:=id L;obtain⟨ob,es,ep,D,j,V,J,W,g5,F,K,M,T⟩:=QT I1 p;have O:f=ob:=by rw[j]at G;exact(bg G).symm
 subst O;refine A2 ⟨_,j,V⟩ W j J ?_;have Z:Inv X pins σ H1 { g with heap:=g.heap.push { cls:=.type "dict_keyiterator",data:=.fields #[.ref d,.int 0 0,.int es.size 0,.int ep 0]}}:=
  I1.kept (t':=g.toks) λb o k=>aQ _ k
 have t:∀b ys,H1 b=some (.tup ys)->upd H1 d (.frz f<|.dT kvs) b=some (.tup ys):=λb ys k=>by
  rw[jZ<|Iw k p λz=>nomatch z];exact k
 have N:Inv X pins σ (upd H1 d<|.frz f<|.dT kvs) _:=t_ (t':=g.toks) (ob:=.frz f<|.dT kvs) Z (by rw[p];exact True.intro) ⟨rfl,λ_ _=>rfl⟩ ⟨f,aQ _ j⟩ ⟨aQ _ j,z,hd,xs,B.keeps t,f,C,q,aQ _ j,Y,P,k4,U⟩;refine⟨g.heap.objs.size,[g.heap.objs.size],_,Itk d f (.dT kvs) D,_,rfl,N,LQ d _ J (by rw[K,F]) M,⟨_,br _ rfl,rfl,rfl⟩,λb hb=>?_,q1 f D F T⟩;have k:b=g.heap.objs.size:=by simpa using hb
 subst k;refine I1.Ed (aN _) ?_;rw[jZ<|cO<|bD<|a_ j];exact I1.hok.fresh<|aN _
end
section
variable {P:aj}{w:ah}{A:aA}{E:af->aC->Prop}{s:aC}
def Mq:typeLookup (.type "list") "keys" = pure none:=am_miss_of_fast<|by kernel_rfl
def Lz{a:ak}{o:Obj}{k:Nat}{Q:bd->aC->Prop}(hx:s.heap.get? a=some o)(hc:o.cls=.type "list")(hdat:o.data=.seq xs k)(hd:o.dict=none)(hA:A.handled=none)
  (h:∀h' tk,(∀b ob,s.heap.get? b=some ob->h'.get? b=some ob)->Q none { s with heap:=h',toks:=tk }):wpAny (model P w) A (getAttr? (.ref a) "keys") Q E s:=by
 obtain⟨c,dct,dat,B⟩:=o;simp only at hc hdat hd;subst hc hdat hd;obtain⟨t,g,d,tk,q⟩:=s;have p:∀f,(⟨t,g,d,f,q⟩:aC).TypeIs (.ref a) "list" := λ_=>⟨_,hx,rfl⟩;have f1:=sub_AttributeError;have f3:=gI.lookup;have f4:=gI.bind<|.ref a;have f5:=am_list_getattr_none;unfold getAttr? getAttrBy? getAttrBy
 repeat (any_goals (first|assumption|exact p _|((with_reducible show wpAny _ _ (call (Value.builtin "list.__getattribute__") _ _) _ _ _);refine eU gI (p _) am_entry_list_getattribute (F.args_list_getattribute_2 _ _) (meets_getattribute_miss_list a xs k B "keys" _ Mq ⋯ (by size_fits)) ⟨hx,hA,λh' f e j=>?_⟩)|wp_step))
 obtain⟨C,D,G⟩:=j.there
 skip
 unfold getattributeRaised
 repeat (any_goals (first|assumption|wp_step))
 exact h _ _ j.keeps
def BW:entryFor table "dict.update.loop" = some Builtin.«dict.update.loop»:=entryFor_of_tree<|by kernel_rfl
def wg:plainId "dict.update.loop" = true:=by decide +kernel
abbrev Ny (h:aq)(d I:ak)(its:ba)(ps:List<|Int×af):Prop:=∀(i:Nat) (v:af),its[i]?=some v->∃(b:ak) (p:Int×af) (t:Tok),v=.ref b/\b≠d/\b≠I/\ps[i]?=some p/\IsTup h b #[.int p.1 t,p.2]
def Ny.mono{h h':aq}{d:ak}(x:Ny h d I its ps)(k:∀b o,b≠d->b≠I->h.get? b=some o->h'.get? b=some o):Ny h' d I its ps:=λi v hv=>by
 obtain⟨b,p,t,h1,h2,h3,f,o,j,g⟩:=x i v hv;exact⟨b,p,t,h1,h2,h3,f,o,k b o h2 h3 j,g⟩
abbrev ZW (ps:List<|Int×af):List (Key×af):=ps.foldl (λacc p=>stored acc (Sum.inl p.1) p.2) []
def PJ(ps:List<|Int×af)(i:Nat)(p:Int×af)(h:ps[i]?=some p):ZW (ps.take<|i+1)=stored (ZW<|ps.take i) (Sum.inl p.1) p.2:=by
 unfold ZW;rw[b7,h,eg];rfl
theorem KH:∀(ps:List<|Int×af) (acc:List<|Key×af),(ps.foldl (λacc p=>stored acc (Sum.inl p.1) p.2) acc).length<=acc.length+ps.length
 | [],acc=>aN _
 | p::ps,acc=>by
  have:=KH ps<|stored acc (Sum.inl p.1) p.2;have h:(stored acc (Sum.inl p.1) p.2).length<=acc.length+1:=by
   unfold stored;split
   ·rw[aH];lia
   ·rw[bh];exact aN _
  rw[fm,bB]
  lia
def O8{R:Result->aC->Prop}{I l d:ak}{St:Nat->aq->Prop}{its:ba}{ps:List<|Int×af}(W:Walks P w A.in1 I [I,l] [I] its.length (λi v=>its[i]?=some v) St)(hdI:d≠I)(hdl:d≠l)(hl:ps.length=its.length)(hz:ps.length<=sizeLine) :
  ∀(k i:Nat) (s:aC),its.length-i=k->i<=its.length->St i s.heap->s.heap.DictOf (kZ P w) d (ZW<|ps.take i)->Ny s.heap d I its ps ->
   (∀h' tk,h'.DictOf (kZ P w) d (ZW ps)->(∀b o,b≠d->b≠I->s.heap.get? b=some o->h'.get? b=some o)->R (.ok<|.ret .none) { s with heap:=h',toks:=tk }) ->
   codeAny (model P w) A (.builtin "dict.update.loop" ⟨[.ref d,.ref I,rawInt i,.none],[]⟩) R s:=by
 intro k
 induction k with
 | zero=>
  intro i s hk hi j K hP V;have M:i=its.length:=()
  subst M;refine fQ BW ?_;rw[d7 wg _]
  skip
  refine aG (W.done s _ _ j λh' tk C=>?_)
  skip
  refine aG (aM<|aM<|V h' tk ?_ λb o _ h2 e=>C b o (by simpa using h2) e);rw[<- hl,cg]at K;obtain⟨o,es,ep,B,rest⟩:=K;exact⟨o,es,ep,C d o (by simpa using hdI) B,rest⟩
 | succ k ih=>
  intro i s hk hi j K hP V;have D:i<its.length:=()
  refine fQ BW ?_;rw[d7 wg _]
  skip
  refine aG<|W.item i s _ _ D j λv h' tk hv F C=>?_;have Z:Ny h' d I its ps:=hP.mono λb o h1 h2 e=>C b o (by simpa using h2) e;obtain⟨b,p,t,rfl,hbd,hbI,hp,o,B,hc,n,hd⟩:=Z i v hv;have O:h'.DictOf (kZ P w) d (ZW<|ps.take i):=by
   obtain⟨o,es,ep,B,rest⟩:=K;exact⟨o,es,ep,C d o (by simpa using hdI) B,rest⟩
  have hT:Shared.TypeIs { s with heap:=h',toks:=tk } (.ref b) "tuple" := ⟨o,B,hc⟩;have g:∀(A:aA) (E:af->aC->Prop) (Q:ba->aC->Prop),Q [.int p.1 t,p.2] { s with heap:=h',toks:=tk }->wpAny (model P w) A (Builtin.Dict.pairItems<|.ref b) Q E { s with heap:=h',toks:=tk }:=λA E Q q=>by
   unfold Builtin.Dict.pairItems;refine aG<|gZ hT ?_;rw[aW ⋯];refine aG<|h_ B hd<|aM q
  have G:(ZW<|ps.take i).length<=sizeLine:=by
   refine bK (KH (ps.take i) []) ?_;rw[b9,ez]
   lia
  refine aG (cY<|aG<|wpAny_tryCatch<|g _ _ _ ?_)
  skip
  refine cY (wpAny_dictSet_pairs (hsz:=G) (knd:=kZ P w) (k:=Sum.inl p.1) (s:={ s with heap:=h',toks:=tk }) (show Value.isInt p.1 (.int p.1 t)=true by simp[Value.isInt]) O λh2 N hs=>?_);refine aM ⟨iP wg _,?_⟩;have f:∀b o,b≠d->b≠I->s.heap.get? b=some o->h2.get? b=some o:=λb o h3 J e=>by rw[hs.2 b h3];exact C b o (by simpa using J) e
  refine ih (i+1) _ () D (W.frame _ _ _ F λb hb o e=>?_) (by rw[PJ ps i p hp];exact N) (hP.mono f) λh3 L Y T=>V h3 L Y λb o J h5 e=>T b o J h5<|f b o J h5 e;have U:b≠d:=by
   intro z;subst z
   rcases bG.mp hb with z|z
   ·exact hdI z
   ·exact hdl<|by simpa using z
  skip
  rw[hs.2 b U];exact e
theorem B_{H:Hp}{X:Cx}(I:Inv X pins σ H s):∀(rs:bb) (ps:List<|Int×V),rs.length=ps.length->(∀(i:Nat) (r:ak) (q:Int×V),rs[i]?=some r->ps[i]?=some q->nh X.K H r [.int q.1,q.2]) ->
  ∃qs:List<|Int×af,KV ps qs/\∀(i:Nat) (r:ak),rs[i]?=some r->∃q t,qs[i]?=some q/\IsTup s.heap r #[.int q.1 t,q.2]
 | [],[],_,_=>⟨[],.nil,λi r h=>by simp at h⟩
 | [],_::_,h,_=>nomatch h
 | _::_,[],h,_=>nomatch h
 | r::rs,p::ps,hl,hh=>by
  obtain⟨qs,h1,h2⟩:=B_ I rs ps (by simpa using hl) λi r q e1 e2=>hh (i+1) r q (by simpa using e1) (by simpa using e2);obtain⟨B,f,g,_⟩:=I.tuple<|hh 0 r p rfl rfl;obtain⟨k,d,rfl,r1,r2⟩:=vals2 f;obtain⟨t,rfl⟩:∃t,k=Value.int p.1 t:=r1;refine⟨(p.1,d)::qs,.cons ⟨rfl,r2⟩ h1,λi j e=>?_⟩
  cases i with
  | zero=>cases e;exact⟨(p.1,d),t,rfl,g⟩
  | succ i=>exact h2 i j<|by simpa using e
abbrev ptP (ps:List<|Int×V):List (Key×V):=ps.foldl (λacc p=>putK acc (Sum.inl p.1) p.2) []
def aaA:∀{ps:List<|Int×V}{qs:List<|Int×af},KV ps qs->∀{as:List<|Key×V}{bs:List<|Key×af},KV as bs->KV (ps.foldl (λacc p=>putK acc (Sum.inl p.1) p.2) as) (qs.foldl (λacc p=>stored acc (Sum.inl p.1) p.2) bs):=by
 intro ps qs h;unfold KV at h
 induction h with
 | nil=>exact λh=>h
 | @cons p q ps qs h t d=>
  intro as bs h2;rw[fm,fm];obtain⟨e,r⟩:=h;rw[e];exact d<|h2.put _ r
theorem Kf:∀(ps:List<|Int×V) (acc:List<|Key×V),(ps.foldl (λacc p=>putK acc (Sum.inl p.1) p.2) acc).length<=acc.length+ps.length
 | [],acc=>aN _
 | p::ps,acc=>by
  have:=Kf ps<|putK acc (Sum.inl p.1) p.2;have:=qj acc (Sum.inl p.1) p.2;rw[fm,bB]
  lia
end
section
variable {X:Cx}
def GL(hc:X.calm=true):kM X (.type "dict") (λxs H Q=>∃(p:ak) (rs:bb) (ps:List<|Int×V),xs=[.ref p]/\oS X.K H p (rs.map V.ref)/\rs.length=ps.length /\
  (∀(i:Nat) (r:ak) (q:Int×V),rs[i]?=some r->ps[i]?=some q->nh X.K H r [.int q.1,q.2])/\∀l,H l=none->Q (.ref l) (upd H l<|.dK<|ptP ps)):=by
 kt_k;obtain⟨p,rs,ps,rfl,hq,G,hT,q⟩:=h;kcf_m
 cases rx
 obtain⟨its,Z,pl,hz⟩:=I.list hq;have ei:=tQ Z;subst ei;rw[aH]at hz;obtain⟨U,kv,tp⟩:=B_ I rs ps G hT;have ql:ps.length=U.length:=kv.length;obtain⟨o,n,O,k,M,hd⟩:=pl;have lp:p<s.heap.objs.size:=a_ O;refine callType_codes (Q₁:=λC j=>C=.ref s.heap.objs.size/\j={ s with heap:=s.heap.push { cls:=.type "dict",data:=.dict #[]}}) F.kt_called_dict (F.kt_typeCall_dict_1 _) F.entry_dict_init (kt_code_dict_new _ ⟨rfl,rfl⟩) ?_;rintro C j ⟨rfl,rfl⟩;have f:(s.heap.push { cls:=.type "dict",data:=.dict #[]}).DictOf (kZ X.prog X.w) s.heap.objs.size []:=Heap.DictOf.new s.heap;have g:(s.heap.push { cls:=.type "dict",data:=.dict #[]}).get? p=some o:=aQ _ O;have J:Shared.TypeIs { s with heap:=s.heap.push { cls:=.type "dict",data:=.dict #[]}} (.ref p) "list" := ⟨o,g,k⟩;refine⟨f.typeIs,F.args_dict_init_2 _ _,?_⟩;unfold Builtin.«dict.__init__»;refine aG ?_;unfold Builtin.Dict.selfAndRest;refine aG (iI f.typeIs ?_)
 skip
 refine aM ?_;show wpAny _ _ (Builtin.Dict.updateFrom "dict.__init__" s.heap.objs.size (.ref p) [] .none) _ _ _;unfold Builtin.Dict.updateFrom;refine aG<|gZ J ?_;rw[aW ⋯];refine aG<|Lz g k hd M (show X.A.in1.in1.handled=none from I.ok.hd hc) λh' tk B=>?_;rw[aW<|by rfl];refine aG<|gc ?_;have D:h'.IsList p (rs.map Value.ref).toArray:=⟨o,B p o g,k,n,hd⟩;refine aG<|gU (s:={ s with heap:=h',toks:=tk }) D ?_;refine aM ⟨iP wg _,?_⟩;have sz:s.heap.objs.size<h'.objs.size:=a_<|B _ _<|br _ rfl;have W:Walks X.prog X.w X.A.in1.in1 h'.objs.size [h'.objs.size,p] [h'.objs.size] (rs.map Value.ref).length (λi v=>(rs.map Value.ref)[i]?=some v) (λi h=>h.IsListIter h'.objs.size p i/\h.IsList p (rs.map Value.ref).toArray):=by
  have W:=Walks.list (prog:=X.prog) (w:=X.w) (A:=X.A.in1.in1) (I.ok.hd hc) h'.objs.size p (bD<|a_<|B p o g) (rs.map Value.ref).toArray;rw[aX]at W;dsimp[f7]at W;exact W
 refine O8 (d:=s.heap.objs.size) (its:=rs.map Value.ref) (ps:=U) W (bD sz) (cO<|bD lp) (by rw[aH];lia) () (rs.map Value.ref).length 0 _ () (bF _)
  ⟨⟨_,br _ rfl,rfl,rfl⟩,D.push _⟩ ?_ (λi v hv=>?_) λh2 L hD hs=>⟨rfl,.ref s.heap.objs.size,_,I.laid (t':=L) (o:=.dK<|ptP ps) (λb ob P=>?_) (aN _) ?_,rfl,q _<|I.hok.fresh<|aN _⟩
 ·obtain⟨o,es,ep,e,rest⟩:=f;exact⟨o,es,ep,aQ _<|B _ _ e,rest⟩
 ·rw[aR]at hv;obtain⟨r,hr,rfl⟩:=aP.mp hv;obtain⟨q,t,h1,Y,h2,h3⟩:=tp i r hr;have T:=a_ h2;exact⟨r,q,t,rfl,bD T,bD<|jG T sz,h1,Y,aQ _<|B _ _<|aQ _ h2,h3⟩
 ·have N:=a_ P;exact hs b ob (bD N) (bD<|jG N sz) (aQ _<|B _ _<|aQ _ P)
 ·refine G4 (bK (Kf ps [])<|by rw[ez];lia) ?_ (aaA kv .nil) hD;exact c5.mpr<|cO<|bD I.big
abbrev SY (ns:ag):Sx.Ord where
 lt i j:=decide (ns.getD i 0<ns.getD j 0)
 MK i:=bz (by omega)
 tr i j k h1 h2:=bf (by have:=bV h1;have:=bV h2;omega)
 neg i j k h:=by
  have:=bV h;by_cases c:ns.getD i 0<ns.getD j 0
  ·exact .inl (bf c)
  ·exact .inr<|bf<|by omega
theorem JT:∀{vs:ba}{ns:ag},IntsAre vs ns->vs.length=ns.length/\∀i,i<vs.length->∃t,vs.getD i .none=.int (ns.getD i 0) t
 | _,_,.nil=>⟨rfl,λi h=>absurd h<|eB _⟩
 | _,_,.cons n t h=>by
  obtain⟨h1,h2⟩:=JT h;refine⟨cV (·+1) h1,λi d=>?_⟩
  cases i with
  | zero=>exact⟨t,rfl⟩
  | succ i=>exact h2 i<|by simpa using d
theorem zY{f:Nat->Int}{h:Nat->af}:∀(l:am),(∀i∈l,∃t,h i=.int (f i) t)->Vals (l.map λi=>V.int<|f i) (l.map h)
 | [],_=>.nil
 | i::l,e=>.cons (e i<|aL ..)<|zY l λj d=>e j<|aO _ d
def Hf{s:aC}{H:Hp}{Q:VK}{h':aq}{tk:Nat}{vs:ba}{ns:ag}(I1:Inv X pins σ H { s with heap:=h',toks:=tk })(ro:Sx.RO ns.length)(hi:IntsAre vs ns)(hz:vs.length<=sizeLine)
  (q:∀l g,H l=none->Sx.Cl g 0 ns.length->Sx.So (SY ns) g 0 ns.length->Q (.ref l) (upd H l<|.lst<|(List.range ns.length).map λi=>V.int<|ns.getD (g i) 0)) :
  wpAny (model X.prog X.w) X.A.in1 (do
   let l <- newList vs
   let _ <- holding [l] (call (Value.builtin "list.sort") [l] [])
   ret l) (λfin s'=>∃v,fin=Fin.done (Flow.ret v)/\EP X pins σ Q v s') X.xe { s with heap:=h',toks:=tk }:=by
 obtain⟨C,d⟩:=JT hi;refine aG<|jw ?_;have f:(h'.push<|seqObj "list" vs.toArray 0).get? h'.objs.size=some (seqObj "list" vs.toArray 0):=br _ rfl
 skip
 refine aG (cY<|cB slot_list_sort ⟨_,f,rfl⟩ entry_list_sort (Sx.yQ (o:=SY ns) (kd:=oneType') f hz (by rw[C];exact ro) (λh2 D B=>?_) (λh2 i j p F G D B=>?_) λg hc hs=>⟨_,rfl,?_⟩)<|args_list_sort _)
 ·obtain⟨a,b,r,rfl⟩:∃a b r,vs=a::b::r:=by
   cases vs with
   | nil=>simp at h2
   | cons a vs=>cases vs with
    | nil=>simp at h2
    | cons b r=>exact⟨a,b,r,rfl⟩
  exact wpAny_of_eq (keyKind_ints hi) B
 ·obtain⟨t,e1⟩:=d i p;obtain⟨u,e2⟩:=d j F;show wpAny _ _ (keyLt' oneType' (vs.getD i .none)<|vs.getD j .none) D G _;rw[e1,e2,keyLt'_oneType];exact Sx.Iq true B
 ·rw[C]at hc hs ⊢;obtain⟨e,J⟩:=sortedHeap_at (out:=((List.range ns.length).map λi=>vs.getD (g i) .none).toArray) f;have old:∀b ob,h'.get? b=some ob->(sortedHeap (h'.push<|seqObj "list" vs.toArray 0) h'.objs.size vs ((List.range ns.length).map λi=>vs.getD (g i) .none).toArray).get? b=some ob:=λb ob k=>by
   rw[sortedHeap_old (bD<|a_ k)<|by rw[c_];exact dP<|a_ k];exact aQ _ k
  refine aM ⟨_,rfl,.ref h'.objs.size,_,I1.laid (t':=tk) (o:=.lst<|(List.range ns.length).map λi=>V.int<|ns.getD (g i) 0) old (aN _) ?_,rfl,q _ g (I1.hok.fresh<|aN _) hc hs⟩;refine⟨by rw[aH,bR];omega,(List.range ns.length).map λi=>vs.getD (g i) .none,e,zY _ λi hi=>d _ (by have:=(hc i (bF _)<|cy.mp hi).2;omega),J⟩
def MQ{P:aj}{w:ah}{vs:List<|Key×af}:∀{acc:ba}{ns:ag},vs.map (·.1)=ns.map Sum.inl->acc.length=vs.length->(∀(j:Nat) v,acc[j]?=some v->∃k x,vs[j]?=some (k,x)/\(kZ P w).is k v=true)->IntsAre acc ns:=by
 intro acc ns d f h
 induction acc generalizing vs ns with
 | nil=>cases vs with
  | nil=>cases ns with
   | nil=>exact .nil
   | cons=>cases d
  | cons=>cases f
 | cons a acc g=>cases vs with
  | nil=>cases f
  | cons v vs=>cases ns with
   | nil=>cases d
   | cons n ns=>
    rw[bC,bC,List.cons.injEq]at d;obtain⟨k,x,e1,e2⟩:=h 0 a rfl
    cases e1
    obtain⟨e3,p⟩:=d;have e3:k=Sum.inl n:=e3;subst e3;obtain⟨t,rfl⟩:=Value.isInt_shape (k:=n) (v:=a) e2;exact .cons n t<|g p (by simpa using f) λj v e=>h (j+1) v<|by simpa using e
def DZ(hc:X.calm=true):kM X (.builtin "sorted") (λxs H Q=>∃(d:ak) (kvs:List<|Key×V) (ns:ag),xs=[.ref d]/\H d=some (.dK kvs)/\kvs.map (λp=>p.1)=ns.map Sum.inl/\Sx.RO ns.length /\
  ∀l g,H l=none->Sx.Cl g 0 ns.length->Sx.So (SY ns) g 0 ns.length->Q (.ref l) (upd H l<|.lst<|(List.range ns.length).map λi=>V.int<|ns.getD (g i) 0)):=by
 kt_k;obtain⟨d,kvs,ns,rfl,D,ek,K,q⟩:=h;kcf_m
 cases rx
 obtain⟨z,hd,t,k,C⟩:=KQ I.hok D;obtain⟨ep,B⟩:=C.dictAt;have G:kvs.length=t.length:=k.length;have M:t.map (·.1)=kvs.map (·.1):=by
  clear ek z C B G D;unfold KV at k
  induction k with
  | nil=>rfl
  | cons h _ J=>rw[bC,bC,J,h.1]
 refine dw iV iz iA (iB _) ?_;unfold Builtin.«sorted»;kl_no;refine aG<|gD (PySem.W.kdl_dict hd) (show X.A.in1.handled=none from I.ok.hd hc) B () λh' L acc F f=>?_;have al:acc.toList.length=t.length:=by rw[eF];exact f.1
 exact Hf (s:=s) (I.kept (t':=L) F) K (MQ (P:=X.prog) (w:=X.w) (M.trans ek) al λj v e=>f.2 j v<|by rw[cE]at e;exact e) () q
end
end L2
namespace Am
open PySem PySem.Spec PyProof.Rows L2
abbrev UT:ae->Option (List<|Int×A)
 | []=>some []
 | .tup [.int k,x]::r=>(UT r).map λps=>(k,x)::ps
 | _=>none
abbrev S_ (ps:List<|Int×A):List (Int×A):=ps.foldl (λacc p=>ym acc p.1 p.2) []
section
variable {K:au}{ρ:bb}{H:Hp}
def Ud{x:A}(r:AVs K ρ H [x,y] vs):∃v w,vs=[v,w]/\AV K ρ H x v/\AV K ρ H y w:=by
 cases r with
 | cons h t=>cases t with
  | cons h' d=>cases d;exact⟨_,_,rfl,h,h'⟩
def OF{x:A}(e:UT (x::xs)=some ps):∃k y ps',x=.tup [.int k,y]/\UT xs=some ps'/\ps=(k,y)::ps':=by
 unfold UT at e;split at e
 ·rename_i e2;cases e2
 ·rename_i k y r e2
  cases e2
  obtain⟨ps',h1,h2⟩:=aP.mp e;exact⟨_,_,_,rfl,h1,h2.symm⟩
 ·cases e
def abb:∀{xs:ae}{vs:List V}{ps:List<|Int×A},AVs K ρ H xs vs->UT xs=some ps ->
  ∃(rs:bb) (qs:List<|Int×V),vs=rs.map V.ref/\rs.length=qs.length/\(∀(i:Nat) (r:ak) (q:Int×V),rs[i]?=some r->qs[i]?=some q->nh K H r [.int q.1,q.2]) /\
   ∀as bs,DI K ρ H as bs->DI K ρ H (ps.foldl (λacc p=>ym acc p.1 p.2) as) (qs.foldl (λacc p=>putK acc (Sum.inl p.1) p.2) bs):=by
 intro xs
 induction xs with
 | nil=>intro vs ps r e;cases r;cases e;exact⟨[],[],rfl,rfl,λi r q h=>by simp at h,λas bs h=>h⟩
 | cons x xs g=>
  intro vs ps r e;obtain⟨k,y,f,rfl,e1,rfl⟩:=OF e
  cases r with
  | cons h t=>
   obtain⟨rs,qs,rfl,j,B,C⟩:=g t e1
   cases h with
   | @tup a _ us h r=>
    obtain⟨v,w,rfl,h1,h2⟩:=Ud r
    cases h1
    refine⟨a::rs,(k,w)::qs,rfl,by rw[bB,bB,j],λi r q e1 e2=>?_,λas bs d=>C _ _<|d.put h2 k⟩
    cases i with
    | zero=>cases e1;cases e2;exact nh.of h
    | succ i=>exact B i r q (by simpa using e1)<|by simpa using e2
end
section
variable {X:Cx}
abbrev C_ (x:A)(S:jV):R A:=match x with
 | .ref n=>opt (jT S n) λxs=>opt (UT xs) λps=>.ok (.ref S.length) (S++[.qv<|S_ ps])
 | _=>.no
def IK(hc:X.calm=true):kM X (.type "dict") (rN X<|f1 C_):=kM.imp (GL hc) λvs H Q h0=>by
 kd_p;clear h0
 cases hv with
 | ref q=>
  rename_i p n;kj_on;obtain⟨ps,hb,h⟩:=jY h;obtain⟨us,h1,r⟩:=R.lst q<|j8 hn;obtain⟨j,g,rfl,f,k,B⟩:=abb r hb;refine⟨p,j,g,rfl,oS.of h1,f,k,λl d=>?_⟩;obtain⟨ex,t,f⟩:=R.aa6 (xs:=S_ ps) (vs:=ptP g) d<|B [] [] trivial;exact h _ _ _ ex t<|.ref f
 | _=>exact h.elim
def UI{ns:ag}{g:Nat->Nat}(c:Sx.Cl g 0 ns.length)(so:Sx.So (SY ns) g 0 ns.length):(List.range ns.length).map (λi=>ns.getD (g i) 0)=sortI ns:=by
 refine Ve ?_ ?_ (Bo ns)
 ·refine List.Perm.trans ?_ (sortI_perm ns).symm;have p:=uI (N:=ns.length) (g:=g) (λi k=>(c i (bF _) k).2) λi j d f z=>by
   have:=so i j (bF _) d f;rw[z]at this;exact this.MK
  have:=p.map λi=>ns.getD i 0;rw[aY,range_getD]at this;exact this
 ·rw[bZ];intro i j k f d;rw[aH,bR]at k f;rw[dW,dW,dH,dH];have:=eY (so i j (bF _) d f).ge
  lia
@[irreducible] noncomputable def big:Nat:=2 ^ 4096
theorem zQ:big=2 ^ 4096:=by unfold big;rfl
def Gg{i:Int}(h:i.natAbs<big):Builtin.Int.intBits i<=2 ^ 20:=by
 rw[zQ]at h;exact bK (intBits_le h) ⋯
abbrev Jb (a b:A)(S:jV):R A:=match a,b with
 | .int i,.int j=>gd (i.natAbs<big/\j.natAbs<big) (.ok (.int<|i * j) S)
 | _,_=>.no
def ZC:oR X (binaryOp .Mult) (r2 X Jb):=λpins s σ H x y v u Q I rx ry h9=>by
 x_go
 cases va with
 | int i=>cases vb with
  | int j=>
   obtain⟨⟨h1,h2⟩,h⟩:=kB h;obtain⟨t,rfl⟩:∃t,v=Value.int i t:=rx;obtain⟨d,rfl⟩:∃t,u=Value.int j t:=ry;exact mul_int ⟨.int _,H,I.tok _,⟨_,rfl⟩,h _ _ _ .refl R<|.int _⟩<|IntMulOk.of_bits (Gg h1)<|Gg h2
  | _=>exact h.elim
 | _=>exact h.elim
end
def JJ:bootBuiltins "dict" = some (.type "dict"):=by decide +kernel
abbrev kA (p:Int×Int):A:=.ktu [.int p.1,.int p.2]
abbrev QC (K:au):af->Option (Int×Int)
 | .ref b=>match K.lookup b with
  | some ⟨.type "tuple",none,.seq its _,_⟩=>match its.toList with
   | [.int i _,.int j _]=>some (i,j)
   | _=>none
  | _=>none
 | _=>none
abbrev HQ (K:au):ba->Option (List<|Int×Int)
 | []=>some []
 | v::vs=>(QC K v).bind λp=>(HQ K vs).map λps=>p::ps
abbrev klP (K:au)(a:ak):Option (List<|Int×Int):=match K.lookup a with
 | some ⟨.type "list",none,.seq its _,_⟩=>if its.size<=sizeLine then HQ K its.toList else none
 | _=>none
def Ol{K:au}{v:af}{p:Int×Int}(h:QC K v=some p):∃b,v=.ref b/\KTp K b [.int p.1,.int p.2]:=by
 unfold QC at h;split at h
 ·rename_i b;refine⟨b,rfl,?_⟩;split at h
  ·rename_i d n f e;split at h
   ·rename_i i t j u e2
    cases h
    refine⟨_,d,n,e,rfl,rfl,rfl,?_,?_⟩
    ·rw[<- eF,e2];show 2<=sizeLine;decide
    ·rw[e2];exact .cons ⟨t,rfl⟩<|.cons ⟨u,rfl⟩ .nil
   ·cases h
  ·cases h
 ·cases h
def LS{K:au}{H:Hp}:∀{vs:ba}{ps:List<|Int×Int},HQ K vs=some ps->∃us:List V,Vals us vs/\AVs K ρ H (ps.map kA) us:=by
 intro vs
 induction vs with
 | nil=>intro ps h;cases h;exact⟨[],.nil,.nil⟩
 | cons v vs f=>
  intro ps h;obtain⟨p,h1,h⟩:=bN.mp h;obtain⟨j,h2,rfl⟩:=aP.mp h;obtain⟨us,h3,d⟩:=f h2;obtain⟨b,rfl,g⟩:=Ol h1;exact⟨.ref b::us,.cons rfl h3,.cons (.ktu g<|.cons (.int _)<|.cons (.int _) .nil) d⟩
def ZK{K:au}{H:Hp}{a:ak}{ps:List<|Int×Int}(h:klP K a=some ps):AV K ρ H (.frz<|ps.map kA) (.ref a):=by
 unfold klP at h;split at h
 ·rename_i d n g e;split at h
  ·rename_i f;obtain⟨us,h1,h2⟩:=LS (ρ:=ρ) (H:=H) h;exact .frz (.inr ⟨_,d,n,e,rfl,rfl,rfl,f,h1⟩) h2
  ·cases h
 ·cases h
def NR{X:Cx}{x:Str}{a:ak}{ps:List<|Int×Int}(hm:X.mg x=some (.ref a))(hk:klP X.K a=some ps)(hg:Gl X x<|>ε)(hd:(x == ("__debug__" : Str))=false<|>δ):AE X (.Name x pos) (eC<|.frz<|ps.map kA):=
 PE.imp (Li (v:=.ref a) hg hm rfl hd) λσ H Q h9=>by
  z_go;exact h ρ H _ .refl R<|ZK hk
section
abbrev keA (p:ag×A):A:=.tup<|p.1.map .int
theorem KW{K:au}{H:Hp}:∀{kvs:List<|ag×A}{ks:List<|List Key×V},DV K ρ H kvs ks->ks.map (λp=>p.1)=(kvs.map Prod.fst).map (λks=>ks.map Sum.inl)
 | [],[],_=>rfl
 | a::kvs,b::ks,⟨z,t⟩=>by
  have:=KW t;show b.1::ks.map _=a.1.map Sum.inl::_;rw[this,z.1]
end
end Am
namespace L2
open PySem PySem.Spec PyProof.Rows
def E7(ek ev tg iter:aE)(ifs:List aE)(scope:Scope)(pos:Pos)(it:af)(d:ak)(env:Env) :
  compTurn (.DictComp ek ev [⟨tg,iter,ifs,0⟩] scope pos) 0 it (.ref d) env=(do
   standAt iter.pos
   match <- pyNext it with
   | none=>pure (.done .next)
   | some v=>
    letOwnedTupleGo tg it v
    assign tg env v
    let mut ok:=true
    for c in ifs do
     if ok then ok <- isTrue c env (eval c env)
    if ok then
     (do
      let kv <- eval ek env
      let vv <- holding [kv] (eval ev env)
      standAt { ek.pos with endLine:=ev.pos.endLine,endCol:=ev.pos.endCol }
      holding [kv,vv] (dictSet d kv vv))
    again (.compLoop (.DictComp ek ev [⟨tg,iter,ifs,0⟩] scope pos) 0 it (.ref d) env)):=by rfl
section
variable {prog:aj}{w:ah}{A:aA}{R:Result->aC->Prop}{s:aC}
def wB{ev iter:aE}{rest:List Comprehension}{acc:af}{env:Env}
  (h0:codeAny (model prog w) A (.compLoop (.DictComp ek ev (⟨tg,iter,ifs,0⟩::rest) scope pos) 0 it acc env) R s)
  (h:wpAny (model prog w) A (pyIter it) (λit' s'=>codeAny (model prog w) A (.compLoop (.DictComp ek ev (⟨tg,iter,ifs,0⟩::rest) scope pos) 0 it' acc env) R s')
   (notedBy (model prog w) A env λx s'=>R (.error x) s') s) :
  codeAny (model prog w) A (.compStart (.DictComp ek ev (⟨tg,iter,ifs,0⟩::rest) scope pos) 0 it acc env) R s:=by
 refine codeAny_of_tree ?_;show wpAny _ _ ((compStart (.DictComp ek ev (⟨tg,iter,ifs,0⟩::rest) scope pos) 0 it acc env).onRaise λx=>do noteFrame x env;standAt theWindowsPlace) _ _ s;refine wpAny_notedAt ?_;unfold compStart;show wpAny _ _ (ask >>= _) _ _ s;refine aG<|wpAny_askSetting<|wpAny_ite ?_;split
 ·first
   | exact aG (aM<|aM<|anI rfl h0)
   | exact aM<|anI rfl h0
 ·first
   | exact aG (gc<|aG<|fX<|aG<|fL h (λit' s' h'=>aM<|anI rfl h') λ_ _ x=>x)
   | (refine aG<|gc ?_;show wpAny _ _ (standAt iter.pos >>= _) _ _ s;exact aG<|fX<|aG<|fL h (λit' s' h'=>aM<|anI rfl h') λ_ _ x=>x)
end
section
variable {X:Cx}{pins:bn}{σ:St}{H H':Hp}{s:aC}{a:ak}{y v:V}{u r:af}{A:aA}{E:af->aC->Prop}
def Lw{Q:Unit->aC->Prop}(hu:A.units+1<cLine)(I:Inv X pins σ H s)(g:yu H a y v H')(ry:RelV y u)(rv:RelV v r)(h:∀s',Inv X pins σ H' s'->Q Unit.unit s') :
  wpAny (model X.prog X.w) A (dictSet a u r) Q E s:=by
 rcases g with⟨kvs,k,e,t,l,B⟩|⟨kvs,k,b,e,t,G,l,B⟩
 ·subst t B;obtain⟨z,C,K,d,j⟩:=KQ I.hok e;have D:K.length<=sizeLine:=by rw[<- d.length];exact z
  have p:(putK kvs k v).length<=sizeLine:=by have:=qj kvs k v;lia
  refine wpAny_dictSet_pairs (hsz:=D) (Au ry) j λh' f hs=>h _ ?_;have M:∃q,h'.get? a=some q:=let⟨q,_,_,hq,_⟩:=f;⟨q,hq⟩
  exact t_ I (by rw[e];exact True.intro) hs M<|G4 p C (d.put k rv) f
 ·subst t B
  cases(show u=Value.ref b from ry)
  obtain⟨z,C,xs,d,j⟩:=CA I.hok e;have D:xs.length<=sizeLine:=by rw[<- iO d];exact z
  have p:(putK kvs k v).length<=sizeLine:=by have:=qj kvs k v;lia
  refine wpAny_dictSet_heap (hsz:=D) (show A.units<cLine by lia) (uA I.hok G) j λh' f hs=>h _ ?_;obtain⟨q,es,ep,hq,h2,h3,J,_,L⟩:=f;refine t_ I (by rw[e];exact True.intro) hs ⟨q,hq⟩ ⟨p,C,_,(d.put k G rv).keeps λc ys F=>?_,q,es,ep,hq,h2,h3,J,L⟩;rw[jZ<|Iw F e λz=>nomatch z];exact F
end
abbrev Za (ob:HO)(cap:List<|bj)(g:TG)(tc:TT)(tk tv:TE)(σ:St)(Q:VK)(J:It)(H1:Hp):Prop:=∀D,H1 D=none ->
 ∃W:Nat->Nat->St->Hp->Prop,(∃m,W 0 m (cap.map<|Tv σ)<|upd H1 D ob)/\∀i m f H',W i m f H' ->
  (J.stop i H'/\Q (.ref D) H')\/(J.go i H'/\∀x H2,J.yld i H' x H2->g x f H2 λd H3=>tc d H3 λb p=>
   if b=true then tk d p λy q=>tv d q λz t=>∃k,yu t D y z k/\∃j,j<m/\W (i+1) j d k
   else ∃j,j<m/\W (i+1) j d p)
abbrev tDC (ob:HO)(cap:List<|bj)(wi:TI)(g:TG)(tc:TT)(tk tv:TE):TE:=λσ H Q=>wi σ H<|Za ob cap g tc tk tv σ Q
def Vo{ok:Cx->Prop}{X:Cx}{use:Option<|af->Sem Unit}{Q':af->aC->Prop}{iter ev:aE}{N:ar}{wi:TI}{g:TG}{tc:TT}{tk tv:TE}{ob:HO}(hob:∀{P:aj}{w:ah}{H:Hp}(h:aq),sysModules<h.objs.size->lE P w H (h.push { cls:=.type "dict",data:=.dict #[]}) h.objs.size ob)(hu:X.A.units+1<cLine)(S:CpScope X scope N cap)(hok:∀C s₀ H₀ ex,(∀a o u,X.H₀ a=some (.frz o u)->H₀ a=some (.frz o u))->ok (lR X scope N C s₀ H₀ ex))(hi:PIg ok X tg iter wi)
  (hg:∀C s₀ H₀ ex,PG (lR X scope N C s₀ H₀ ex) tg g) (ht:∀C s₀ H₀ ex,SJ (lR X scope N C s₀ H₀ ex) ifs tc) (hk:∀C s₀ H₀ ex,PE (lR X scope N C s₀ H₀ ex) ek tk) (hv:∀C s₀ H₀ ex,PE (lR X scope N C s₀ H₀ ex) ev tv)
  (hs:(∀x,foldedSetIterable iter X.env x=pure x)<|>ζ):∀(pins:bn) (s:aC) (σ:St) (H:Hp) (Q:VK),Inv X pins σ H s->tDC ob cap wi g tc tk tv σ H Q ->
  (∀(s6:aC) (C D:ak) (H5:Hp) (m:Str->bd),s6.heap.Ns C m->wC X pins H5 C->(∀h',Heap.SameBut C s6.heap h'->Inv X pins σ H5 { s6 with heap:=h' })->Q (.ref D) H5->∀v,compPost (model X.prog X.w) X.A X.xe use Q' (.ref D) C (.ok v) s6) ->
  wpAny (model X.prog X.w) X.A (comprehension (.DictComp ek ev [⟨tg,iter,ifs,0⟩] scope pos) scope X.env (firstIterPos [⟨tg,iter,ifs,0⟩] pos) newDict (firstAsync [⟨tg,iter,ifs,0⟩]) (firstIter [⟨tg,iter,ifs,0⟩] X.env) use) Q' X.xe s:=by
 intro pins s σ H Q I h hfin;mg_lt;refine wpAny_comprehension_free (use:=use) rfl hs (AK hfree) S.kind S.nm<|nq (hi pins s σ H _ I h) λxv s1 h1=>nq h1 λitv f h2=>?_;obtain⟨it,fp,tn,J,H2,rfl,I2,T,st2,f2,h2⟩:=h2;refine cC<|KN λU k old j=>?_;obtain⟨W,⟨m0,w0⟩,turn⟩:=h2 f.heap.objs.size I2.fresh;dsimp only at k old j ⊢;have I3:Inv X pins σ (upd H2 f.heap.objs.size ob) { f with heap:=f.heap.push { cls:=.type "dict",data:=.dict #[]}}:=I2.laid (a:=f.heap.objs.size) (o:=ob) (h':=f.heap.push { cls:=.type "dict",data:=.dict #[]}) (t':=f.toks) (λ_ _ q=>aQ _ q) (aN _)<|hob f.heap I2.big;have hfp:∀b∈fp,∃o,f.heap.get? b=some o:=λb hb=>by
  obtain⟨o,e,_⟩:=T.obj 0 _ st2 b hb;exact⟨o,e⟩
 have neD:∀b∈fp,b≠f.heap.objs.size:=λb hb=>by
  obtain⟨o,e⟩:=hfp b hb;exact bD<|a_ e
 have f3:∀b∈fp,wC X pins (upd H2 f.heap.objs.size ob) b:=λb hb=>⟨by rw[jZ<|neD b hb];exact(f2 b hb).1,(f2 b hb).2⟩;have hDC:f.heap.objs.size≠(f.heap.push { cls:=.type "dict",data:=.dict #[]}).objs.size:=by rw[c_];exact bD (dI _)
 have I4:=Rk (tk:=f.toks+([]:List<|Str×af).length) (fp:=fp) S I3 f3 (λb hb=>by
  obtain⟨o,e⟩:=hfp b hb;exact⟨o,aQ _ e⟩) k j old
 have st4:tn 0 U:=T.keep _ _ _ st2 λb hb o e=>old b o<|aQ _ e;have hc:=hok (f.heap.push { cls:=.type "dict",data:=.dict #[]}).objs.size { f with heap:=f.heap.push { cls:=.type "dict",data:=.dict #[]}} (upd H2 f.heap.objs.size ob) fp λa o u e=>by
  have z:=I2.base.frzs a o u e;rw[jZ λq=>by rw[q,I2.fresh]at z;cases z];exact z
 have K:∀{H':Hp},(∀b∈fp,H' b=none)->∀b∈fp,wC (lR X scope N (f.heap.push { cls:=.type "dict",data:=.dict #[]}).objs.size { f with heap:=f.heap.push { cls:=.type "dict",data:=.dict #[]}} (upd H2 f.heap.objs.size ob) fp) [] H' b:=λhn b hb=>by
  have ok:=I4.ok;refine⟨hn b hb,(ok.exf b hb).1,ok.exfs b hb,.inl hb,λx c e=>(ok.exf b hb).2 x c e,λp hp=>nomatch hp⟩
 have O:∀s4:aC,s4={ f with heap:=U,toks:=f.toks+([]:List<|Str×af).length } ->
   codeAny (model X.prog X.w) X.A (.compLoop (.DictComp ek ev [⟨tg,iter,ifs,0⟩] scope pos) 0 (.ref it) (.ref f.heap.objs.size)<|compEnvC scope (cellsFrom ((f.heap.push { cls:=.type "dict",data:=.dict #[]}).objs.size+1) scope.names<|wz X.env scope.names []) (f.heap.push { cls:=.type "dict",data:=.dict #[]}).objs.size X.env)
    (compPost (model X.prog X.w) X.A X.xe use Q' (.ref f.heap.objs.size) (f.heap.push { cls:=.type "dict",data:=.dict #[]}).objs.size) s4:=by
  rintro s4 rfl;refine codeAny_loop rfl (λn s'=>∃i G H',Inv (lR X scope N (f.heap.push { cls:=.type "dict",data:=.dict #[]}).objs.size { f with heap:=f.heap.push { cls:=.type "dict",data:=.dict #[]}} (upd H2 f.heap.objs.size ob) fp) [] G H' s'/\tn i s'.heap/\(∀b∈fp,H' b=none)/\W i n G H') (λn s5 hI=>?_) m0 ⟨0,_,_,I4,st4,λb hb=>(f3 b hb).1,w0⟩;obtain⟨i,M,H5,I5,st5,fr5,w5⟩:=hI;show wpAny _ X.A ((compTurn (.DictComp ek ev [⟨tg,iter,ifs,0⟩] scope pos) 0 (.ref it) (.ref f.heap.objs.size)<|compEnvC scope (cellsFrom ((f.heap.push { cls:=.type "dict",data:=.dict #[]}).objs.size+1) scope.names<|wz X.env scope.names []) (f.heap.push { cls:=.type "dict",data:=.dict #[]}).objs.size X.env).onRaise λx=>do noteFrame x _;theTreesLotGoes x) _ _ s5;refine wpAny_noted ?_;rw[E7];refine aG (fX<|aG ?_)
  rcases turn i n M H5 w5 with⟨stop,q⟩|⟨go,step⟩
  ·refine nq (T.done (lR X scope N (f.heap.push { cls:=.type "dict",data:=.dict #[]}).objs.size { f with heap:=f.heap.push { cls:=.type "dict",data:=.dict #[]}} (upd H2 f.heap.objs.size ob) fp) rfl rfl rfl hc i [] s5 M H5 _ I5 (K fr5) st5 stop) λr s6 h9=>?_;obtain⟨hr,I6⟩:=h9;subst hr;obtain⟨m6,hn6,_⟩:=I6.loc;refine aM<|hfin s6 _ _ H5 m6 hn6 (I3.Ed (aN _) I6.free) (λh' sb=>?_) q _;have V:=I6.base;have nC:∀b o,(f.heap.push { cls:=.type "dict",data:=.dict #[]}).get? b=some o->b≠(f.heap.push { cls:=.type "dict",data:=.dict #[]}).objs.size:=λb o e=>bD<|a_ e;refine I3.Nt (ch:=fp) I6.os ⟨λb o e n hb Y=>?_,λb o e n hb Y=>?_,λb o e n Y=>?_,λb o e Y=>?_,V.tups,V.frzs,V.tbls⟩ ?_ I6.bare ?_
   ·exact sb.extBut b o (nC b o e) (V.keep b o e n hb Y)
   ·obtain⟨sl,z⟩:=V.slot b o e n hb Y;exact⟨sl,sb.extBut b _ (nC b o e) z⟩
   ·exact V.free b o e n Y
   ·obtain⟨o',z⟩:=V.there b o e Y;exact⟨o',sb.extBut b _ (nC b o e) z⟩
   ·intro b o e;have hb:∀c v,H5 c=some v->c≠(f.heap.push { cls:=.type "dict",data:=.dict #[]}).objs.size:=λc v e z=>by
     rw[z]at e;have:=I6.free;rw[show H5 (f.heap.push { cls:=.type "dict",data:=.dict #[]}).objs.size=none from this]at e
     cases e
    refine(I6.hok b o e).stay (λc v hc q=>sb.extBut c v ?_ q) (λ_ q=>q) λ_ _ q=>q
    rcases hc with z|z
    ·rw[z];exact hb b o e
    ·exact hb c _ z
   ·intro b hb;obtain⟨_,z1,_,z3,z4,z5⟩:=f3 b hb;exact⟨z3,z1,z4,z5⟩
  ·refine nq (T.item (lR X scope N (f.heap.push { cls:=.type "dict",data:=.dict #[]}).objs.size { f with heap:=f.heap.push { cls:=.type "dict",data:=.dict #[]}} (upd H2 f.heap.objs.size ob) fp) rfl rfl rfl hc i [] s5 M H5 _ I5 (K fr5) st5 go) λr s6 h9=>?_;obtain⟨u,hr,h6⟩:=h9;subst hr;refine aG<|nq h6 λ_ s7 ⟨x,H7,I7,r7,y7,Z,fr7⟩=>?_;have I7':=I7.pinned (K fr7)<|T.obj _ _ Z;refine aG<|Fb (hg _ _ _ fp _ s7 M H7 x u _ I7' r7<|step x H7 y7) λ_ s8 ⟨t,H8,I8,q8⟩=>?_;refine aG<|Fb (ht _ _ _ fp _ s8 t H8 _ I8 q8) λok s9 ⟨H9,I9,q9⟩=>?_;have again:∀{F:aC} {B:Hp},Inv (lR X scope N (f.heap.push { cls:=.type "dict",data:=.dict #[]}).objs.size { f with heap:=f.heap.push { cls:=.type "dict",data:=.dict #[]}} (upd H2 f.heap.objs.size ob) fp) ([]++yL fp s7.heap) t B F->(∃m',m'<n/\W (i+1) m' t B) ->
     ∃m,m<n/\∃i G H',Inv (lR X scope N (f.heap.push { cls:=.type "dict",data:=.dict #[]}).objs.size { f with heap:=f.heap.push { cls:=.type "dict",data:=.dict #[]}} (upd H2 f.heap.objs.size ob) fp) [] G H' F/\tn i F.heap/\(∀b∈fp,H' b=none)/\W i m G H':=λ{F B} L h9=>by
    obtain⟨m',hm,w10⟩:=h9;refine⟨m',hm,i+1,t,B,L.tV,T.keep _ _ _ Z λb hb o e=>(L.pin (b,o)<|bM _<|bM _<|oM hb e).1,λb hb=>?_,w10⟩;obtain⟨o,e,d⟩:=T.obj _ _ Z b hb;exact(L.pin (b,o)<|bM _<|bM _<|oM hb e).2.1
   cases ok with
   | false=>
    rw[aV bw]at q9;exact aM ⟨rfl,again I9 q9⟩
   | true=>
    rw[aW rfl]at q9;refine aG<|aG<|Fb (hk _ _ _ fp _ s9 t H9 _ I9 q9) λy F ⟨v10,B,L,r10,q10⟩=>?_;refine aG<|cY<|Fb (hv _ _ _ fp _ F t B _ L q10) λz s11 ⟨v11,H11,I11,r11,H12,dp,w12⟩=>?_;refine aG<|fX<|cY ?_;exact Lw (X:=lR X scope N _ _ _ fp) hu I11 dp r10 r11 λs12 I12=>aM ⟨rfl,again I12 w12⟩
 exact wB (O _ rfl)<|T.self _ 0 _ _ _ st4<|O _ rfl
def BK{env:Env}(ek ev gens scope pos):eval (.DictComp ek ev gens scope pos) env =
  comprehension (.DictComp ek ev gens scope pos) scope env (firstIterPos gens pos) newDict (firstAsync gens) (firstIter gens env):=rfl
def Y5{ok:Cx->Prop}{X:Cx}{iter ev:aE}{N:ar}{wi:TI}{g:TG}{tc:TT}{tk tv:TE}{ob:HO}(hob:∀{P:aj}{w:ah}{H:Hp}(h:aq),sysModules<h.objs.size->lE P w H (h.push { cls:=.type "dict",data:=.dict #[]}) h.objs.size ob)(hu:X.A.units+1<cLine)(S:CpScope X scope N cap)(hok:∀C s₀ H₀ ex,(∀a o u,X.H₀ a=some (.frz o u)->H₀ a=some (.frz o u))->ok (lR X scope N C s₀ H₀ ex))(hi:PIg ok X tg iter wi)
  (hg:∀C s₀ H₀ ex,PG (lR X scope N C s₀ H₀ ex) tg g) (ht:∀C s₀ H₀ ex,SJ (lR X scope N C s₀ H₀ ex) ifs tc) (hk:∀C s₀ H₀ ex,PE (lR X scope N C s₀ H₀ ex) ek tk) (hv:∀C s₀ H₀ ex,PE (lR X scope N C s₀ H₀ ex) ev tv)
  (hs:(∀x,foldedSetIterable iter X.env x=pure x)<|>ζ):PE X (.DictComp ek ev [⟨tg,iter,ifs,0⟩] scope pos) (tDC ob cap wi g tc tk tv):=by
 gn_on;rw[BK];exact Vo (use:=none) (Q':=EP X pins σ Q) hob hu S hok hi hg ht hk hv hs pins s σ H Q I h λk C D d m hn j inv q v=>⟨m,hn,λh' f=>⟨.ref D,d,inv h' f,rfl,q⟩⟩
def aaW{X:Cx}{iter ev:aE}{N:ar}{wi:TI}{g:TG}{tc:TT}{tk tv:TE}{ob:HO}(hob:∀{P:aj}{w:ah}{H:Hp}(h:aq),sysModules<h.objs.size->lE P w H (h.push { cls:=.type "dict",data:=.dict #[]}) h.objs.size ob)(hu:X.A.units+1<cLine)(hc:X.calm=true)(S:CpScope X scope N cap)(hi:PI X tg iter wi)
  (hg:∀C s₀ H₀ ex,PG (lR X scope N C s₀ H₀ ex) tg g) (ht:∀C s₀ H₀ ex,SJ (lR X scope N C s₀ H₀ ex) ifs tc) (hk:∀C s₀ H₀ ex,PE (lR X scope N C s₀ H₀ ex) ek tk) (hv:∀C s₀ H₀ ex,PE (lR X scope N C s₀ H₀ ex) ev tv)
  (hs:(∀x,foldedSetIterable iter X.env x=pure x)<|>ζ):PE X (.DictComp ek ev [⟨tg,iter,ifs,0⟩] scope pos) (tDC ob cap wi g tc tk tv):=
 Y5 hob hu S (λ_ _ _ _ _=>hc) hi.g hg ht hk hv hs
end L2
namespace Am
open PySem PySem.Spec PyProof.Rows L2
def abJ{α:Type}{c:Prop}[Decidable c]{r:R α}{a:α}(h:gd c r=.ok a S):c/\r=.ok a S:=by
 unfold gd at h;by_cases hc:c
 ·rw[aW hc]at h;exact⟨hc,h⟩
 ·rw[aV hc]at h;cases h
def Rq{α:Type}{l m:List α}{n:Nat}{p:α}(h:l <+: m)(e:l[n]?=some p):m[n]?=some p:=by
 obtain⟨t,rfl⟩:=h;rw[bu (aJ.mp e).1,e]
abbrev zq (st:A->A->A->jV->R Unit)(s:Src)(g:Tg)(t:Te)(ek ev:Ex)(n:Nat):Nat->Nat->ae->jV->R (ae)
 | 0,_=>λτ S=>if s.fin S then .ok τ S else .no
 | k+1,i=>λτ S=>opt (s.get i S) λx=>(g x τ S).nV λd S1=>(t d S1).nV λb S2=>match b with
  | true=>(ek d S2).nV λy S3=>(ev d S3).nV λz j=>(st (.ref n) y z j).nV λ_ f=>zq st s g t ek ev n k (i+1) d f
  | false=>zq st s g t ek ev n k (i+1) d S2
abbrev Wj (o:O)(st:A->A->A->jV->R Unit)(cap:List<|bj)(src:Ic)(g:Tg)(t:Te)(ek ev:Ex):Ex:=λτ S=>(src τ S).bind λs S1=>(zq st s g t ek ev S1.length s.k 0 (l7 cap τ)<|S1++[o]).nV λ_ S2=>.ok (.ref S1.length) S2
def LB{st:A->A->A->jV->R Unit}{s:Src}{g:Tg}{t:Te}{ek ev:Ex}{n k:Nat}{T:Prop}(h:zq st s g t ek ev n (k+1) i τ S=.ok τ' S')
  (q:∀x τ1 S1 b S2,s.get i S=some x->g x τ S=.ok τ1 S1->t τ1 S1=.ok b S2->(b=true->∃y S3 z S4 u S5,ek τ1 S2=.ok y S3/\ev τ1 S3=.ok z S4/\st (.ref n) y z S4=.ok u S5/\zq st s g t ek ev n k (i+1) τ1 S5=.ok τ' S')->(b=false->zq st s g t ek ev n k (i+1) τ1 S2=.ok τ' S')->T):T:=by
 obtain⟨x,f,h⟩:=DE h;obtain⟨τ1,S1,h1,h⟩:=o8 h;obtain⟨b,S2,h2,h⟩:=o8 h;refine q x τ1 S1 b S2 f h1 h2 (λhb=>?_) λhb=>?_
 ·subst hb;obtain⟨y,S3,h3,h⟩:=o8 h;obtain⟨z,S4,d,h⟩:=o8 h;obtain⟨u,S5,j,h⟩:=o8 h;exact⟨y,S3,z,S4,u,S5,h3,d,j,h⟩
 ·subst hb;exact h
structure DKind (K:au)(o:O)(ob:HO)(st:A->A->A->jV->R Unit):Prop where
 obj:∀{P:aj} {w:ah} {H:Hp} (h:aq),sysModules<h.objs.size->lE P w H (h.push { cls:=.type "dict",data:=.dict #[]}) h.objs.size ob
 new:∀{ρ:bb} {H:Hp} {S:jV} {p:ak},Rel K ρ H S->H p=none->Ext ρ (ρ++[p]) H (upd H p ob)/\Rel K (ρ++[p]) (upd H p ob) (S++[o])/\(ρ++[p])[S.length]?=some p
 put:∀{ρ:bb} {H:Hp} {S S':jV} {n:Nat} {p:ak} {y z:A} {vy vz:V} {u:Unit},Rel K ρ H S->ρ[n]?=some p->AV K ρ H y vy->AV K ρ H z vz->st (.ref n) y z S=.ok u S'->∃H',yu H p vy vz H'/\Ext ρ ρ H H'/\Rel K ρ H' S'
def Wl{K:au}:DKind K (.dct []) (.dT []) qP:=by
 refine⟨λh hb=>Bk h hb,λR f=>R.aan (xs:=[]) (vs:=[]) f trivial,λ{ρ H S S' n p y z vy vz u} R f ay az h=>?_⟩;unfold qP at h
 cases ay with
 | @tup q xs vs hq r=>
  obtain⟨kvs,hn,h⟩:=DE h;obtain⟨ns,g,h⟩:=DE h;obtain⟨j,h⟩:=abJ h
  cases h
  obtain⟨ks,e,d⟩:=R.dct f<|mC hn;have z:=qX r g;subst z;rw[<- v8]at hq;obtain⟨ex,k⟩:=R.putD f (mC hn)<|d.put az ns;exact⟨_,yu.t e hq<|by rw[<- d.length];exact j,ex,k⟩
 | _=>cases h
section
variable {X:Cx}{pos:Pos}{tg iter ek ev:aE}{ifs:List aE}{scope:Scope}{N:ar}{cap:List (bj)}{src:Ic}{g:Tg}{t:Te}{ck cv:Ex}{o:O}{ob:HO}{st:A->A->A->jV->R Unit}
def ZE(dk:DKind X.K o ob st)(σ:L2.St)(H:Hp)(Q:VK)(h:tE X (Wj o st cap src g t ck cv) σ H Q):tDC ob cap (tI X src) (tG0 X.K g) (Zn X.K t) (Wb X.K ck) (Wb X.K cv) σ H Q:=by
 f_are;refine⟨ρ,S,τ,R,r,jX (j5 h) .refl λs S1 h1 ρ1 H1 J e1 R1 jr D hD=>?_⟩;obtain⟨G,S2,Z,h1⟩:=Ao h1;have h1:zN X ρ H Q (.ref S1.length) S2:=h1;obtain⟨eD,RD,B⟩:=dk.new R1 hD;refine⟨λi m σ' H'=>∃ρ' S' p,i+m=s.k/\Ext (ρ1++[D]) ρ' (upd H1 D ob) H'/\Rel X.K ρ' H' S'/\SR X.K ρ' H' p σ'/\zq st s g t ck cv S1.length m i p S'=.ok G S2,⟨s.k,ρ1++[D],S1++[o],l7 cap τ,(),.refl,RD,Wv ((r.ext e1).ext eD) cap,Z⟩,?_⟩;rintro i m σ3 H3 ⟨ρ3,S3,M,hm,e3,R3,r3,d⟩;have U:ρ3[S1.length]?=some D:=Rq e3.pre B;have j:=eD.trans e3
 cases m with
 | zero=>
  left;have d:(if s.fin S3 then Am.R.ok M S3 else .no)=.ok G S2:=d
  cases hf:s.fin S3 with
  | false=>rw[hf]at d;cases d
  | true=>
   rw[hf]at d
   cases d
   exact⟨by rw[show i=s.k by lia];exact jr.stop _ H3 ρ3 j.toExt0 R3 hf,h1 ρ3 H3 _ (e1.trans j) R3<|.ref U⟩
 | succ m=>
  right;refine LB d λx f S4 b S5 hx hg4 Y hT hF=>?_;have jg:=jr.go i S3 H3 ρ3 x j.toExt0 R3 hx;refine⟨jg.1,λv H4 y=>?_⟩;obtain⟨e4,R4,v4⟩:=jg.2 v H4 y;refine⟨ρ3,S3,M,x,f,S4,R4,r3.ext e4,v4,hg4,λV H5 σ5 e5 R5 N=>⟨V,S4,f,b,S5,R5,N,Y,λF H6 q R6=>?_⟩⟩;have C:=(e4.trans e5).trans q
  cases b with
  | false=>
   dsimp only;rw[aV bw];exact⟨m,dI _,F,S5,f,(),e3.trans C,R6,N.ext q,hF rfl⟩
  | true=>
   dsimp only;rw[aW rfl];obtain⟨y,S6,z,S7,u,S8,hy,hz,hs,O⟩:=hT rfl;refine⟨F,S5,f,y,S6,R6,N.ext q,hy,λW H7 vy P R7 a7=>⟨W,S6,f,z,S7,R7,N.ext<|q.trans P,hz,λρ8 H8 vz T R8 a8=>?_⟩⟩;have L:=(C.trans P).trans T;obtain⟨H9,dp,e9,R9⟩:=dk.put R8 (Rq (e3.trans L).pre B) (a7.ext T) a8 hs;exact⟨H9,dp,m,dI _,ρ8,S8,f,(),(e3.trans L).trans e9,R9,N.ext<|((q.trans P).trans T).trans e9,O⟩
def WI(dk:∀K,DKind K o ob st)(hu:X.A.units+64<cLine)(hc:X.calm=true)(Sc:CpScope X scope N cap)(hi:AI X tg iter src)(hg:∀C s₀ H₀ ex,AG (lR X scope N C s₀ H₀ ex) tg g)(ht:∀C s₀ H₀ ex,ATs (lR X scope N C s₀ H₀ ex) ifs t)(hk:∀C s₀ H₀ ex,AE (lR X scope N C s₀ H₀ ex) ek ck)(hv:∀C s₀ H₀ ex,AE (lR X scope N C s₀ H₀ ex) ev cv)
  (hs:(∀x,foldedSetIterable iter X.env x=pure x)<|>ζ):AE X (.DictComp ek ev [⟨tg,iter,ifs,0⟩] scope pos) (Wj o st cap src g t ck cv):=
 PE.imp (aaW (dk X.K).obj () hc Sc hi (g:=tG0 X.K g) (tc:=Zn X.K t) (tk:=Wb X.K ck) (tv:=Wb X.K cv) (λC s₀ H₀ ex=>(hg C s₀ H₀ ex).g0 rfl) (λC s₀ H₀ ex=>ht C s₀ H₀ ex) (λC s₀ H₀ ex=>(hk C s₀ H₀ ex).e0 rfl) (λC s₀ H₀ ex=>(hv C s₀ H₀ ex).e0 rfl) hs) (ZE<|dk X.K)
end
end Am
namespace L2
open PySem PySem.Spec PyProof.Rows
section
variable {X:Cx}{pins:bn}{σ:St}{H:Hp}{s:aC}{a:ak}{xs:List (ni×ak×af)}
def V2{r:ak}{x:ag}(I:Inv X pins σ H s)(h:H r=some (.tup<|x.map V.int)):TK s.heap x r:=by
 obtain⟨_,d,f,o,h1,h2,_,n,h3⟩:=(show lE _ _ H s.heap r (.tup<|x.map V.int)from I.hok r _ h);exact⟨o,d.toArray,n,h1,h2,h3,by simpa using intsAre_of f⟩
def D_{k:ni}(I:Inv X pins σ H s)(h:tY H b k):wm s.heap k b:=by
 obtain⟨r1,r2,h1,h2,h3⟩:=h;obtain⟨_,f,d,o,e1,e2,_,n,e3⟩:=(show lE _ _ H s.heap b (.tup [.ref r1,.ref r2])from I.hok b _ h1);obtain⟨p,q,rfl,g,j⟩:=vals2 d
 cases g
 cases j
 exact⟨o,n,r1,r2,e1,e2,e3,V2 I h2,V2 I h3⟩
def VP(I:Inv X pins σ H s)(e:H a=some (.ext<|xw a xs))(hk:∀x∈xs,tY H x.2.1 x.1):(a == sysModules)=false/\xs.length<=sizeLine/\s.heap.DictOfH (EY X.prog X.w) a xs:=by
 obtain⟨⟨h1,h2,o,es,ep,h3,d,k,f,j⟩,_⟩:=(show lE _ _ H s.heap a (.ext<|xw a xs)from I.hok a _ e);exact⟨h1,h2,o,es,ep,h3,d,k,f,λx g=>D_ I<|hk x g,j⟩
def PD{P:aj}{w:ah}{H':Hp}{h':aq}(h1:(a == sysModules)=false)(h2:xs.length<=sizeLine)(dd:h'.DictOfH (EY P w) a xs):lE P w H' h' a (.ext<|xw a xs):=by
 obtain⟨o,es,ep,h3,d,p,f,_,g⟩:=dd;refine⟨⟨h1,h2,o,es,ep,h3,d,p,f,g⟩,⟨o,h3⟩,λD C j k=>?_⟩;obtain⟨B,t,o,es,ep,h3,q⟩:=j;exact⟨B,t,o,es,ep,k o h3,q⟩
structure DPg (H:Hp)(a b:ak)(xs:List (ni×ak×af))(k:ni):Prop where
 d:H a=some (.ext<|xw a xs)
 ks:∀x∈xs,tY H x.2.1 x.1
 k:tY H b k
def Yv(hu:X.A.units+32<cLine):oR X (compareOp .In) (λy x H Q=>∃a b xs k,x=.ref a/\y=.ref b/\DPg H a b xs k/\Q (.bl (atKey xs k).isSome) H):=by
 intro pins s σ H y x v u Q I ry rx h;obtain⟨a,b,xs,k,rfl,rfl,g,q⟩:=h
 cases rx
 cases ry
 obtain⟨h1,h2,f⟩:=VP I g.d g.ks;exact wpAny_in_heap (show X.A.in1.units+16<cLine by simp;lia) (D_ I g.k) h1 f ⟨.bl _,H,I.tok _,rfl,q⟩
def FL{xs:List<|ni×ak×af}{k:ni}:(storedH xs k b u).length<=xs.length+1:=by
 unfold storedH;split
 ·rw[aH];lia
 ·rw[bh];exact aN _
def Z8(hu:X.A.units+32<cLine):C1 X (λo i v H Q=>∃a b xs k,o=.ref a/\i=.ref b/\DPg H a b xs k/\xs.length<sizeLine/\∀u,RelV v u->Q (upd H a<|.ext<|xw a<|storedH xs k b u)):=by
 intro pins s σ H o i v F iv u Q I j B C h;obtain⟨a,b,xs,k,rfl,rfl,g,t,q⟩:=h
 cases j
 cases B
 obtain⟨h1,h2,p⟩:=VP I g.d g.ks;refine wpAny_setItem_heap (hsz:=h2) (show X.A.in1.units+16<cLine by simp;omega) (D_ I g.k) p λh' f hs=>⟨_,?_,q u C⟩;have D:∃q,h'.get? a=some q:=let⟨q,_,_,hq,_⟩:=f;⟨q,hq⟩
 exact t_ I (by rw[g.d];exact True.intro) hs D<|PD h1 (bK FL t) f
abbrev XX:TE:=λ_ H Q=>∀p,H p=none->Q (.ref p) (upd H p<|.ext<|xw p [])
def NG:PE X (.Dict [] [] pos) XX:=λpins s σ H Q I h=>
 wpAny_Dict_empty ⟨.ref s.heap.objs.size,_,I.laid (a:=s.heap.objs.size) (o:=.ext<|xw s.heap.objs.size []) (t':=s.toks) (λ_ _ q=>aQ _ q) (aN _)
  (PD (c5.mpr<|cO<|bD I.big) (bF _) ⟨_,#[],0,br _ rfl,⟨rfl,rfl,rfl⟩,rfl,rfl,(nofun),dc⟩),rfl,h _<|I.hok.fresh<|aN _⟩
end
end L2
namespace Am
open PySem PySem.Spec PyProof.Rows L2
abbrev qL (S:jV)(n:Nat):Option (List<|ni×A):=match S[n]? with
 | some (.u0 xs)=>some xs
 | _=>none
def qo{n:Nat}(h:qL S n=some xs):S[n]?=some (.u0 xs):=by
 unfold qL at h;split at h
 ·rename_i e;cases h;exact e
 ·cases h
def Bc{S:jV}{n:Nat}(h:S[n]?=some (.u0 xs)):qL S n=some xs:=by
 unfold qL;rw[h]
abbrev sy (kvs:List<|ni×A)(k:ni):Option A:=(kvs.find? λkv=>decide<|kv.1=k).map (·.2)
abbrev zp (kvs:List<|ni×A)(k:ni)(v:A):List (ni×A):=
 if (sy kvs k).isSome=true then kvs.map (λkv=>if kv.1=k then(kv.1,v)else kv)else kvs++[(k,v)]
abbrev F1 (x:A):Option ni:=match x with
 | .tup [.tup xs,.tup ys]=>(A.ints xs).bind λns=>(A.ints ys).map λd=>(ns,d)
 | _=>none
section
variable {K:au}{ρ:bb}{H:Hp}
def MP{p:ni×A}{r:List<|ni×A}{k:ni}(e:p.1=k):sy (p::r) k=some p.2:=by simp[sy,bU,e]
def LM{p:ni×A}{r:List<|ni×A}{k:ni}(e:¬p.1=k):sy (p::r) k=sy r k:=by simp[sy,bU,e]
theorem DP.look:∀{kvs:List<|ni×A}{ks:List<|ni×ak×af}(k:ni),DP K ρ H kvs ks->(sy kvs k).isSome=(atKey ks k).isSome/\∀x,sy kvs k=some x->∃p v,atKey ks k=some p/\RelV v p.2/\AV K ρ H x v
 | [],[],k,_=>⟨rfl,λx h=>nomatch h⟩
 | p::r,q::r',k,⟨⟨e,_,v,rv,a⟩,t⟩=>by
  by_cases c:p.1=k
  ·have d:q.1=k:=by rw[e,c]
   have b:atKey (q::r') k=some q.2:=by simp[atKey,bU,d]
   rw[MP c,b];exact⟨rfl,λx h=>by cases h;exact⟨_,v,rfl,rv,a⟩⟩
  ·have d:¬q.1=k:=λz=>c<|e.symm.trans z;have b:atKey (q::r') k=atKey r' k:=by simp[atKey,bU,d]
   rw[LM c,b];exact DP.look k t
theorem DP.repl{x:A}{v:V}(h:AV K ρ H x v)(rv:RelV v u)(k:ni):∀{kvs:List<|ni×A}{ks:List<|ni×ak×af},DP K ρ H kvs ks->DP K ρ H (kvs.map λkv=>if kv.1=k then(kv.1,x)else kv) (ks.map<|putAt k u)
 | [],[],_=>trivial
 | p::r,q::r',⟨⟨e,ka,z⟩,t⟩=>by
  refine⟨?_,DP.repl h rv k t⟩;dsimp only;unfold putAt;by_cases c:p.1=k
  ·rw[aW c,aW<|by rw[e,c]];exact⟨e,ka,v,rv,h⟩
  ·rw[aV c,aV λz=>c<|e.symm.trans z];exact⟨e,ka,z⟩
theorem DP.snoc{x:A}{v:V}(h:AV K ρ H x v)(rv:RelV v u)(k:ni)(hk:tY H b k):∀{kvs:List<|ni×A}{ks:List<|ni×ak×af},DP K ρ H kvs ks->DP K ρ H (kvs++[(k,x)]) (ks++[(k,b,u)])
 | [],[],_=>⟨⟨rfl,hk,v,rv,h⟩,trivial⟩
 | p::r,q::r',⟨a,t⟩=>⟨a,DP.snoc h rv k hk t⟩
def DP.put{x:A}{v:V}(h:AV K ρ H x v)(rv:RelV v u)(k:ni)(hk:tY H b k){ks:List<|ni×ak×af}(d:DP K ρ H kvs ks):DP K ρ H (zp kvs k x) (storedH ks k b u):=by
 unfold zp storedH;rw[<- (d.look k).1];by_cases c:(sy kvs k).isSome=true
 ·rw[aW c,aW c];exact DP.repl h rv k d
 ·rw[aV c,aV c];exact DP.snoc h rv k hk d
def DP.length:∀{kvs:List<|ni×A}{ks:List<|ni×ak×af},DP K ρ H kvs ks->kvs.length=ks.length
 | [],[],_=>rfl
 | _::_,_::_,⟨_,t⟩=>cV (·+1) t.length
def DP.keys:∀{kvs:List<|ni×A}{ks:List<|ni×ak×af},DP K ρ H kvs ks->∀x∈ks,tY H x.2.1 x.1
 | [],[],_,x,h=>nomatch h
 | _::_,q::_,⟨⟨_,ka,_⟩,t⟩,x,h=>by
  rcases bG.mp h with z|z
  ·rw[z];exact ka
  ·exact t.keys x z
def Rel.u0{n:Nat}{a:ak}(R:Rel K ρ H S)(ha:ρ[n]?=some a)(hS:S[n]?=some (.u0 xs)):∃vs,H a=some (.ext<|xw a vs)/\DP K ρ H xs vs:=R.at n a _ ha hS
def Rel.adx{S:jV}{p:ak}(R:Rel K ρ H S)(hp:H p=none):Ext ρ (ρ++[p]) H (upd H p<|.ext<|xw p [])/\Rel K (ρ++[p]) (upd H p<|.ext<|xw p []) (S++[.u0 []])/\(ρ++[p])[S.length]?=some p:=by
 have ex:Ext ρ (ρ++[p]) H (upd H p<|.ext<|xw p []):=⟨⟨dG _ _,λa u _ h=>by rw[jZ<|kg h hp];exact h⟩,λa u h _=>by rw[jZ<|kg h hp];exact h,λa h=>by
  rcases bH.mp h with z|z
  ·exact .inl z
  ·have e:a=p:=by simpa using z
   rw[e];exact .inr hp⟩
 have j:p∉ρ:=R.BZ hp;have d:(ρ++[p])[S.length]?=some p:=by rw[<- R.len];simp
 refine⟨ex,⟨by simp[R.len],?_,?_⟩,d⟩
 ·rw[b_];kln_w;have:b=p:=by simpa using hb
  exact j<|by rw[<- this,<- e];exact ha
 ·intro n a o h1 h2;by_cases hn:n<S.length
  ·rw[bu<|by rw[R.len];exact hn]at h1;rw[bu hn]at h2;have na:a≠p:=λz=>j (by rw[<- z];exact aZ h1);have:=R.at n a o h1 h2
   cases o with
   | lst ys=>obtain⟨f,e,q⟩:=this;exact⟨f,by rw[jZ na];exact e,q.ext ex⟩
   | dct _|qv _|uY _|u0 _=>obtain⟨f,e,q⟩:=this;exact⟨f,by rw[jZ na];exact e,q.ext ex⟩
   | dcf _=>obtain⟨g,f,e,q⟩:=this;exact⟨g,f,by rw[jZ na];exact e,q.ext ex⟩
   | ins _ _=>obtain⟨g,k,e⟩:=this;exact⟨g,k,by rw[jZ na];exact e⟩
  ·have e:n=S.length:=by
    have:=(aJ.mp h2).1;simp at this
    lia
   subst e;rw[d]at h1
   cases h1
   simp at h2;subst h2;exact⟨[],kK,trivial⟩
def Rel.zp{S:jV}{n:Nat}{a:ak}(R:Rel K ρ H S)(ha:ρ[n]?=some a)(hS:S[n]?=some (.u0 xs))(r:DP K ρ H ys ws):Ext ρ ρ H (upd H a<|.ext<|xw a ws)/\Rel K ρ (upd H a<|.ext<|xw a ws) (S.set n<|.u0 ys):=by
 obtain⟨t,e,_⟩:=R.at n a _ ha hS;have ex:Ext ρ ρ H (upd H a<|.ext<|xw a ws):=⟨⟨dO _,λb u i h=>by
  have:b≠a:=by
   intro z;subst z;rw[e]at h;cases h;exact i
  rw[jZ this];exact h⟩,λb u h n=>by
  rw[jZ λz=>n<|by rw[z];exact aZ ha];exact h,λ_ h=>.inl h⟩
 refine⟨ex,by rw[bX];exact R.len,R.nd,λm b o h1 h2=>?_⟩;by_cases j:m=n
 ·subst j;rw[ha]at h1;cases h1;rw[bA (aJ.mp hS).1]at h2
  cases h2
  exact⟨ws,kK,r.ext ex⟩
 ·rw[bJ<|cO j]at h2;have nb:b≠a:=λz=>by
   subst z;obtain⟨p,e1⟩:=aJ.mp ha;obtain⟨B,e2⟩:=aJ.mp h1;exact j<|(cG R.nd).mp<|e2.trans e1.symm
  have:=R.at m b o h1 h2
  cases o with
  | lst ys=>obtain⟨d,f,q⟩:=this;exact⟨d,by rw[jZ nb];exact f,q.ext ex⟩
  | dct _|qv _|uY _|u0 _=>obtain⟨d,f,q⟩:=this;exact⟨d,by rw[jZ nb];exact f,q.ext ex⟩
  | dcf _=>obtain⟨g,d,f,q⟩:=this;exact⟨g,d,by rw[jZ nb];exact f,q.ext ex⟩
  | ins _ _=>obtain⟨g,k,f⟩:=this;exact⟨g,k,by rw[jZ nb];exact f⟩
def IZ{x:A}{v:V}{k:ni}(a:AV K ρ H x v)(h:F1 x=some k):∃b,v=.ref b/\tY H b k:=by
 unfold F1 at h;split at h
 ·rename_i xs ys;obtain⟨ns,h1,h⟩:=bN.mp h;obtain⟨C,h2,e⟩:=aP.mp h;subst e
  cases a with
  | @tup b _ B hb r=>
   obtain⟨t,D,rfl,f,d⟩:=P8 r
   cases f with
   | @tup c1 _ g p r1=>
    cases d with
    | @tup c2 _ q j r2=>
     have e1:=qX r1 h1;have e2:=qX r2 h2;subst e1 e2;exact⟨b,rfl,c1,c2,hb,p,j⟩
 ·cases h
end
section
variable {X:Cx}{pos:Pos}{a b:aE}
abbrev Bx (neg:Bool)(x y:A)(S:jV):R A:=match y with
 | .ref n=>opt (qL S n) λkvs=>opt (F1 x) λk=>.ok (.bl<|if neg then !(sy kvs k).isSome else(sy kvs k).isSome) S
 | _=>.no
def ace(hu:X.A.units+64<cLine):oR X (compareOp .In) (r2 X<|Bx false):=λpins s σ H x y v u Q I rx ry h9=>by
 x_go
 cases vb with
 | @ref p n g=>
  o_rec;obtain⟨k,f,h⟩:=jY h;obtain⟨ks,e,d⟩:=R.u0 g<|qo hn;obtain⟨q,rfl,j⟩:=IZ va f;exact Yv () pins s σ H _ _ v u Q I rx ry ⟨p,q,ks,k,rfl,rfl,⟨e,d.keys,j⟩,by rw[<- (d.look k).1];exact h _ _ _ .refl R<|.bl _⟩
 | _=>exact h.elim
abbrev EL (o i v:A)(S:jV):R Unit:=match o with
 | .ref n=>opt (qL S n) λkvs=>opt (F1 i) λk=>gd (kvs.length<sizeLine) (.ok Unit.unit<|S.set n<|.u0<|zp kvs k v)
 | _=>.no
abbrev adA (X:Cx):EE:=λo i v H Q=>∃ρ S ao f d,Rel X.K ρ H S/\AV X.K ρ H ao o/\AV X.K ρ H f i/\AV X.K ρ H d v/\(EL ao f d S).post (λ_ g=>∀ρ' H',Ext ρ ρ' H H'->Rel X.K ρ' H' g->Q H') (XE X ρ H)
def UO(hu:X.A.units+64<cLine):C1 X (adA X):=λpins s σ H o i v B iv u Q I t D G h9=>by
 obtain⟨ρ,S,ao,M,L,R,h1,h2,h3,h⟩:=h9
 cases h1 with
 | @ref p n f=>
  o_rec;obtain⟨k,j,h⟩:=jY h;obtain⟨C,h⟩:=kB h;obtain⟨ks,e,d⟩:=R.u0 f<|qo hn;obtain⟨q,rfl,g⟩:=IZ h2 j;refine Z8 (by omega) pins s σ H _ _ v B iv u Q I t D G ⟨p,q,ks,k,rfl,rfl,⟨e,d.keys,g⟩,by rw[<- d.length];exact C,λK J=>?_⟩;obtain⟨ex,F⟩:=R.zp f (qo hn)<|d.put h3 J k g;exact h _ _ ex F
 | _=>exact h.elim
abbrev UY (co ci:Ex):Tg:=λa τ S=>(co τ S).bind λo S1=>(ci τ S1).bind λi S2=>(EL o i a S2).bind λ_ S3=>.ok τ S3
def J3(hu:X.A.units+64<cLine){co ci:Ex}(ho:AE X o co)(hi:AE X i ci)
  (ha:(∀v,assign (.Subscript o i pos) X.env v=(do
   let ov <- holding [v] (eval o X.env)
   let iv <- holding [v,ov] (eval i X.env)
   standAt pos
   holding [v,ov,iv] (setItem ov iv v)
   release [v,ov,iv] []))<|>ζ):AG X (.Subscript o i pos) (UY co ci):=PG.imp (A5 ho hi (UO hu) ha) λv σ H Q h9=>by
 obtain⟨ρ,S,τ,a,R,r,va,h⟩:=h9;w_up;k_ne;kpc_g
abbrev HV:Ex:=λ_ S=>.ok (.ref S.length)<|S++[.u0 []]
def OL:AE X (.Dict [] [] pos) HV:=PE.imp NG λσ H Q ⟨ρ,S,τ,R,r,h⟩ p d=>by
 obtain⟨ex,f,g⟩:=R.adx d;exact h _ _ _ ex f<|.ref g
end
abbrev GQ {α:Type}(x:ag×α):List (ag×α)->List (ag×α)
 | []=>[x]
 | y::ys=>if HT.lexLt y.1 x.1=true then y::GQ x ys else x::y::ys
abbrev Az {α:Type}:List (ag×α)->List (ag×α)
 | []=>[]
 | x::xs=>GQ x<|Az xs
section
variable {α:Type}
theorem B4(x:ag×α):∀ys:List<|ag×α,(GQ x ys).Perm (x::ys)
 | []=>eZ _
 | y::ys=>by
  unfold GQ;by_cases h:HT.lexLt y.1 x.1=true
  ·rw[aW h];exact((B4 x ys).cons y).trans (List.Perm.swap x y ys)
  ·rw[aV h]
theorem wR:∀xs:List<|ag×α,(Az xs).Perm xs
 | []=>eZ _
 | x::xs=>(B4 x<|Az xs).trans<|(wR xs).cons x
theorem Fj(x:ag×α):∀ys:List<|ag×α,(GQ x ys).map Prod.fst=DC x.1 (ys.map Prod.fst)
 | []=>rfl
 | y::ys=>by
  unfold GQ;rw[bC];unfold DC;by_cases h:HT.lexLt y.1 x.1=true
  ·rw[aW h,aW h,bC,Fj]
  ·rw[aV h,aV h];rfl
theorem B5:∀xs:List<|ag×α,(Az xs).map Prod.fst=kQ (xs.map Prod.fst)
 | []=>rfl
 | x::xs=>by
  show(GQ x<|Az xs).map Prod.fst=DC x.1 (kQ<|xs.map Prod.fst);rw[Fj,B5]
theorem DJ:∀{l:List<|ag×α},(l.map Prod.fst).Nodup->∀a∈l,∀b∈l,a.1=b.1->a=b
 | [],_,_,h,_,_,_=>nomatch h
 | x::l,nd,a,ha,b,hb,e=>by
  obtain⟨h1,h2⟩:=bT.mp nd
  rcases bG.mp ha with j|f
  ·rcases bG.mp hb with g|d
   ·rw[j,g]
   ·subst j;exact absurd (e ▸ cL d) h1
  ·rcases bG.mp hb with g|d
   ·subst g;exact absurd (e ▸ cL f) h1
   ·exact DJ h2 a f b d e
def GS{xs ys:List<|ag×α}(nd:(ys.map Prod.fst).Nodup)(p:xs.Perm ys)(h:(xs.map Prod.fst).Pairwise CL):xs=Az ys:=by
 refine dZ (le:=λ(a b:ag×α)=>CL a.1 b.1) (λ(a b:ag×α) ha hb h1 h2=>DJ nd a (p.mem_iff.mp ha) b ((wR ys).mem_iff.mp hb) (Sx.yh (show HT.lexLt b.1 a.1=false from h1)<|show HT.lexLt a.1 b.1=false from h2).symm) ?_ ?_ (p.trans (wR ys).symm)
 ·exact cI.mp h
 ·have:=vR<|ys.map Prod.fst;rw[<- B5]at this;exact cI.mp this
end
end Am
namespace L2
open PySem PySem.Spec PyProof.Rows
section
variable {X:Cx}
def Xr{H:Hp}{s:aC}{d:ak}{kvs:List<|List Key×V}(I:Inv X pins σ H s)(ed:Rd H d<|.dT kvs) :
  ∃(ob:Obj) (es:Array DictEntry) (ep:Nat) (rs:bb),s.heap.get? d=some ob/\ob.cls=.type "dict" /\ ob.data=.dict es ep/\(d == sysModules)=false/\kvs.length<=sizeLine/\rs.length=kvs.length/\es.size=kvs.length /\
   (∀i:Nat,(es[i]?).map (λe:DictEntry=>e.key)=(rs[i]?).map Value.ref)/\∀(i:Nat) r p,rs[i]?=some r->kvs[i]?=some p->H r=some (.tup<|p.1.map kV):=by
 obtain⟨z,D,xs,g,q⟩:=Bg I.hok ed;obtain⟨ob,es,ep,C,B,F,k,K,J⟩:=id q;obtain⟨j,t⟩:=kt_at g;have f:es.size=xs.length:=by have:=cV List.length k;simpa using this
 refine⟨ob,es,ep,xs.map λy=>y.2.1,C,B.1,F,D,z,by rw[aH,j],by rw[f,j],λi=>?_,λi r p e1 e2=>?_⟩
 ·rw[<- cE,k,aR,aR,dS,dS]
  cases xs[i]?<;>rfl
 ·obtain⟨y,h1,h2,h3,G⟩:=t i p e2;rw[aR,h1]at e1
  cases e1
  exact h3
def CM(hc:X.calm=true):kM X (.builtin "sorted") (λxs H Q=>∃(d:ak) (kvs:List<|List Key×V) (kss:List<|ag),xs=[.ref d]/\Rd H d (.dT kvs)/\kvs.map (λp=>p.1)=kss.map (λks=>ks.map Sum.inl)/\(∀ks∈kss,ks≠[])/\Sx.RO kss.length /\
  ∀(rs:bb) l g,rs.length=kss.length->(∀(i:Nat) (r:ak) (ks:ag),rs[i]?=some r->kss[i]?=some ks->H r=some (.tup<|ks.map V.int))->H l=none->Sx.Cl g 0 kss.length->Sx.So (Sx.uv kss) g 0 kss.length ->
   Q (.ref l) (upd H l<|.lst<|((List.range kss.length).map λi=>rs.getD (g i) 0).map V.ref)):=by
 kt_k;obtain⟨d,kvs,kss,rfl,U,ek,B,J,q⟩:=h;kcf_m
 cases rx
 obtain⟨ob,es,ep,rs,P,N,W,O,D,k,G,K,M⟩:=Xr I U;have t:kvs.length=kss.length:=by have:=cV List.length ek;simpa using this
 have C:∀(i:Nat) (r:ak) (ks:ag),rs[i]?=some r->kss[i]?=some ks->H r=some (.tup<|ks.map V.int):=λi r ks e1 e2=>by
  have lt:i<kvs.length:=by rw[t];exact(aJ.mp e2).1
  have h1:=M i r kvs[i] e1 (aI lt);have h2:(kvs.map λp=>p.1)[i]?=(kss.map λks=>ks.map Sum.inl)[i]?:=by rw[ek]
  rw[aR,aR,e2,aI lt]at h2;have h3:kvs[i].1=ks.map Sum.inl:=bg h2;rw[h3,aY]at h1;exact h1
 refine dw iV iz iA (iB _) ?_;unfold Builtin.«sorted»;kl_no;refine aG (gD (IV O N W) (show X.A.in1.handled=none from I.ok.hd hc) P (by rw[G];exact D) λh' T acc F f=>?_);have L:acc.toList=rs.map Value.ref:=by
  refine dR λj=>?_;rw[cE,aR,<- K j]
  cases e:acc[j]? with
  | some v=>exact(f.2 j v e).symm
  | none=>
   have:acc.size<=j:=gh.mp e;rw[dQ<|by rw[<- f.1];exact this];rfl
 rw[L];exact yr (s:=s) (I.kept (t':=T) F) J (by rw[k,t]) (by rw[k];exact D) (λi r ks e1 e2=>⟨nh.of<|C i r ks e1 e2,B ks<|aZ e2⟩) λl g h1 h2 h3=>q rs l g (by rw[k,t]) C h1 h2 h3
end
end L2
namespace Am
open PySem PySem.Spec PyProof.Rows L2
section
variable {X:Cx}{pos:Pos}{a b:aE}
abbrev mj (S:jV)(n:Nat):Option (List<|ag×A):=match S[n]? with
 | some (.dct kvs)=>some kvs
 | some (.dcf kvs)=>some kvs
 | _=>none
def Lh{K:au}{H:Hp}{n:Nat}{p:ak}(R:Rel K ρ H S)(hp:ρ[n]?=some p)(hn:mj S n=some kvs):∃ks,Rd H p (.dT ks)/\DV K ρ H kvs ks:=by
 unfold mj at hn;split at hn
 ·rename_i h
  cases hn
  obtain⟨ks,e,d⟩:=R.at n p _ hp h;exact⟨ks,.inl e,d⟩
 ·rename_i h
  cases hn
  obtain⟨o,ks,e,d⟩:=R.at n p _ hp h;exact⟨ks,.inr ⟨o,e⟩,d⟩
 ·cases hn
def F6{H:Hp}{p q:ak}{n:Nat}{ns:ag}(R:Rel X.K ρ H S)(hp:ρ[n]?=some p)(hn:mj S n=some kvs)(hq:H q=some (.tup vs))(r:AVs X.K ρ H xs vs)(hi:A.ints xs=some ns) :
  ∃ks,DV X.K ρ H kvs ks/\uH H p (.ref q) (pV ks<|ns.map Sum.inl):=by
 obtain⟨ks,e,d⟩:=Lh R hp hn;have z:=qX r hi;subst z;rw[<- v8]at hq;exact⟨ks,d,.inr ⟨ks,ns.map Sum.inl,q,e,rfl,hq,rfl⟩⟩
abbrev Q5 (x y:A)(S:jV):R A:=match x,y with
 | .ref n,.tup xs=>opt (mj S n) λkvs=>opt (A.ints xs) λns=>opt (lC kvs ns) λv=>.ok v S
 | _,_=>.no
def aas(hu:X.A.units+64<cLine):UA X (r2 X Q5):=λf j pins s σ H x y v u Q I rx ry ⟨ρ,S,a,b,R,va,vb,h⟩ hs=>by
 cases va with
 | @ref p n B=>
  cases vb with
  | @tup q xs D hq r=>
   o_rec;obtain⟨ns,k,h⟩:=jY h;obtain⟨z,C,h⟩:=jY h;obtain⟨ks,d,g⟩:=F6 R B hn hq r k;obtain⟨w,hw,t⟩:=(d.look ns).2 z C;rw[hw]at g;exact Dv () f j pins s σ H _ _ v u Q I rx ry ⟨p,w,rfl,g,h _ _ _ .refl R t⟩ hs
  | _=>exact h.elim
 | _=>exact h.elim
def Xf(hu:X.A.units+64<cLine){ca cb:Ex}(ha:AE X a ca)(hb:AE X b cb)(hs:xN b<|>θ):AE X (.Subscript a b pos) (j6 Q5 ca cb):=PE.imp (Jj (aas hu) ha hb hs) λσ H Q h=>uQ h
abbrev Mt (neg:Bool)(x y:A)(S:jV):R A:=match x,y with
 | .tup xs,.ref n=>opt (mj S n) λkvs=>opt (A.ints xs) λns=>.ok (.bl<|if neg then !(lC kvs ns).isSome else(lC kvs ns).isSome) S
 | _,_=>.no
def acd(hu:X.A.units+64<cLine):oR X (compareOp .In) (r2 X<|Mt false):=λpins s σ H x y v u Q I rx ry h9=>by
 x_go
 cases va with
 | @tup q xs k hq r=>
  cases vb with
  | @ref p n j=>
   o_rec;obtain⟨ns,f,h⟩:=jY h;obtain⟨ks,d,g⟩:=F6 R j hn hq r f;exact ZI () pins s σ H _ _ v u Q I rx ry ⟨p,_,rfl,g,by rw[<- (d.look ns).1];exact h _ _ _ .refl R<|.bl _⟩
  | _=>exact h.elim
 | _=>exact h.elim
def Rel.abf{K:au}{H:Hp}{S:jV}{n:Nat}{a:ak}{ks:List<|List Key×V}(R:Rel K ρ H S)(ha:ρ[n]?=some a)(hS:S[n]?=some (.dct xs))(d:DV K ρ H xs ks):Ext ρ ρ H (upd H a<|.frz o<|.dT ks)/\Rel K ρ (upd H a<|.frz o<|.dT ks) (S.set n<|.dcf xs):=by
 obtain⟨ex,R2⟩:=R.gone (o:=o) (u:=.dT ks) ha hS;refine⟨ex,by rw[bX];exact R.len,R.nd,λm b ob h1 h2=>?_⟩;by_cases f:m=n
 ·subst f;rw[ha]at h1;cases h1;rw[bA (aJ.mp hS).1]at h2
  cases h2
  exact⟨o,ks,kK,d.ext ex⟩
 ·rw[bJ<|cO f]at h2;exact R2.at m b ob h1<|by rw[bJ<|cO f];exact h2
abbrev acY (a:A)(S:jV):R Src:=match a with
 | .ref n=>opt (ki S n) λkvs=>.ok (qD<|kvs.map keA) (S.set n<|.dcf kvs)
 | _=>.no
abbrev Gy (c:Ex):Ic:=λτ S=>(c τ S).bind λa S1=>acY a S1
def Gj{e:aE}{c:Ex}(ha:AE X e c):AI X tg e (Gy c):=λpins s σ H Q I h9=>by
 z_go;refine TU ha pins s σ H Q I ⟨ρ,S,τ,R,r,jX (j5 h) .refl λx S1 h1 ρ1 H1 v e1 R1 v1=>?_⟩
 cases v1 with
 | @ref p n C=>
  obtain⟨kvs,hn,h1⟩:=jY h1;obtain⟨ks,F,k⟩:=R1.dct C<|mC hn;refine⟨p,ks,rfl,F,λo d pl f=>?_⟩;obtain⟨ex,R2⟩:=R1.abf (o:=o) C (mC hn) k;have dl:=k.length;refine h1 ρ1 _ _ (e1.trans ex) R2 ⟨λi S2 H2 ρ2 y e2 R3 g=>?_,λS2 H2 ρ2 e2 R3 _=>⟨?_,e2.im _ _ trivial kK⟩⟩
  ·have g:(kvs.map keA)[i]?=some y:=g;rw[aR]at g;obtain⟨kv,D,rfl⟩:=aP.mp g;obtain⟨q,hq,K,M⟩:=Wy k D;have j:i<d.length:=by rw[pl];exact(aJ.mp hq).1
   have G:=f i d[i] q (aI j) hq;refine⟨⟨⟨d[i],aI j⟩,e2.im _ _ trivial kK⟩,λN H' J=>?_⟩;obtain⟨rfl,L⟩:=J;have t:=L _<|aI j;subst t;have B:H' d[i]=some (.tup<|q.1.map kV):=e2.im _ _ trivial<|ex.toExt0.im _ _ trivial G;rw[K,v8]at B;exact⟨.refl,R3,.tup B<|rK _⟩
  ·show(kvs.map keA).length=d.length;rw[aH,dl,pl]
 | _=>exact h1.elim
end
end Am
namespace Sx
open PySem PyProof.Rows
open PySem.AutoSeq1 (wpAny_loadPart')
open PySem.MeetsSeq PySem.MeetsSeq2 PySem.MeetsSeq3
def VI(l:ak)(items:Array af)(n:Nat)(dd:Option ak)(sl:Array<|bd)(k:Nat):∀i:Nat,items.size-i=k->i<=items.size->Meets (Builtin.«list.__eq__.loop» ⟨[.ref l,.ref l,rawInt i,rawInt 0],[]⟩)
  (λA R s=>s.heap.get? l=some { cls:=.type "list",dict:=dd,data:=.seq items n,slots:=sl }/\R (.ok<|.ret<|.bool false) s):=by
 induction k with
 | zero=>
  intro i p h1 prog w A R s h;obtain⟨t,g,d,B,j⟩:=s;obtain⟨f,h⟩:=h;have hv:false=decide (items.size<items.size):=(bz ()).symm;rw[hv]at h
  wp_walk using cX f
  have e1:items[((i:Nat):Int).toNat]?=none:=by simp;lia
  rw[e1]
  wp_walk using cX f
  exact h
 | succ k q=>
  intro i p h1 prog w A R s h;obtain⟨t,g,d,B,j⟩:=s;obtain⟨f,h⟩:=h;obtain⟨v,e1⟩:∃v,items[((i:Nat):Int).toNat]?=some v:=⟨items[i]'(),by rw[cR];exact cT ()⟩
  wp_walk using cX f
  rw[e1];refine aG<|SeqAt.EqAt.same v prog w _ _ ?_;have hc:((i:Int)+1)=((i+1:Nat):Int):=by push_cast;rfl
  wp_walk
  rw[hc];exact⟨iP plain_eq_loop _,fQ entry_eq_loop (by
   rw[d7 plain_eq_loop _];exact q (i+1) () () prog w A R _ ⟨f,h⟩)⟩
def Q8(l b:ak)(items items2:Array af)(n n2:Nat)(dd dd2:Option ak)(sl sl2:Array<|bd)(u v:af)(e1:items[0]?=some u)(e2:items2[0]?=some v)(r:Bool) :
  Meets (Builtin.«list.__eq__.loop» ⟨[.ref l,.ref b,rawInt ((0:Nat):Int),rawInt 0],[]⟩)
   (λA R s=>s.heap.get? l=some { cls:=.type "list",dict:=dd,data:=.seq items n,slots:=sl }/\s.heap.get? b=some { cls:=.type "list",dict:=dd2,data:=.seq items2 n2,slots:=sl2 }/\SeqAt.EqAt A.in1 s u v false /\
    (∀(prog:aj) (w:ah) (E:af->aC->Prop) (Q:af->aC->Prop),Q (.bool r) s->wpAny (model prog w) A.in1 (richCompare .Lt u v) Q E s)/\R (.ok<|.ret<|.bool r) s):=by
 intro prog w A R s h;obtain⟨q,g,d,B,t⟩:=s;obtain⟨j,hb,p,k,h⟩:=h;have e1:items[((0:Nat):Int).toNat]?=some u:=e1;have e2:items2[((0:Nat):Int).toNat]?=some v:=e2
 wp_walk using cX j,cX hb
 rw[e1,e2];refine aG (p prog w _ _ ?_)
 wp_walk using cX j,cX hb
 rw[e1,e2];have f:=k prog w
 wp_walk using f
 exact h
def Gv(l b:ak)(items items2:Array af)(n n2:Nat)(dd dd2:Option ak)(sl sl2:Array<|bd)(P:PySem.Spec)
  (hm:Meets (Builtin.«list.__eq__.loop» ⟨[.ref l,.ref b,rawInt ((0:Nat):Int),rawInt 0],[]⟩) P) :
  Meets (Builtin.«list.__lt__» ⟨[.ref l,.ref b],[]⟩)
   (λA R s=>s.heap.get? l=some { cls:=.type "list",dict:=dd,data:=.seq items n,slots:=sl }/\s.heap.get? b=some { cls:=.type "list",dict:=dd2,data:=.seq items2 n2,slots:=sl2 }/\P A R s):=by
 intro prog w A R s h;obtain⟨j,g,d,p,k⟩:=s;obtain⟨f,hb,h⟩:=h;have f3:=AutoSeq1.sub_list_list
 wp_walk using cX f,cX hb
 exact⟨iP plain_eq_loop _,fQ entry_eq_loop (by
  rw[d7 plain_eq_loop _];exact hm prog w A R _ h)⟩
section
variable {prog:aj}{w:ah}{A:aA}{E:af->aC->Prop}{s:aC}
def LL{l k:ak}{r:Bool}{Q:Bool->aC->Prop}(hl:s.heap.IsList l xs)(hk:s.heap.IsList k ys)(hu:A.units<cLine)
  (hc:(l=k/\r=false)\/∃u v,xs[0]?=some u/\ys[0]?=some v/\∀B:aA,B.units<=A.units+4->SeqAt.EqAt B s u v false/\∀(prog:aj) (w:ah) (E:af->aC->Prop) (Q:af->aC->Prop),Q (.bool r) s->wpAny (model prog w) B (richCompare .Lt u v) Q E s)
  (h:Q r s):wpAny (model prog w) A (keyLt' oneType' (.ref l)<|.ref k) Q E s:=by
 rw[keyLt'_oneType,oneLt'_eq];dsimp[fq];obtain⟨⟨cls,C,data,D⟩,d,q,n,L⟩:=id hl;obtain⟨⟨K,g,J,f⟩,j,t,G,p⟩:=id hk;simp only at q L t p;subst q L t p;refine aG (wpAny_cRoomFor hu ?_)
 rcases hc with⟨rfl,rfl⟩|⟨u,v,e1,e2,hc⟩
 ·refine aG<|wpAny_callSpecialIfBound?_slot (T := "list") (id := "list.__lt__") ⟨_,d,rfl⟩ gp<|eU gp ⟨_,d,rfl⟩ PySem.F.entry_list_lt (PySem.F.args_list_lt_2 _ _) (Gv l l xs ys n G C g D f _<|VI l xs n C D _ 0 rfl<|bF _) ⟨d,j,d,?_⟩;exact cP h
 ·refine aG (wpAny_callSpecialIfBound?_slot (T := "list") (id := "list.__lt__") ⟨_,d,rfl⟩ gp<|eU gp ⟨_,d,rfl⟩ PySem.F.entry_list_lt (PySem.F.args_list_lt_2 _ _) (Gv l k xs ys n G C g D f _<|Q8 l k xs ys n G C g D f u v e1 e2 r) ⟨d,j,d,j,(hc _ ?_).1,(hc _ ?_).2,?_⟩)
  ·show A.units+_<=_;lia
  ·show A.units+_<=_;lia
  ·exact cP h
theorem ints_get:∀{xs:ba}{ns:ag},IntsAre xs ns->xs.length=ns.length/\∀j (h:j<xs.length),∃t,xs[j]=.int (ns.getD j 0) t
 | _,_,.nil=>⟨rfl,λj h=>absurd h<|eB _⟩
 | _,_,.cons n t h=>⟨by rw[bB,bB,(ints_get h).1],λj d=>by
  cases j with
  | zero=>exact⟨t,rfl⟩
  | succ j=>exact(ints_get h).2 j (by simpa using d)⟩
def abW:∀{ns ms:ag},ns≠ms->((List.range<|min ns.length ms.length).all (λj=>ns.getD j 0 == ms.getD j 0) && ns.length == ms.length)=false
 | ns,ms,h=>by
  cases e:((List.range<|min ns.length ms.length).all (λj=>ns.getD j 0 == ms.getD j 0) && ns.length == ms.length)with
  | false=>rfl
  | true=>
   rw[dU,dM]at e;have d:ns.length=ms.length:=by simpa using e.2
   refine absurd (List.ext_getElem d λj h1 h2=>?_) h;have:=e.1 j<|cy.mpr ();rw[aK,aI h1,aK,aI h2]at this;simpa using this
def SO{B:aA}{l:ak}{xs ys:ba}{ns:ag}(hl:IsTup s.heap l xs.toArray)(hb:IsTup s.heap b ys.toArray)(hi:IntsAre xs ns)(hj:IntsAre ys ms)(hu:B.units<cLine)(hn:ns≠ms)(hlb:l≠b):SeqAt.EqAt B s (.ref l) (.ref b) false:=by
 obtain⟨g,f⟩:=ints_get hi;obtain⟨k,d⟩:=ints_get hj;have:=SeqAt.RcAt.tuples (e:=λj=>ns.getD j 0 == ms.getD j 0) hl hb hu λj h1 h2=>by
  obtain⟨t,e1⟩:=f j (by simpa using h1);obtain⟨u,e2⟩:=d j (by simpa using h2);rw[gf,gf,e1,e2];exact je _ t _ u
 rw[aX,aX,g,k,abW hn]at this;exact .of_refs hlb this
end
end Sx
namespace L2
open PySem PySem.Spec PyProof.Rows
section
variable {X:Cx}
def A9{s:aC}{H:Hp}{Q:VK}{h':aq}{tk:Nat}{rs:bb}{kss:List<|ag}(hu:X.A.units+64<cLine)(I1:Inv X pins σ H { s with heap:=h',toks:=tk })(ro:Sx.RO kss.length)(hlen:rs.length=kss.length)(hz:rs.length<=sizeLine)(hnd:kss.Nodup)
  (hT:∀(i:Nat) (r:ak) (ks:ag),rs[i]?=some r->kss[i]?=some ks->∃(t:ak) (vs:List V),oS X.K H r (.ref t::vs)/\nh X.K H t (ks.map V.int))
  (q:∀l g,H l=none->Sx.Cl g 0 kss.length->Sx.So (Sx.uv kss) g 0 kss.length->Q (.ref l) (upd H l<|.lst<|((List.range kss.length).map λi=>rs.getD (g i) 0).map V.ref)) :
  wpAny (model X.prog X.w) X.A.in1 (do
   let l <- newList (rs.map Value.ref)
   let _ <- holding [l] (call (Value.builtin "list.sort") [l] [])
   ret l) (λfin s'=>∃v,fin=Fin.done (Flow.ret v)/\EP X pins σ Q v s') X.xe { s with heap:=h',toks:=tk }:=by
 have F:(rs.map Value.ref).length=kss.length:=by rw[aH,hlen]
 refine aG<|jw ?_;have k:(h'.push<|seqObj "list" (rs.map Value.ref).toArray 0).get? h'.objs.size=some (seqObj "list" (rs.map Value.ref).toArray 0):=br _ rfl;show wpAny _ _ _ _ _ { s with toks:=tk,heap:=h'.push<|seqObj "list" (rs.map Value.ref).toArray 0};have old:∀(r:ak) (o:Obj),h'.get? r=some o->(Sx.D8 (h'.push<|seqObj "list" (rs.map Value.ref).toArray 0) h'.objs.size<|rs.map Value.ref).get? r=some o:=λr o G=>by
  have lt:r<h'.objs.size:=a_ G;rw[Sx.Kh (bD lt)<|by rw[c_];exact dP lt];exact aQ _ G
 have lst:∀(i:Nat) (r:ak) (ks:ag),rs[i]?=some r->kss[i]?=some ks->∃(t:ak) (xs:ba) (f:ba),nh X.K H t (ks.map V.int)/\IntsAre f ks/\IsTup (Sx.D8 (h'.push<|seqObj "list" (rs.map Value.ref).toArray 0) h'.objs.size<|rs.map Value.ref) t f.toArray /\
   (Sx.D8 (h'.push<|seqObj "list" (rs.map Value.ref).toArray 0) h'.objs.size<|rs.map Value.ref).IsList r (Value.ref t::xs).toArray:=λi r ks e1 e2=>by
  obtain⟨t,vs,h1,h2⟩:=hT i r ks e1 e2;obtain⟨us,rv,pl,_⟩:=I1.list h1;obtain⟨f,rt,⟨o,G,hc,n,hd⟩,_⟩:=I1.tuple h2;obtain⟨o2,P,T,n2,N⟩:=pl.isList
  cases rv with
  | cons a b=>
   have ea:_=Value.ref t:=a;subst ea;exact⟨t,_,f,h2,intsAre_of rt,⟨o,old _ _ G,hc,n,hd⟩,⟨o2,old _ _ P,T,n2,N⟩⟩
 refine aG (cY<|cB slot_list_sort ⟨_,k,rfl⟩ entry_list_sort (Sx.yQ (o:=Sx.uv kss) (kd:=oneType') k (by rw[F];lia) (by rw[F];exact ro) (λh2 Z D=>?_) (λh2 i j d J E' Z D=>?_) λg hc hs=>⟨_,rfl,?_⟩)<|args_list_sort _)
 ·refine Sx.HK (λz=>by rw[z]at h2;simp at h2) (λv hv=>?_) D;obtain⟨i,d⟩:=iU hv;rw[aR]at d;obtain⟨r,W,rfl⟩:=aP.mp d;have lt:=(aJ.mp W).1;obtain⟨_,_,_,_,_,_,h3⟩:=lst i r _ W (aI<|show i<kss.length by lia);exact⟨r,_,rfl,h3⟩
 ·rw[F]at d J;have e1:rs[i]?=some (rs[i]'()):=aI _;have e2:rs[j]?=some (rs[j]'()):=aI _;have U:kss[i]?=some kss[i]:=aI d;have k2:kss[j]?=some kss[j]:=aI J;obtain⟨t1,x1,s1,a1,Y,c1,d1⟩:=lst i _ _ e1 U;obtain⟨t2,x2,s2,a2,b2,c2,d2⟩:=lst j _ _ e2 k2;have v1:(rs.map Value.ref).getD i .none=.ref (rs[i]'()):=by rw[aK,aR,e1];rfl
  have v2:(rs.map Value.ref).getD j .none=.ref (rs[j]'()):=by rw[aK,aR,e2];rfl
  show wpAny _ _ (keyLt' oneType' ((rs.map Value.ref).getD i .none)<|(rs.map Value.ref).getD j .none) Z E' _;rw[v1,v2];have f1:kss.getD i []=kss[i]:=by rw[aK,U];rfl
  have f2:kss.getD j []=kss[j]:=by rw[aK,k2];rfl
  have lt:(Sx.uv kss).lt i j=HT.lexLt kss[i] kss[j]:=by show HT.lexLt _ _=_;rw[f1,f2]
  rw[lt]at D;have un:X.A.in1.units=X.A.units+1:=rfl;refine Sx.LL d1 d2 (by show X.A.units+1+1<_;lia) ?_ D;by_cases p:i=j
  ·subst p;exact .inl ⟨rfl,Sx.zJ _⟩
  ·have C:kss[i]≠kss[j]:=(Nat.lt_or_gt_of_ne p).elim (λh=>bZ.mp hnd i j d J h) λh z=>bZ.mp hnd j i J d h z.symm;have M:t1≠t2:=λz=>by
    subst z;have:=I1.wk a1 a2;exact C<|List.map_inj_right (λa b h=>V.int.inj h) |>.mp this
   refine .inr ⟨_,_,rfl,rfl,λB L=>?_⟩;have L:B.units<cLine:=by have:B.units<=X.A.units+1+1+4:=L;lia
   exact⟨Sx.SO c1 c2 Y b2 L C M,λprog w E Q h=>HT.HF c1 c2 Y b2 L h⟩
 ·rw[F]at hc hs ⊢;obtain⟨e,he⟩:=sortedHeap_at (out:=((List.range kss.length).map λi=>(rs.map Value.ref).getD (g i) .none).toArray) k;have old:∀b ob,h'.get? b=some ob->(sortedHeap (h'.push<|seqObj "list" (rs.map Value.ref).toArray 0) h'.objs.size (rs.map Value.ref) ((List.range kss.length).map λi=>(rs.map Value.ref).getD (g i) .none).toArray).get? b=some ob:=λb ob O=>by
   rw[sortedHeap_old (bD<|a_ O)<|by rw[c_];exact dP<|a_ O];exact aQ _ O
  refine aM ⟨_,rfl,.ref h'.objs.size,_,I1.laid (t':=tk) (o:=.lst<|((List.range kss.length).map λi=>rs.getD (g i) 0).map V.ref) old (aN _) ?_,rfl,q _ g (I1.hok.fresh<|aN _) hc hs⟩;refine⟨by rw[aH,aH,bR];lia,((List.range kss.length).map λi=>rs.getD (g i) 0).map Value.ref,e,yz _,?_⟩;rw[he];congr 2;rw[aY];congr 1;refine bO λi d=>?_;have:=(hc i (bF _)<|cy.mp d).2;have lt:g i<rs.length:=()
  show(rs.map Value.ref).getD (g i) .none=Value.ref (rs.getD (g i) 0);rw[aK,aR,aI lt,aK,aI lt];rfl
def CW(hu:X.A.units+64<cLine):kM X (.builtin "sorted") (λxs H Q=>∃(p:ak) (rs:bb) (kss:List<|ag),xs=[.ref p]/\oS X.K H p (rs.map V.ref)/\Sx.RO kss.length/\rs.length=kss.length/\kss.Nodup /\
  (∀(i:Nat) (r:ak) (ks:ag),rs[i]?=some r->kss[i]?=some ks->∃(t:ak) (vs:List V),oS X.K H r (.ref t::vs)/\nh X.K H t (ks.map V.int)) /\
  ∀l g,H l=none->Sx.Cl g 0 kss.length->Sx.So (Sx.uv kss) g 0 kss.length->Q (.ref l) (upd H l<|.lst<|((List.range kss.length).map λi=>rs.getD (g i) 0).map V.ref)):=by
 kt_k;obtain⟨p,rs,kss,rfl,hq,C,d,f,N,q⟩:=h;kcf_m
 cases rx
 obtain⟨L,F,pl,k⟩:=I.list hq;have G:=tQ F;subst G;obtain⟨o,D,j,n,M⟩:=pl.isList;rw[aH]at k;have J:(rs.map Value.ref).length=kss.length:=by rw[aH,d]
 refine dw iV iz iA (iB _) ?_;unfold Builtin.«sorted»;kl_no;refine aG<|wpAny_collect_seq p (.inl rfl) D j M (λh' B=>A9 (s:=s) hu (I.kept (t':=s.toks) B) C d k f N q)<|by rw[aX,J];lia
end
end L2
namespace Am
open PySem PySem.Spec PyProof.Rows L2
abbrev fsH:Option (ae)->Option (ag)
 | some (.tup ys::_)=>A.ints ys
 | _=>none
abbrev YM (S:jV):ae->Option (List<|ag)
 | []=>some []
 | .ref n::r=>(fsH<|jT S n).bind λks=>(YM S r).map λd=>ks::d
 | _=>none
def ab7{K:au}{H:Hp}(R:Rel K ρ H S){n:Nat}{a:ak}{ks:ag}(hp:ρ[n]?=some a)(e:fsH (jT S n)=some ks):∃(t:ak) (vs:List V),oS K H a (.ref t::vs)/\nh K H t (ks.map V.int):=by
 cases e1:jT S n with
 | none=>rw[e1]at e;cases e
 | some ys=>
  rw[e1]at e;obtain⟨us,h1,r⟩:=R.lst hp (j8 e1)
  cases r with
  | nil=>cases e
  | cons h t=>
   cases h with
   | tup d rx=>
    have:=qX rx e;subst this;exact⟨_,_,oS.of h1,nh.of d⟩
   | _=>cases e
theorem M7{K:au}{H:Hp}(R:Rel K ρ H S):∀{xs:ae}{vs:List V}{kss:List<|ag},AVs K ρ H xs vs->YM S xs=some kss ->
  ∃rs:bb,vs=rs.map V.ref/\rs.length=kss.length/\xs.length=kss.length/\(∀(i:Nat) (r:ak) (ks:ag),rs[i]?=some r->kss[i]?=some ks->∃(t:ak) (vs:List V),oS K H r (.ref t::vs)/\nh K H t (ks.map V.int))/\∀(i:Nat) (r:ak) (x:A),rs[i]?=some r->xs[i]?=some x->AV K ρ H x (.ref r)
 | [],_,_,.nil,e=>by cases e;exact⟨[],rfl,rfl,rfl,λi r ks h=>by simp at h,λi r x h=>by simp at h⟩
 | x::xs,_,kss,.cons h t,e=>by
  cases h with
  | ref k=>
   rename_i a n;have F:((fsH<|jT S n).bind λks=>(YM S xs).map λrs=>ks::rs)=some kss:=e;obtain⟨ks,e3,G⟩:=bN.mp F;obtain⟨p,J,rfl⟩:=aP.mp G;obtain⟨rs,rfl,C,q,D,hv⟩:=M7 R t J;refine⟨a::rs,rfl,by rw[bB,bB,C],by rw[bB,bB,q],λi j g d f=>?_,λi j B d f=>?_⟩
   ·cases i with
    | zero=>
     cases d
     cases f
     exact ab7 R k e3
    | succ i=>exact D i j g (by simpa using d)<|by simpa using f
   ·cases i with
    | zero=>
     cases d
     cases f
     exact .ref k
    | succ i=>exact hv i j B (by simpa using d)<|by simpa using f
  | _=>cases e
section
variable {X:Cx}
abbrev Mr (xs:ae)(S:jV):R A:=opt (YM S xs) λkss=>if kss.Nodup/\kss.length<64 then .ok (.ref S.length) (S++[.lst<|(Sd kss).map λi=>xs.getD i .non])else .no
abbrev yP (x:A)(S:jV):R A:=match x with
 | .ref n=>opt (jT S n) λxs=>Mr xs S
 | _=>.no
def Vh{xs:ae}{S:jV}{kss:List<|ag}(h:YM S xs=some kss)(nd:kss.Nodup)(h64:kss.length<64):Mr xs S=.ok (.ref S.length) (S++[.lst<|(Sd kss).map λi=>xs.getD i .non]):=by
 unfold Mr;rw[h];exact aW ⟨nd,h64⟩
def Jh{H H0:Hp}{Q:VK}(R:Rel X.K ρ H S)(r:AVs X.K ρ H xs vs)(e:Ext ρ0 ρ H0 H)(h:(Mr xs S).post (zN X ρ0 H0 Q)<|XE X ρ0 H0) :
  ∃(rs:bb) (kss:List<|ag),vs=rs.map V.ref/\Sx.RO kss.length/\rs.length=kss.length/\kss.Nodup /\
  (∀(i:Nat) (r:ak) (ks:ag),rs[i]?=some r->kss[i]?=some ks->∃(t:ak) (vs:List V),oS X.K H r (.ref t::vs)/\nh X.K H t (ks.map V.int)) /\
  ∀l g,H l=none->Sx.Cl g 0 kss.length->Sx.So (Sx.uv kss) g 0 kss.length->Q (.ref l) (upd H l<|.lst<|((List.range kss.length).map λi=>rs.getD (g i) 0).map V.ref):=by
 obtain⟨kss,hb,h⟩:=jY h;by_cases nd:kss.Nodup/\kss.length<64
 ·rw[aW nd]at h;obtain⟨rs,rfl,j,q,k,hv⟩:=M7 R r hb;refine⟨rs,kss,rfl,Sx.Um nd.2,j,nd.1,k,λl g d hc hs=>?_⟩;have p:AVs X.K ρ H ((Sd kss).map λi=>xs.getD i .non) (((List.range kss.length).map λi=>rs.getD (g i) 0).map V.ref):=by
   rw[<- ab8 hc hs,aY,aY];refine Ay λi f=>?_;have lt:=(hc i (bF _)<|cy.mp f).2;have e1:rs[g i]?=some (rs.getD (g i) 0):=by rw[aK,aI ()];rfl
   have e2:xs[g i]?=some (xs.getD (g i) .non):=by rw[aK,aI ()];rfl
   exact hv _ _ _ e1 e2
  exact pJ R p e h l d
 ·rw[aV nd]at h;exact h.elim
def IQ(hu:X.A.units+64<cLine):kM X (.builtin "sorted") (rN X<|f1 yP):=kM.imp (CW hu) λB H Q h0=>by
 kd_p;clear h0
 cases hv with
 | ref t=>
  rename_i p n;kj_on;obtain⟨us,h1,r⟩:=R.lst t<|j8 hn;obtain⟨f,d,rfl,g,k,nd,j,q⟩:=Jh R r .refl h;exact⟨p,f,d,rfl,oS.of h1,g,k,nd,j,q⟩
 | _=>exact h.elim
end
end Am
namespace L2
open PySem PySem.Spec PyProof.Rows
section
variable {P:aj}{w:ah}{A:aA}{E:af->aC->Prop}{s:aC}{it d:ak}{i ep:Nat}{es:Array DictEntry}{o:Obj}
def Xl{Q:bd->aC->Prop}(hi:s.heap.IsValIter it d i es.size ep)(ho:s.heap.get? d=some o)(hd:o.data=.dict es ep)(lt:i<es.size)
  (q:∀h',h'.IsValIter it d (i+1) es.size ep->Heap.SameBut it s.heap h'->Q (some es[i].val) { s with heap:=h' }):wpAny (model P w) A (pyNext<|.ref it) Q E s:=by
 have ty:=hi.typeIs;obtain⟨C,g,p,f⟩:=id hi;have own:Builtin.Dict_items.ownsTuple "dict_valueiterator" = false:=by decide
 have t:¬((Value.ref d == Value.none)=true):=bw;have B:¬((i:Int)<0):=()
 unfold pyNext;refine aG<|iQ<|dJ (name:=Str.ofString "__next__") ty cM<|cB cM ty gw ?_<|gq _;refine aG<|aM<|aG<|aG ?_;refine aG<|d9 ty<|aM<|aG<|gg g f ?_;dsimp[own,cH,bI];show wpAny (model P w) _ (if (Value.ref d == Value.none)=true then _ else _) _ _ s;rw[aV t];refine aG<|aM<|aG<|fu ho hd ?_;rw[aV<|show ¬_ by simp];refine aG<|aM<|aG<|fR ho hd ?_;rw[aV<|show ¬_ by simp];refine aM ?_;dsimp[B,cH,cR,cT lt];refine aG<|aG<|d9 ty<|aM<|aG<|iJ ty ?_;show wpAny (model P w) _ (setField (.ref it) 1 (rawInt<|(i:Int)+1) >>= _) _ _ s;refine aG (gb g f (show _ by simp) ?_);have j:(s.heap.update it<|Obj.mapFields λfs=>fs.setIfInBounds 1<|rawInt<|(i:Int)+1).IsValIter it d (i+1) es.size ep:=
  ⟨_,f6 _ g<|iF<|eW f _,(jo ..).trans p,by
   rw[eW f];simp[rawInt]⟩
 have k:Shared.TypeIs { s with heap:=s.heap.update it<|Obj.mapFields λfs=>fs.setIfInBounds 1<|rawInt<|(i:Int)+1} (.ref it) "dict_valueiterator" := Heap.IsValIter.typeIs (s:={ s with heap:=_ }) j;refine aG<|cY<|aG<|iJ k<|aG<|iJ k ?_;show wpAny (model P w) _ (pure es[i].val) _ _ _;exact aM<|aM ⟨_,rfl,aM<|q _ j<|eG ..⟩
def UM{Q:bd->aC->Prop}(hh:A.handled=none)(hi:s.heap.IsValIter it d i es.size ep)(ho:s.heap.get? d=some o)(hd:o.data=.dict es ep)(ge:es.size<=i)
  (q:∀h',Heap.ExtBut it s.heap h'->Q none { s with heap:=h' }):wpAny (model P w) A (pyNext<|.ref it) Q E s:=by
 have ty:=hi.typeIs;obtain⟨t,f,j,g⟩:=id hi;have own:Builtin.Dict_items.ownsTuple "dict_valueiterator" = false:=by decide
 have k:¬((Value.ref d == Value.none)=true):=bw;have p:¬((i:Int)<0):=()
 unfold pyNext;refine aG<|iQ<|dJ (name:=Str.ofString "__next__") ty cM<|cB cM ty gw ?_<|gq _;refine aG<|aM<|aG<|aG ?_;refine aG<|d9 ty<|aM<|aG<|gg f g ?_;dsimp[own,cH,bI];show wpAny (model P w) _ (if (Value.ref d == Value.none)=true then _ else _) _ _ s;rw[aV k];refine aG<|aM<|aG<|fu ho hd ?_;rw[aV<|show ¬_ by simp];refine aG<|aM<|aG<|fR ho hd ?_;rw[aV<|show ¬_ by simp];refine aM ?_;dsimp[p,cH,cR,dQ ge];refine aG<|aG<|d9 ty<|aM ?_;show wpAny (model P w) _ (setField (.ref it) 0 .none >>= _) _ _ s;refine aG (gb f g (show _ by simp) ?_);show wpAny (model P w) _ (newExc (.type "StopIteration") [] >>= _) _ _ _;refine aG ?_;dsimp[newExc,newTuple];refine aG (cC (aG (m:=firstArgMember _ _)<|wpAny_of_eq (a:=Value.none) (by first|rfl|(dsimp[firstArgMember];rfl))<|cC ?_<|by size_fits)<|by size_fits);dsimp[raiseNew];have hn:A.in1.handled=none:=hh;refine aG<|wpAny_handled<|?_;rw[hn];refine aG<|aM<|wpAny_throw<|?_;refine aG<|gu (b:=true) (T := "StopIteration") ⟨_,br _ rfl,rfl⟩ isSubtype_stop<|aM<|q _<|((eG ..).extBut.push _).push _
def GV{v:ak}{Q:af->aC->Prop}(hv:s.heap.IsValuesView v d)(ho:s.heap.get? d=some o)(hd:o.data=.dict es ep)
  (q:Q (.ref s.heap.objs.size) { s with heap:=s.heap.push { cls:=.type "dict_valueiterator",data:=.fields #[.ref d,.int 0 0,.int es.size 0,.int ep 0]}}):wpAny (model P w) A (pyIter<|.ref v) Q E s:=by
 obtain⟨k,f,j,g⟩:=id hv;refine wpAny_pyIter_slot hv.typeIs iW<|cB iW hv.typeIs PySem.F.entry_dict_values_iter ?_<|PySem.F.args_dict_values_iter_1 _;delta Builtin.«dict_values.__iter__»;refine aG<|aM<|aG ?_;delta Builtin.Dict_items.dictOf;refine aG<|jn f g (x:=.ref d) rfl<|aM<|aG ?_;delta Builtin.Dict_items.newIterator;refine aG<|fu ho hd<|aG<|fR ho hd ?_;have own:Builtin.Dict_items.ownsTuple "dict_valueiterator" = false:=by decide
 dsimp[own,bI,cH];refine cC<|aM ⟨_,rfl, "dict_valueiterator",_,⟨_,br _ rfl,rfl⟩,cM.lookup,?_⟩;simpa[rawInt]using q
def HS{Q:af->aC->Prop}(ty:s.TypeIs (.ref d) "dict")(hd:(d == sysModules)=false)
  (q:Q (.ref s.heap.objs.size) { s with heap:=s.heap.push { cls:=.type "dict_values",data:=.fields #[.ref d]}}):wpAny (model P w) A (call (.builtin "dict.values") [.ref d]) Q E s:=by
 refine cB PySem.F.slot_dict_values ty PySem.F.entry_dict_values ?_<|PySem.F.args_dict_values_1 _;delta Builtin.«dict.values»;refine aG ?_;delta Builtin.Dict.noArgs;refine aG<|iI ty ?_;show wpAny (model P w) _ (pure d) _ _ s;refine aM ?_;show wpAny (model P w) _ (Builtin.Dict.showsAll d >>= _) _ _ s;delta Builtin.Dict.showsAll;have nd:¬((d == sysModules)=true):=by rw[hd];exact bw
 rw[aV nd];exact aG<|aM<|aG<|cC<|aM ⟨_,rfl,q⟩
end
section
variable {P:aj}{w:ah}
def LR{A:aA}(hh:A.handled=none)(it d:ak)(ne:d≠it){es:Array DictEntry}{o:Obj}(hd:o.data=.dict es ep) :
  Walks P w A it [it,d] [it] es.size (λi v=>(es[i]?).map (λe=>e.val)=some v) (λi h=>h.IsValIter it d i es.size ep/\h.get? d=some o) where
 sub:=λb hb=>by
  rw[aS.mp hb];exact aL ..
 frame:=λ_ _ _ st f=>⟨let⟨x,e,r⟩:=st.1;⟨x,f it (aL ..) x e,r⟩,f d (aO _<|aL ..) o st.2⟩
 item:=λi s Q E lt st q=>Xl st.1 st.2 hd lt λh' j g=>q _ h' s.toks (by rw[cT lt];rfl) ⟨j,g.extBut d o ne st.2⟩ λb x nb e=>g.extBut b x (λz=>nb<|aS.mpr z) e
 done:=λs Q E st q=>UM hh st.1 st.2 hd (aN _) λh' k=>q h' s.toks λb x nb e=>k b x (λz=>nb<|aS.mpr z) e
 self:=λ_ _ _ _ st q=>wpAny_pyIter_valiter st.1 q
def Ut{r d:ak}{es:Array DictEntry}{o:Obj}(hd:o.data=.dict es ep) :
  PySem.W.KdlSrc P w "dict_values" r d es.size (λi v=>(es[i]?).map (λe=>e.val)=some v) (λh=>h.IsValuesView r d/\h.get? d=some o) where
 type:=λ_ f=>f.1.typeIs
 there:=λ_ f=>⟨let⟨_,ho,_⟩:=f.1;a_ ho,a_ f.2⟩
 keep:=λ_ _ f g=>⟨let⟨o,ho,x⟩:=f.1;⟨o,g r (.inl rfl) o ho,x⟩,g d (.inr rfl) o f.2⟩
 notList:=by decide
 notTuple:=by decide
 hint:=λ_ _ _ _ f hq=>PySem.W.kdl_hint_values f.1.typeIs hq
 iter:=λ_ s j f=>⟨_,_,(λ_ _ hq=>GV f.1 f.2 hd hq),LR j _ d (bD<|a_ f.2) hd,⟨⟨_,br _ rfl,rfl,rfl⟩,aQ _ f.2⟩⟩
end
end L2
namespace Am
open PySem PySem.Spec PyProof.Rows L2
abbrev se (S:jV)(n:Nat):Option (List<|Str×A):=match S[n]? with
 | some (.uY xs)=>some xs
 | _=>none
def sj{n:Nat}(h:se S n=some xs):S[n]?=some (.uY xs):=by
 unfold se at h;split at h
 ·rename_i e;cases h;exact e
 ·cases h
def DT{S:jV}{n:Nat}(h:S[n]?=some (.uY xs)):se S n=some xs:=by
 unfold se;rw[h]
abbrev qN (kvs:List<|Str×A)(k:Str):Option A:=(kvs.find? λkv=>decide<|kv.1=k).map (·.2)
abbrev sV (kvs:List<|Str×A)(k:Str)(v:A):List (Str×A):=
 if (qN kvs k).isSome=true then kvs.map (λkv=>if kv.1=k then(kv.1,v)else kv)else kvs++[(k,v)]
section
variable {K:au}{ρ:bb}{H:Hp}
def MV{p:Str×A}{r:List<|Str×A}{k:Str}(e:p.1=k):qN (p::r) k=some p.2:=by simp[qN,bU,e]
def MT{p:Str×A}{r:List<|Str×A}{k:Str}(e:¬p.1=k):qN (p::r) k=qN r k:=by simp[qN,bU,e]
def aaY{a:Str}(e:(Sum.inr a:Key)=Sum.inr b):a=b:=by injection e
theorem DS.look:∀{kvs:List<|Str×A}{ks:List<|Key×V}(k:Str),DS K ρ H kvs ks->(qN kvs k).isSome=(pV ks (Sum.inr k:Key)).isSome/\∀x,qN kvs k=some x->∃v,pV ks (Sum.inr k:Key)=some v/\AV K ρ H x v
 | [],[],k,_=>⟨rfl,λx h=>nomatch h⟩
 | p::r,q::r',k,⟨⟨e,a⟩,t⟩=>by
  by_cases c:p.1=k
  ·have d:q.1=(Sum.inr k:Key):=by rw[e,c]
   rw[MV c,tX d];exact⟨rfl,λx h=>by cases h;exact⟨_,rfl,a⟩⟩
  ·have d:¬q.1=(Sum.inr k:Key):=λz=>c<|aaY<|e.symm.trans z;rw[MT c,tK d];exact DS.look k t
theorem DS.repl{x:A}{v:V}(h:AV K ρ H x v)(k:Str):∀{kvs:List<|Str×A}{ks:List<|Key×V},DS K ρ H kvs ks->DS K ρ H (kvs.map λkv=>if kv.1=k then(kv.1,x)else kv) (ks.map λkv=>if kv.1=(Sum.inr k:Key)then(kv.1,v)else kv)
 | [],[],_=>trivial
 | p::r,q::r',⟨⟨e,a⟩,t⟩=>by
  refine⟨?_,DS.repl h k t⟩;dsimp only;by_cases c:p.1=k
  ·rw[aW c,aW<|by rw[e,c]];exact⟨e,h⟩
  ·rw[aV c,aV λz=>c<|aaY<|e.symm.trans z];exact⟨e,a⟩
theorem DS.snoc{x:A}{v:V}(h:AV K ρ H x v)(k:Str):∀{kvs:List<|Str×A}{ks:List<|Key×V},DS K ρ H kvs ks->DS K ρ H (kvs++[(k,x)]) (ks++[(Sum.inr k,v)])
 | [],[],_=>⟨⟨rfl,h⟩,trivial⟩
 | p::r,q::r',⟨a,t⟩=>⟨a,DS.snoc h k t⟩
def DS.put{x:A}{v:V}(h:AV K ρ H x v)(k:Str){ks:List<|Key×V}(d:DS K ρ H kvs ks):DS K ρ H (sV kvs k x) (putK ks (Sum.inr k:Key) v):=by
 unfold sV putK;rw[vU,<- (d.look k).1];by_cases c:(qN kvs k).isSome=true
 ·rw[aW c,aW c];exact DS.repl h k d
 ·rw[aV c,aV c];exact DS.snoc h k d
def DS.length:∀{kvs:List<|Str×A}{ks:List<|Key×V},DS K ρ H kvs ks->kvs.length=ks.length
 | [],[],_=>rfl
 | _::_,_::_,⟨_,t⟩=>cV (·+1) t.length
def Rel.uY{n:Nat}{a:ak}(R:Rel K ρ H S)(ha:ρ[n]?=some a)(hS:S[n]?=some (.uY xs)):∃vs,H a=some (.dK vs)/\DS K ρ H xs vs:=R.at n a _ ha hS
def Rel.acJ{S:jV}{p:ak}(R:Rel K ρ H S)(hp:H p=none)(r:DS K ρ H xs vs):Ext ρ (ρ++[p]) H (upd H p<|.dK vs)/\Rel K (ρ++[p]) (upd H p<|.dK vs) (S++[.uY xs])/\(ρ++[p])[S.length]?=some p:=by
 have ex:Ext ρ (ρ++[p]) H (upd H p<|.dK vs):=⟨⟨dG _ _,λa u _ h=>by rw[jZ<|kg h hp];exact h⟩,λa u h _=>by rw[jZ<|kg h hp];exact h,λa h=>by
  rcases bH.mp h with z|z
  ·exact .inl z
  ·have e:a=p:=by simpa using z
   rw[e];exact .inr hp⟩
 have j:p∉ρ:=R.BZ hp;have d:(ρ++[p])[S.length]?=some p:=by rw[<- R.len];simp
 refine⟨ex,⟨by simp[R.len],?_,?_⟩,d⟩
 ·rw[b_];kln_w;have:b=p:=by simpa using hb
  exact j<|by rw[<- this,<- e];exact ha
 ·intro n a o h1 h2;by_cases hn:n<S.length
  ·rw[bu<|by rw[R.len];exact hn]at h1;rw[bu hn]at h2;have na:a≠p:=λz=>j (by rw[<- z];exact aZ h1);have:=R.at n a o h1 h2
   cases o with
   | lst ys=>obtain⟨f,e,q⟩:=this;exact⟨f,by rw[jZ na];exact e,q.ext ex⟩
   | dct _|qv _|uY _|u0 _=>obtain⟨f,e,q⟩:=this;exact⟨f,by rw[jZ na];exact e,q.ext ex⟩
   | dcf _=>obtain⟨g,f,e,q⟩:=this;exact⟨g,f,by rw[jZ na];exact e,q.ext ex⟩
   | ins _ _=>obtain⟨g,k,e⟩:=this;exact⟨g,k,by rw[jZ na];exact e⟩
  ·have e:n=S.length:=by
    have:=(aJ.mp h2).1;simp at this
    lia
   subst e;rw[d]at h1
   cases h1
   simp at h2;subst h2;exact⟨vs,kK,r.ext ex⟩
def Rel.sV{S:jV}{n:Nat}{a:ak}(R:Rel K ρ H S)(ha:ρ[n]?=some a)(hS:S[n]?=some (.uY xs))(r:DS K ρ H ys ws):Ext ρ ρ H (upd H a<|.dK ws)/\Rel K ρ (upd H a<|.dK ws) (S.set n<|.uY ys):=by
 obtain⟨t,e,_⟩:=R.at n a _ ha hS;have ex:Ext ρ ρ H (upd H a<|.dK ws):=⟨⟨dO _,λb u i h=>by
  have:b≠a:=by
   intro z;subst z;rw[e]at h;cases h;exact i
  rw[jZ this];exact h⟩,λb u h n=>by
  rw[jZ λz=>n<|by rw[z];exact aZ ha];exact h,λ_ h=>.inl h⟩
 refine⟨ex,by rw[bX];exact R.len,R.nd,λm b o h1 h2=>?_⟩;by_cases j:m=n
 ·subst j;rw[ha]at h1;cases h1;rw[bA (aJ.mp hS).1]at h2
  cases h2
  exact⟨ws,kK,r.ext ex⟩
 ·rw[bJ<|cO j]at h2;have nb:b≠a:=λz=>by
   subst z;obtain⟨p,e1⟩:=aJ.mp ha;obtain⟨B,e2⟩:=aJ.mp h1;exact j<|(cG R.nd).mp<|e2.trans e1.symm
  have:=R.at m b o h1 h2
  cases o with
  | lst ys=>obtain⟨d,f,q⟩:=this;exact⟨d,by rw[jZ nb];exact f,q.ext ex⟩
  | dct _|qv _|uY _|u0 _=>obtain⟨d,f,q⟩:=this;exact⟨d,by rw[jZ nb];exact f,q.ext ex⟩
  | dcf _=>obtain⟨g,d,f,q⟩:=this;exact⟨g,d,by rw[jZ nb];exact f,q.ext ex⟩
  | ins _ _=>obtain⟨g,k,f⟩:=this;exact⟨g,k,by rw[jZ nb];exact f⟩
end
section
variable {X:Cx}{pos:Pos}{a:aE}
abbrev A6 (o i v:A)(S:jV):R Unit:=match o,i with
 | .ref n,.str k=>opt (se S n) λkvs=>gd (kvs.length<sizeLine) (.ok Unit.unit<|S.set n<|.uY<|sV kvs k v)
 | _,_=>.no
def GP{x v:A}{S:jV}{P:Unit->jV->Prop}{E:Str->jV->Prop}(h:(A6 x y v S).post P E):∃n k kvs,x=.ref n/\y=.str k/\se S n=some kvs/\kvs.length<sizeLine/\P Unit.unit (S.set n<|.uY<|sV kvs k v):=by
 unfold A6 at h;split at h
 ·obtain⟨kvs,h1,h⟩:=jY h;obtain⟨h2,h⟩:=kB h;exact⟨_,_,kvs,rfl,rfl,h1,h2,h⟩
 ·exact h.elim
abbrev acG (X:Cx):EE:=λo i v H Q=>∃ρ S ao f d,Rel X.K ρ H S/\AV X.K ρ H ao o/\AV X.K ρ H f i/\AV X.K ρ H d v/\(A6 ao f d S).post (λ_ g=>∀ρ' H',Ext ρ ρ' H H'->Rel X.K ρ' H' g->Q H') (XE X ρ H)
def U0(hu:X.A.units+64<cLine):C1 X (acG X):=λpins s σ H o i v j iv u Q I g t C h9=>by
 obtain⟨ρ,S,ao,F,D,R,h1,h2,h3,h⟩:=h9;obtain⟨n,k,kvs,ha,hb,hn,q,hP⟩:=GP h;subst ha hb
 cases h2
 cases h1 with
 | @ref p _ f=>
  obtain⟨ks,e,d⟩:=R.uY f<|sj hn;obtain⟨ex,B⟩:=R.sV f (sj hn)<|d.put h3 k;exact set_dict () pins s σ H _ _ v j iv u Q I g t C ⟨p,_,rfl,yu.k (k:=Sum.inr k) e<|by rw[<- d.length];exact q,hP _ _ ex B⟩
abbrev Zp (co ci:Ex):Tg:=λa τ S=>(co τ S).bind λo S1=>(ci τ S1).bind λi S2=>(A6 o i a S2).bind λ_ S3=>.ok τ S3
def Us(hu:X.A.units+64<cLine){co ci:Ex}(ho:AE X o co)(hi:AE X i ci)
  (ha:(∀v,assign (.Subscript o i pos) X.env v=(do
   let ov <- holding [v] (eval o X.env)
   let iv <- holding [v,ov] (eval i X.env)
   standAt pos
   holding [v,ov,iv] (setItem ov iv v)
   release [v,ov,iv] []))<|>ζ):AG X (.Subscript o i pos) (Zp co ci):=PG.imp (A5 ho hi (U0 hu) ha) λv σ H Q h9=>by
 obtain⟨ρ,S,τ,a,R,r,va,h⟩:=h9;w_up;k_ne;kpc_g
abbrev Hh:Ex:=λ_ S=>.ok (.ref S.length)<|S++[.uY []]
def QZ:AE X (.Dict [] [] pos) Hh:=PE.imp Gi λσ H Q ⟨ρ,S,τ,R,r,h⟩ p d=>by
 obtain⟨ex,f,g⟩:=R.acJ (xs:=[]) (vs:=[]) d trivial;exact h _ _ _ ex f<|.ref g
abbrev ds? (a:A)(S:jV):Option Unit:=match a with
 | .ref n=>(se S n).map λ_=>Unit.unit
 | _=>none
abbrev ZA (f:A->ae->jV->R A)(co:Ex)(d:q_):Ex:=λτ S=>(co τ S).bind λx S1=>opt (ds? x S1) λ_=>(d τ S1).bind λas S2=>f x as S2
def ds?_ty{K:au}{H:Hp}{x:A}{v:V}(R:Rel K ρ H S)(a:AV K ρ H x v)(e:ds? x S=some u):XT K "dict" v H:=by
 cases a with
 | @ref p n h=>
  obtain⟨xs,d,_⟩:=aP.mp e;obtain⟨f,h1,_⟩:=R.uY h<|sj d;exact .inr<|.inr<|.inl ⟨rfl,.inl ⟨f,h1⟩⟩
 | _=>cases e
def X0{e:aE}{id:String}{apos cpos:Pos}{f:A->ae->jV->R A}{co:Ex}{d:q_}(slot:Slot "dict" name id)(hty:typeOf (.builtin id)=pure (.type "method_descriptor"))(hm:E_ X id<|rM X f)(ho:AE X o co)(ha:AL X (e::es) d)
  (hbase:attributeBase o name X.env (eval o X.env)=eval o X.env<|>ε)
  (hfew:(((backTo cpos<|starEach (e::es) X.env).all (λx=>!x.1) && (backToKw cpos<|keywordEach [] X.env).all (λx=>x.1.isSome)
   && decide ((e::es).length+([]:List Keyword).length+(if ([]:List Keyword).isEmpty then 0 else 1)<30))=true)<|>ε)
  (hline:(apos.endLine == cpos.line)=true<|>ε) (hs:starEach (e::es) X.env=(false,eval e X.env)::starEach es X.env<|>ε) (hplain:((backTo cpos<|starEach es X.env).any (·.1)=false)<|>ε) :
  AE X (.Call (.Attribute o name apos) (e::es) [] cpos) (ZA f co d):=PE.imp (J5 fH slot hty hm ho ha hbase hfew hline hs hplain) λσ H Q h9=>by
 z_go;gp_on;obtain⟨xs,g,h1⟩:=jY h1;refine⟨ds?_ty R1 v1 g,ρ1,S1,τ,R1,r.ext e1,jX (j5 h1) e1 λas S2 h2 ρ2 H2 j e2 R2 v2=>?_⟩;kst_p
abbrev CC (o:A)(as:ae)(S:jV):R A:=match o,as with
 | .ref n,[.str k,y]=>opt (se S n) λkvs=>.ok ((qN kvs k).getD y) S
 | _,_=>.no
def GI{x:A}{P:A->jV->Prop}{E:Str->jV->Prop}(h:(CC x as S).post P E):∃n k y kvs,x=.ref n/\as=[.str k,y]/\se S n=some kvs/\P ((qN kvs k).getD y) S:=by
 unfold CC at h;split at h
 ·obtain⟨kvs,h1,h⟩:=jY h;exact⟨_,_,_,kvs,rfl,rfl,h1,h⟩
 ·exact h.elim
def Yc(hu:X.A.units+64<cLine):E_ X "dict.get" (rM X CC):=λpins s σ H x K v us Q I rx C h9=>by
 cb_eq;obtain⟨n,k,y,kvs,q,has,hn,hP⟩:=GI h;subst q has;obtain⟨J,M,rfl,G,hy⟩:=P8 va
 cases G
 cases vo with
 | @ref p _ t=>
  obtain⟨ks,h1,B⟩:=R.uY t (sj hn)
  cases rx
  obtain⟨L,O,rfl,r1,r2⟩:=vals2 C;refine Oe () I (uH.k (k:=Sum.inr k) h1) r1 r2 λN s' g f=>⟨_,H,g,f,hP _ _ _ .refl R ?_⟩;obtain⟨d,F⟩:=B.look k
  cases e1:qN kvs k with
  | none=>
   rw[e1]at d
   cases e2:pV ks (Sum.inr k:Key)with
   | none=>exact hy
   | some _=>rw[e2]at d;cases d
  | some D=>
   obtain⟨v1,e2,j⟩:=F D e1;rw[e2];exact j
end
end Am
namespace L2
open PySem PySem.Spec PyProof.Rows
section
variable {X:Cx}
theorem Aj{P:aj}{w:ah}:∀{es:List DictEntry}{vs:List<|Key×af},Pairs (kZ P w) es vs->es.map (λe=>e.val)=vs.map (·.2)
 | [],[],_=>rfl
 | _::_,_::_,h=>by
  cases h with
  | cons a c b=>rw[bC,bC,Aj b,c]
def Pa{H:Hp}{s:aC}{d:ak}{kvs:List<|Key×V}(I:Inv X pins σ H s)(ed:H d=some (.dK kvs)) :
  ∃(ob:Obj) (es:Array DictEntry) (ep:Nat) (us:ba),s.heap.get? d=some ob/\ob.cls=.type "dict" /\ ob.dict=none/\ob.data=.dict es ep/\(d == sysModules)=false/\kvs.length<=sizeLine/\es.size=kvs.length/\Vals (kvs.map (·.2)) us/\∀i:Nat,(es[i]?).map (λe:DictEntry=>e.val)=us[i]?:=by
 obtain⟨z,F,xs,f,ob,es,ep,D,p,B,C,k,q⟩:=KQ I.hok ed;have pv:=Aj k;have g:es.size=xs.length:=by have:=cV List.length pv;simpa using this
 have j:kvs.length=xs.length:=f.length;refine⟨ob,es,ep,xs.map (·.2),D,p.1,p.2.1,B,F,z,by rw[g,j],?_,λi=>?_⟩
 ·clear C k q g ed z j pv;unfold KV at f
  induction f with
  | nil=>exact .nil
  | cons a _ t=>exact .cons a.2 t
 ·rw[<- pv,aR,cE]
abbrev acC (to:TE):TE:=λσ H Q=>to σ H λx H1=>∃d kvs,x=.ref d/\H1 d=some (.dK kvs)/\∀(r:ak) (o:Obj),o.cls=.type "dict_values" -> o.data=.fields #[.ref d]->H1 r=none->Q (.ref r) (upd H1 r<|.frz o<|.own r)
def NX{apos cpos:Pos}{e:aE}{to:TE}(he:PE X e to)(hbase:attributeBase e "values" X.env (eval e X.env)=eval e X.env<|>ε)(hline:(apos.endLine == cpos.line)=true<|>ε) :
  PE X (.Call (.Attribute e "values" apos) [] [] cpos) (acC to):=by
 gn_on;refine wpAny_Call_method0_late hbase hline<|nq (he pins s σ H _ I h) λv f h9=>?_;obtain⟨x,H1,j,r1,d,kvs,ex,B,C⟩:=h9;subst ex
 cases r1
 obtain⟨ob,es,ep,us,g,k,t,G,q,_⟩:=Pa j B;refine⟨"dict", "dict.values",fH,PySem.F.slot_dict_values,PySem.F.type_dict_values,⟨ob,g,k⟩,λa D=>?_,eO rfl<|PySem.evalArgs_none<|HS ⟨ob,g,k⟩ q ?_⟩
 ·cases D
  exact⟨ob,g,t⟩
 have hn:(f.heap.push { cls:=.type "dict_values",data:=.fields #[.ref d]}).get? f.heap.objs.size=some { cls:=.type "dict_values",data:=.fields #[.ref d]}:=br _ rfl;exact⟨.ref f.heap.objs.size,_,j.laid (o:=.frz { cls:=.type "dict_values",data:=.fields #[.ref d]} (.own f.heap.objs.size)) (t':=f.toks) (λb o p=>aQ _ p) (aN _) ⟨hn,_,hn⟩,rfl,C _ _ rfl rfl j.fresh⟩
def BO(hc:X.calm=true)(hu:X.A.units+64<cLine):kM X (.builtin "sorted") (λxs H Q=>∃(r d:ak) (o:Obj) (u:HO) (kvs:List<|Key×V) (rs:bb) (kss:List<|ag),xs=[.ref r]/\H r=some (.frz o u)/\o.cls=.type "dict_values" /\ o.data=.fields #[.ref d]/\H d=some (.dK kvs)/\kvs.map (·.2)=rs.map V.ref/\Sx.RO kss.length/\rs.length=kss.length/\kss.Nodup /\
  (∀(i:Nat) (r:ak) (ks:ag),rs[i]?=some r->kss[i]?=some ks->∃(t:ak) (vs:List V),oS X.K H r (.ref t::vs)/\nh X.K H t (ks.map V.int)) /\
  ∀l g,H l=none->Sx.Cl g 0 kss.length->Sx.So (Sx.uv kss) g 0 kss.length->Q (.ref l) (upd H l<|.lst<|((List.range kss.length).map λi=>rs.getD (g i) 0).map V.ref)):=by
 kt_k;obtain⟨C,d,o,u,kvs,rs,kss,rfl,L,T,M,ed,k,J,p,B,hT,q⟩:=h;obtain⟨v,rfl,rx⟩:=vals1 r
 cases rx
 obtain⟨ob,es,ep,us,Y,g2,g3,W,g5,P,G,D,U⟩:=Pa I ed;have N:s.heap.get? C=some o:=(show lE _ _ H s.heap C (.frz o u)from I.hok C _ L).1;rw[k]at D;have Z:=tQ D;have lk:kvs.length=rs.length:=by have:=cV List.length k;simpa using this
 refine dw iV iz iA (iB _) ?_;unfold Builtin.«sorted»;kl_no;refine aG (gD (Ut W) (show X.A.in1.handled=none from I.ok.hd hc) ⟨⟨o,N,T,M⟩,Y⟩ (by rw[G];exact P) λh' tk acc F f=>?_);have O:acc.toList=rs.map Value.ref:=by
  rw[<- Z];refine dR λj=>?_;rw[cE,<- U j]
  cases e:acc[j]? with
  | some v=>exact(f.2 j v e).symm
  | none=>
   have:acc.size<=j:=gh.mp e;rw[dQ<|by rw[<- f.1];exact this];rfl
 rw[O];exact A9 (s:=s) hu (I.kept (t':=tk) F) J p () B hT q
end
end L2
namespace Am
open PySem PySem.Spec PyProof.Rows L2
section
variable {X:Cx}
theorem Oj{K:au}{H:Hp}:∀{kvs:List<|Str×A}{ks:List<|Key×V},DS K ρ H kvs ks->AVs K ρ H (kvs.map (·.2)) (ks.map (·.2))
 | [],[],_=>.nil
 | _::_,_::_,h=>.cons h.1.2<|Oj h.2
abbrev YG (a:A)(S:jV):R A:=match a with
 | .ref n=>opt (se S n) λkvs=>Mr (kvs.map (·.2)) S
 | _=>.no
abbrev ZM (c:Ex):Ex:=λτ S=>(c τ S).bind λa S1=>YG a S1
def VA{c:Ex}:ZM c τ S=(c τ S).bind YG:=rfl
def MM{x:Str}{p apos cpos:Pos}{e:aE}{c:Ex}(hu:X.A.units+64<cLine)(hc:X.calm=true)(hm:X.mg x=none)(hv:bootBuiltins x=some (.builtin "sorted"))(ha:AE X e c)(hg:Gl X x<|>ε)(hn:x ≠ "__name__"<|>δ)(hdb:(x == ("__debug__" : Str))=false<|>δ)
  (hbase:attributeBase e "values" X.env (eval e X.env)=eval e X.env<|>ε) (hline:(apos.endLine == cpos.line)=true<|>ε)
  (he:starEach [.Call (.Attribute e "values" apos) [] [] cpos] X.env=(false,eval (.Call (.Attribute e "values" apos) [] [] cpos) X.env)::starEach [] X.env<|>ε) (hpl:((backTo pos<|starEach [] X.env).any (·.1)=false)<|>ε) :
  AE X (.Call (.Name x p) [.Call (.Attribute e "values" apos) [] [] cpos] [] pos) (ZM c):=
 PE.imp (FT (BO hc hu) hg hm hv (vV (NX ha hbase hline) Bs he) hn hdb he hpl) λσ H Q h9=>by
  z_go;refine⟨ρ,S,τ,R,r,jX (j5 h) .refl λa S1 h1 ρ1 H1 v e1 R1 v1=>?_⟩
  cases v1 with
  | ref J=>
   rename_i t n;obtain⟨kvs,hn,h1⟩:=jY h1;obtain⟨ks,g,G⟩:=R1.uY J<|sj hn;refine⟨t,ks,rfl,g,λj o K F k=>?_⟩;obtain⟨ex,R2⟩:=R1.im (u:=.frz o<|.own j) k;obtain⟨B,f,d,C,D,nd,L,q⟩:=Jh R2 ((Oj G).ext ex) (e1.trans ex) h1;exact⟨j,t,o,_,ks,B,f,rfl,kK,K,F,by rw[jZ<|kg g k];exact g,d,C,D,nd,L,q⟩
  | _=>exact h1.elim
end
section
variable {X:Cx}
abbrev sX (x:A)(S:jV):R A:=match x with
 | .ref n=>opt (jT S n) λxs=>opt (XG xs) λd=>gd (d.length<64) (.ok (.ref S.length)<|S++[.lst<|(kQ d).map λks=>.tup<|ks.map .int])
 | _=>.no
def D6:kM X (.builtin "sorted") (rN X<|f1 sX):=kM.imp Et λF H Q h0=>by
 kd_p;clear h0
 cases hv with
 | ref C=>
  rename_i p n;kj_on;obtain⟨d,hb,h⟩:=jY h;obtain⟨q,h⟩:=kB h;obtain⟨us,h1,r⟩:=R.lst C<|j8 hn;obtain⟨f,rfl,B,k⟩:=Wm r hb;refine⟨p,f,d,rfl,oS.of h1,Sx.Um q,B,λi r ks e1 e2=>⟨(k i r ks e1 e2).1,(k i r ks e1 e2).2.1⟩,λl g j hc hs=>?_⟩;have D:AVs X.K ρ H ((kQ d).map λks=>.tup<|ks.map .int) (((List.range d.length).map λi=>f.getD (g i) 0).map V.ref):=by
   rw[<- RJ hc hs,aY,aY];refine Ay λi t=>?_;have lt:=(hc i (bF _)<|cy.mp t).2;have e1:f[g i]?=some (f.getD (g i) 0):=by rw[aK,aI ()];rfl
   have e2:d[g i]?=some (d.getD (g i) []):=by rw[aK,aI lt];rfl
   exact(k _ _ _ e1 e2).2.2
  exact pJ R D .refl h l j
 | _=>exact h.elim
abbrev okK (kss:List<|ag):Bool:=kss.all (λks=>!ks.isEmpty) && decide (kss.length<64)
def Oo{kss:List<|ag}(h:∀k∈kss,k≠[])(h2:kss.length<64):okK kss=true:=by
 unfold okK;rw[bf h2,Bool.and_true];exact dM.mpr λk d=>by
  cases k with
  | nil=>exact absurd rfl (h _ d)
  | cons _ _=>rfl
def IU{H:Hp}{S:jV}{kvs:List<|ag×A}{ks:List<|List Key×V}{Q:VK}(R:Rel X.K ρ H S)(dv:DV X.K ρ H kvs ks)(h:(gd (okK (kvs.map Prod.fst)=true)<|Am.R.ok (A.ref S.length)<|S++[O.lst<|(kQ<|kvs.map Prod.fst).map λks=>.tup<|ks.map .int]).post (zN X ρ H Q)<|XE X ρ H) :
  ks.map (λp=>p.1)=(kvs.map Prod.fst).map (λks=>ks.map Sum.inl)/\(∀k∈kvs.map Prod.fst,k≠[])/\Sx.RO (kvs.map Prod.fst).length /\
  ∀(rs:bb) l g,rs.length=(kvs.map Prod.fst).length->(∀(i:Nat) (r:ak) (ks:ag),rs[i]?=some r->(kvs.map Prod.fst)[i]?=some ks->H r=some (.tup<|ks.map V.int))->H l=none->Sx.Cl g 0 (kvs.map Prod.fst).length->Sx.So (Sx.uv<|kvs.map Prod.fst) g 0 (kvs.map Prod.fst).length ->
   Q (.ref l) (upd H l<|.lst<|((List.range (kvs.map Prod.fst).length).map λi=>rs.getD (g i) 0).map V.ref):=by
 obtain⟨hb,h⟩:=kB h;unfold okK at hb;rw[dU]at hb;refine⟨KW dv,λk j z=>?_,Sx.Um<|bV hb.2,λrs l g B q d hc hs=>?_⟩
 ·have:=dM.mp hb.1 k j;rw[z]at this
  cases this
 have t:AVs X.K ρ H ((kQ<|kvs.map Prod.fst).map λks=>.tup<|ks.map .int) (((List.range (kvs.map Prod.fst).length).map λi=>rs.getD (g i) 0).map V.ref):=by
  rw[<- RJ hc hs,aY,aY];refine Ay λi f=>?_;have lt:=(hc i (bF _)<|cy.mp f).2;have e1:rs[g i]?=some (rs.getD (g i) 0):=by rw[aK,aI ()];rfl
  have e2:(kvs.map Prod.fst)[g i]?=some ((kvs.map Prod.fst).getD (g i) []):=by rw[aK,aI lt];rfl
  exact .tup (q _ _ _ e1 e2)<|rK _
 exact pJ R t .refl h l d
abbrev zA (x:A)(S:jV):R A:=match x with
 | .ref n=>opt (ki S n) λkvs=>gd (okK (kvs.map Prod.fst)=true) (.ok (.ref S.length)<|S++[.lst<|(kQ<|kvs.map Prod.fst).map λks=>.tup<|ks.map .int])
 | _=>.no
def Og(hc:X.calm=true):kM X (.builtin "sorted") (rN X<|f1 zA):=kM.imp (DK hc) λk H Q h0=>by
 kd_p;clear h0
 cases hv with
 | ref g=>
  rename_i p n;o_rec;obtain⟨ks,j,f⟩:=R.dct g<|mC hn;obtain⟨a,b,c,d⟩:=IU R f h;exact⟨p,ks,kvs.map Prod.fst,rfl,j,a,b,c,d⟩
 | _=>exact h.elim
abbrev D9 (x:A)(S:jV):R A:=match x with
 | .ref n=>opt (mj S n) λkvs=>gd (okK (kvs.map Prod.fst)=true) (.ok (.ref S.length)<|S++[.lst<|(kQ<|kvs.map Prod.fst).map λks=>.tup<|ks.map .int])
 | _=>.no
def Qo(hc:X.calm=true):kM X (.builtin "sorted") (rN X<|f1 D9):=kM.imp (CM hc) λk H Q h0=>by
 kd_p;clear h0
 cases hv with
 | ref g=>
  rename_i p n;o_rec;obtain⟨ks,j,f⟩:=Lh R g hn;obtain⟨a,b,c,d⟩:=IU R f h;exact⟨p,ks,kvs.map Prod.fst,rfl,j,a,b,c,d⟩
 | _=>exact h.elim
abbrev xO (x:A)(S:jV):R A:=match x with
 | .ref n=>opt (mR S n) λkvs=>gd (kvs.length<64) (.ok (.ref S.length)<|S++[.lst<|(sortI<|kvs.map Prod.fst).map .int])
 | _=>.no
def Qq(hc:X.calm=true):kM X (.builtin "sorted") (rN X<|f1 xO):=kM.imp (DZ hc) λB H Q h0=>by
 kd_p;clear h0
 cases hv with
 | ref k=>
  rename_i p n;o_rec;obtain⟨f,h⟩:=kB h;obtain⟨ks,q,j⟩:=R.qv k<|qW hn;refine⟨p,ks,kvs.map Prod.fst,rfl,q,by rw[j.keys,aY];rfl,Sx.Um<|by rw[aH];exact f,λl g d hc hs=>?_⟩;have t:AVs X.K ρ H ((sortI<|kvs.map Prod.fst).map .int) ((List.range (kvs.map Prod.fst).length).map λi=>V.int<|(kvs.map Prod.fst).getD (g i) 0):=by
   rw[<- UI hc hs,aY];exact Ay λi _=>.int _
  exact pJ R t .refl h l d
 | _=>exact h.elim
end
abbrev sH (f:A->Option PyData):ae->Option (List PyData)
 | []=>some []
 | x::xs=>(f x).bind λd=>(sH f xs).map λds=>d::ds
abbrev qO (S:jV):Nat->A->Option PyData
 | 0,_=>none
 | n+1,a=>match a with
  | .non=>some .none
  | .bl b=>some (.bool b)
  | .int i=>some (.int i)
  | .str x=>some (.str x)
  | .tup xs=>(sH (qO S n) xs).map λds=>.tuple ds
  | .ref i=>(jT S i).bind λxs=>(sH (qO S n) xs).map λds=>.list ds
  | _=>none
mutual
abbrev uX:PyData->Nat
 | .none | .bool _=>5
 | .int _=>1921
 | .str x=>(reprText x).length
 | .list xs | .tuple xs=>E6 xs+3
 | .dict _=>0
abbrev E6:List PyData->Nat
 | []=>0
 | x::xs=>uX x+2+E6 xs
end
def w6{f:A->Option PyData}{x:A}{ds:List PyData}(h:sH f (x::xs)=some ds):∃d es,f x=some d/\sH f xs=some es/\ds=d::es:=by
 obtain⟨d,e1,h⟩:=bN.mp h;obtain⟨es,e2,rfl⟩:=aP.mp h;exact⟨d,es,e1,e2,rfl⟩
theorem z_{f:A->Option PyData}(hf:∀x d,f x=some d->d.hasDict=false):∀{xs:ae}{ds:List PyData},sH f xs=some ds->PyData.hasDictAll ds=false
 | [],ds,h=>by cases h;dsimp[PyData.hasDictAll]
 | x::xs,ds,h=>by
  obtain⟨d,es,e1,e2,rfl⟩:=w6 h;dsimp[PyData.hasDictAll,hf x d e1,z_ hf e2,Bool.or_self]
theorem Br:∀(n:Nat) (a:A) (d:PyData),qO S n a=some d->d.hasDict=false
 | 0,a,d,h=>nomatch h
 | n+1,a,d,h=>by
  cases a with
  | non=>cases h;dsimp[PyData.hasDict]
  | bl b=>cases h;dsimp[PyData.hasDict]
  | int i=>cases h;dsimp[PyData.hasDict]
  | str x=>cases h;dsimp[PyData.hasDict]
  | tup xs=>obtain⟨ds,e,rfl⟩:=aP.mp h;dsimp[PyData.hasDict];exact z_ (Br n) e
  | ref i=>
   obtain⟨xs,_,h⟩:=bN.mp h;obtain⟨ds,e,rfl⟩:=aP.mp h;dsimp[PyData.hasDict];exact z_ (Br n) e
  | _=>cases h
theorem AB{f:A->Option PyData}{n:Nat}(hf:∀x d,f x=some d->d.depth<=n):∀{xs:ae}{ds:List PyData},sH f xs=some ds->PyData.depthAll ds<=n
 | [],ds,h=>by cases h;dsimp[PyData.depthAll];exact bF _
 | x::xs,ds,h=>by
  obtain⟨d,es,e1,e2,rfl⟩:=w6 h;dsimp[PyData.depthAll];exact Nat.max_le.mpr ⟨hf x d e1,AB hf e2⟩
theorem AY:∀(n:Nat) (a:A) (d:PyData),qO S n a=some d->d.depth<=n
 | 0,a,d,h=>nomatch h
 | n+1,a,d,h=>by
  cases a with
  | non=>cases h;dsimp[PyData.depth];exact bF _
  | bl b=>cases h;dsimp[PyData.depth];exact bF _
  | int i=>cases h;dsimp[PyData.depth];exact bF _
  | str x=>cases h;dsimp[PyData.depth];exact bF _
  | tup xs=>obtain⟨ds,e,rfl⟩:=aP.mp h;dsimp[PyData.depth];exact jy (AB (AY n) e)
  | ref i=>
   obtain⟨xs,_,h⟩:=bN.mp h;obtain⟨ds,e,rfl⟩:=aP.mp h;dsimp[PyData.depth];exact jy<|AB (AY n) e
  | _=>cases h
mutual
theorem Ae:∀d:PyData,d.showable=true->d.hasDict=false->d.shown.length<=uX d
 | .none,_,_=>by dsimp[PyData.shown,uX];decide
 | .bool true,_,_=>by dsimp[PyData.shown,uX];decide
 | .bool false,_,_=>by dsimp[PyData.shown,uX];decide
 | .int i,h,_=>by
  have h:i.natAbs.log2<1920:=by simpa[PyData.showable]using h
  dsimp[PyData.shown,uX];exact PyProof.Rows.int_text_len_1921 h
 | .str x,_,_=>by dsimp[PyData.shown,uX];exact aN _
 | .list xs,h,h'=>by
  have h:PyData.showableAll xs=true:=by simpa[PyData.showable]using h
  have h':PyData.hasDictAll xs=false:=by simpa[PyData.hasDict]using h'
  obtain⟨l,e⟩:=vG xs h h';dsimp[PyData.shown,uX];have:=listText_len_le<|PyData.shownAll xs;rw[l]at this
  lia
 | .tuple xs,h,h'=>by
  have h:PyData.showableAll xs=true:=by simpa[PyData.showable]using h
  have h':PyData.hasDictAll xs=false:=by simpa[PyData.hasDict]using h'
  obtain⟨l,e⟩:=vG xs h h';dsimp[PyData.shown,uX];have:=tupleText_len_le<|PyData.shownAll xs;rw[l]at this
  lia
 | .dict kvs,_,h=>by simp[PyData.hasDict]at h
theorem vG:∀xs:List PyData,PyData.showableAll xs=true->PyData.hasDictAll xs=false->(PyData.shownAll xs).length=xs.length/\((PyData.shownAll xs).map (·.length)).sum+2 * xs.length<=E6 xs
 | [],_,_=>by dsimp[PyData.shownAll,E6];exact⟨rfl,aN _⟩
 | x::xs,h,h'=>by
  have h:x.showable=true/\PyData.showableAll xs=true:=by simpa[PyData.showableAll]using h
  have h':x.hasDict=false/\PyData.hasDictAll xs=false:=by simpa[PyData.hasDictAll]using h'
  have a:=Ae x h.1 h'.1;obtain⟨l,b⟩:=vG xs h.2 h'.2;dsimp[PyData.shownAll,E6,bC,fZ,bB]
  lia
end
section
variable {X:Cx}{pins:bn}{σ:L2.St}{H:Hp}{s:aC}{ρ:bb}{S:jV}
theorem yG{f:A->Option PyData}(hf:∀a x u d,AV X.K ρ H a x->RelV x u->f a=some d->∃as,Reads s.heap u d as):∀{xs:ae}{vs:List V}{us:ba}{ds:List PyData},AVs X.K ρ H xs vs->Vals vs us->sH f xs=some ds->∃as,ReadsAll s.heap us ds as
 | [],vs,us,ds,h1,h2,h=>by cases h1;cases h2;cases h;exact⟨_,.nil⟩
 | x::xs,vs,us,ds,h1,h2,h=>by
  cases h1 with
  | cons a b=>
   cases h2 with
   | cons r t=>
    obtain⟨d,es,e1,e2,rfl⟩:=w6 h;obtain⟨as,q⟩:=hf _ _ _ _ a r e1;obtain⟨bs,g⟩:=yG hf b t e2;exact⟨_,.cons q g⟩
theorem Ar(I:Inv X pins σ H s)(R:Rel X.K ρ H S):∀(n:Nat) (a:A) (x:V) (u:af) (d:PyData),AV X.K ρ H a x->RelV x u->qO S n a=some d->∃as,Reads s.heap u d as
 | 0,a,x,u,d,_,_,h=>nomatch h
 | n+1,a,x,u,d,ha,r,h=>by
  cases ha with
  | non=>cases h;cases(show u=Value.none from r);exact⟨_,.none⟩
  | bl b=>cases h;cases(show u=Value.bool b from r);exact⟨_,.bool b⟩
  | int i=>cases h;obtain⟨t,rfl⟩:∃t,u=Value.int i t:=r;exact⟨_,.int i t⟩
  | str i=>cases h;obtain⟨t,rfl⟩:∃t,u=Value.str i t:=r;exact⟨_,.str i t⟩
  | tup h1 r1=>
   cases(show u=Value.ref _ from r)
   obtain⟨ds,e,rfl⟩:=aP.mp h;obtain⟨us,g,p,_⟩:=I.tuple<|nh.of h1;obtain⟨o,f,hc,k,j⟩:=p;obtain⟨as,q⟩:=yG (Ar I R n) r1 g e;exact⟨_,.tuple f hc j q⟩
  | ref h1=>
   cases(show u=Value.ref _ from r)
   obtain⟨xs,e1,h⟩:=bN.mp h;obtain⟨ds,e,rfl⟩:=aP.mp h;obtain⟨B,h3,r1⟩:=R.lst h1<|j8 e1;obtain⟨us,g,p,_⟩:=I.list<|oS.of h3;obtain⟨o,k,f,hc,_,j⟩:=p;obtain⟨as,q⟩:=yG (Ar I R n) r1 g e;exact⟨_,.list f hc j q⟩
  | _=>cases h
def U6:bootBuiltins "repr" = some (.builtin "repr"):=by decide +kernel
abbrev GB (x:A)(S:jV):R A:=opt (qO S 9 x) λd=>gd (d.showable=true/\uX d<=sizeLine)<|.ok (.str d.shown) S
def ZD(hu:X.A.units+64<cLine)(hg:X.A.guards=some []):kM X (.builtin "repr") (rN X<|f1 GB):=λpins s σ H xs us Q I r h0=>by
 kd_p;clear h0;kcf_m;obtain⟨d,e,h⟩:=jY h;obtain⟨⟨hs,hc⟩,h⟩:=kB h;have nd:=Br _ _ _ e;have p:=AY _ _ _ e;have sz:=bK (Ae d hs nd) hc;obtain⟨as,q⟩:=Ar I R 9 x w u d hv rx e;have f:∀h' v j,(∀b o,s.heap.get? b=some o->h'.get? b=some o)->EP X pins σ Q (.str d.shown v) { s with heap:=h',toks:=j }:=λh' v j k=>⟨.str d.shown,H,I.kept k,⟨v,rfl⟩,h _ _ _ .refl R<|.str _⟩
 cases q with
 | none=>exact P.repr_of_none (by have:=f s.heap s.toks (s.toks+1) λ_ _ z=>z;simpa only [PyData.shown]using this)
 | bool b=>exact P.repr_of_bool (by have:=f s.heap s.toks (s.toks+1) λ_ _ z=>z;simpa only [PyData.shown]using this)
 | int i t=>exact P.repr_of_int (by simpa[PyData.showable]using hs) (by have:=f s.heap s.toks (s.toks+1) λ_ _ z=>z;simpa only [PyData.shown]using this)
 | str y t=>exact P.repr_of_str (by have:=f s.heap s.toks (s.toks+1) λ_ _ z=>z;simpa only [PyData.shown]using this) (by simpa only [PyData.shown]using sz)
 | list h1 h2 h3 g=>exact repr_of_reads' (.list h1 h2 h3 g) hs (PyData.noDict_hsm nd) hg () (λ_ _ z=>z) f sz
 | tuple h1 h2 h3 g=>exact repr_of_reads' (.tuple h1 h2 h3 g) hs (PyData.noDict_hsm nd) hg () (λ_ _ z=>z) f sz
 | dict h1 h2 h3 g B=>simp[PyData.hasDict]at nd
end
end Am
namespace K67
open PySem L2 Am
abbrev top (i:Nat):aF:=PySem.Challenge.pw_undercells_k67_left_hearths.main.body.getD i<|.Pass ⟨0,0,0,0⟩
meta abbrev wO:aF:=top 7
meta abbrev wQ:ar:=["thing"]
meta abbrev um:ar:=["thing"]
abbrev wV:Sm:=
 mw (QW (kj (f2 yx)<|jS (jR 0)<|jS (eC<|.ty "int") j0)<|Z4<|kj (f2 yx)<|jS (jR 0)<|jS (eC<|.ty "bool") j0)
abbrev oK:ae->jV->R A:=lY wQ wV
meta abbrev vK:aF:=top 8
meta abbrev u5:ar:=["one", "other"]
meta abbrev vd:ar:=["one", "other"]
abbrev vq:Sm:=
 yo (sG<|j6 (yc true) (kj (f1 tP)<|jS (jR 0) j0)<|kj (f1 tP)<|jS (jR 1) j0)
 (sNo)
 qR
abbrev qg:ae->jV->R A:=lY u5 vq
meta abbrev Ig:aF:=top 9
meta abbrev HA:ar:=["order", "places", "at", "thing"]
meta abbrev Ij:ar:=["order"]
abbrev RL:Ic:=
 MZ (jR 0)
abbrev Fe:Sm:=
 kP (j6 nB (jR 2)<|eC<|.int 1) (Uu (jR 1)<|j6 aSub (jR 3)<|eC<|.int 1)
abbrev G5:Sm:=
 ko (kP (j6 yC (qJ<|jS (eC<|.int 0) j0)<|kj (f1 tP)<|jS (jR 0) j0)<|kG 1)
 (ko (mX RL (Bv 2<|tB (kG 2)<|tB (kG 3) Bw)
 Fe)
 (mw<|kj (f1 vf)<|jS (jR 1) j0))
abbrev xy:ae->jV->R A:=lY HA G5
meta abbrev s_:aF:=top 10
meta abbrev sP:ar:=["n", "thing"]
meta abbrev sZ:ar:=["n", "thing"]
abbrev sL:Sm:=
 mw (QW (eFn oK<|jS (jR 1) j0)<|eCh aLe Zr (eC<|.int 1) (jR 1)<|jR 0)
abbrev nW:ae->jV->R A:=lY sP sL
meta abbrev oE:aF:=top 11
meta abbrev oz:ar:=["order", "i", "j", "things"]
meta abbrev oB:ar:=["order", "i", "j"]
abbrev oG:Sm:=
 ko (kP (kj (f1 ze)<|jS (jR 0) j0)<|kG 3)
 (ko (kP (pK<|jS (j6 pP (jR 3)<|j6 aSub (jR 2)<|eC<|.int 1)<|jS (j6 pP (jR 3)<|j6 aSub (jR 1)<|eC<|.int 1) j0)<|Bv 2<|tB (Uu (jR 3)<|j6 aSub (jR 1)<|eC<|.int 1)<|tB (Uu (jR 3)<|j6 aSub (jR 2)<|eC<|.int 1) Bw)
 (mw<|kj (f1 vf)<|jS (jR 3) j0))
abbrev mD:ae->jV->R A:=lY oz oG
meta abbrev vH:aF:=top 12
meta abbrev u7:ar:=["order", "k"]
meta abbrev sA:ar:=["order", "k"]
abbrev u9:Sm:=
 ko (yo (BC<|rO<|eFn nW<|jS (kj (f1 tP)<|jS (jR 0) j0)<|jS (jR 1) j0)
 (sNo)
 qR)
 (mw<|eFn mD<|jS (jR 0)<|jS (jR 1)<|jS (j6 nB (jR 1)<|eC<|.int 1) j0)
abbrev nG:ae->jV->R A:=lY u7 u9
meta abbrev CV:aF:=top 13
meta abbrev DX:ar:=["order"]
meta abbrev ue:ar:=["order"]
abbrev CO:Sm:=
 mw (kL [none,some 0] (uU (eC<|.int 1)<|kj (f1 tP)<|jS (jR 0) j0) (kG 0) (sG<|j6 MW (j6 pP (jR 1)<|j6 aSub (jR 0)<|eC<|.int 1)<|j6 pP (jR 1)<|jR 0)<|jR 0)
abbrev mU:ae->jV->R A:=lY DX CO
meta abbrev vJ:aF:=top 14
meta abbrev vO:ar:=["n", "many", "k"]
meta abbrev sq:ar:=["n"]
abbrev wI:Ic:=
 uU (eC<|.int 2) (j6 nB (jR 0)<|eC<|.int 1)
abbrev wH:Sm:=
 O0 1 Xk (jR 2)
abbrev u_:Sm:=
 ko (kP (eC<|.int 1)<|kG 1)
 (ko (mX wI (kG 2)
 wH)
 (mw<|jR 1))
abbrev mQ:ae->jV->R A:=lY vO u_
meta abbrev wW:aF:=top 15
meta abbrev w_:ar:=["n", "number", "left", "things", "many"]
meta abbrev wN:ar:=["n", "number"]
abbrev ug:Te:=
 rO (jR 2)
abbrev uc:Sm:=
 ko (kP (eFn mQ<|jS (j6 aSub (kj (f1 tP)<|jS (jR 2) j0)<|eC<|.int 1) j0)<|kG 4)
 (ko (nA<|F8 mV (jR 3)<|jS (F8 HB (jR 2)<|jS (j6 z9 (jR 1)<|jR 4) j0) j0)
 (kP (j6 aSub (jR 1)<|j6 yC (j6 z9 (jR 1)<|jR 4)<|jR 4)<|kG 1))
abbrev wL:Sm:=
 ko (yo (Zz (BC<|rO<|eFn oK<|jS (jR 1) j0)<|Zz (sG<|j6 Zr (jR 1)<|eC<|.int 0)<|sG<|j6 aGe (jR 1)<|eFn mQ<|jS (jR 0) j0)
 (sNo)
 qR)
 (ko (kP (kj (f1 ze)<|jS (kj (f2 Ei)<|jS (eC<|.int 1)<|jS (j6 nB (jR 0)<|eC<|.int 1) j0) j0)<|kG 2)
 (ko (kP (qJ j0)<|kG 3)
 (ko (lD ug
 uc 1000000)
 (mw<|kj (f1 vf)<|jS (jR 3) j0))))
abbrev oJ:ae->jV->R A:=lY w_ wL
meta abbrev qA:aF:=top 17
meta abbrev qz:ar:=["numbers"]
meta abbrev oq:ar:=["numbers"]
abbrev qE:Sm:=
 mw (kL [none,some 0] (lJ<|kj (f1 xO)<|jS (jR 0) j0) (kG 0) (sG<|j6 (yc true) (j6 A_ (jR 1)<|jR 0)<|eC<|.int 0)<|pK<|jS (jR 0)<|jS (j6 A_ (jR 1)<|jR 0) j0)
abbrev lX:ae->jV->R A:=lY qz qE
meta abbrev HN:aF:=top 18
meta abbrev Ho:ar:=["one", "other", "numbers", "power", "number"]
meta abbrev GJ:ar:=["one", "other"]
abbrev ye:Ic:=
 lJ (jR 1)
abbrev Gk:Sm:=
 kP (j6 nB (Hu xP (jR 2)<|jS (jR 3)<|jS (eC<|.int 0) j0)<|jR 4) (MO (jR 2)<|jR 3)
abbrev HG:Sm:=
 ko (kP (kj (f1 C_)<|jS (jR 0) j0)<|kG 2)
 (ko (mX ye (Bv 2<|tB (kG 3)<|tB (kG 4) Bw)
 Gk)
 (mw<|eFn lX<|jS (jR 2) j0))
abbrev Aa:ae->jV->R A:=lY Ho HG
meta abbrev DW:aF:=top 19
meta abbrev DO:ar:=["one", "other", "numbers", "power", "number", "high", "many"]
meta abbrev zO:ar:=["one", "other"]
abbrev Mu:Ic:=
 lJ (jR 1)
abbrev Lu:Sm:=
 kP (j6 nB (Hu xP (jR 2)<|jS (j6 nB (jR 3)<|jR 5)<|jS (eC<|.int 0) j0)<|j6 Jb (jR 4)<|jR 6) (MO (jR 2)<|j6 nB (jR 3)<|jR 5)
abbrev CG:Ic:=
 lJ (jR 0)
abbrev Cv:Sm:=
 mX Mu (Bv 2<|tB (kG 5)<|tB (kG 6) Bw)
 Lu
abbrev D7:Sm:=
 ko (kP GX<|kG 2)
 (ko (mX CG (Bv 2<|tB (kG 3)<|tB (kG 4) Bw)
 Cv)
 (mw<|eFn lX<|jS (jR 2) j0))
abbrev sC:ae->jV->R A:=lY DO D7
meta abbrev uR:aF:=top 22
meta abbrev t8:ar:=["found", "order", "poly"]
meta abbrev pC:ar:=["found", "order", "poly"]
abbrev uB:Sm:=
 kP (eFn Aa<|jS (YN Yq (jR 0)<|jS (jR 1)<|jS (qJ j0) j0)<|jS (jR 2) j0) (LO (jR 0)<|jR 1)
abbrev lB:ae->jV->R A:=lY t8 uB
meta abbrev Aq:aF:=top 23
meta abbrev Bb:ar:=["found"]
meta abbrev vj:ar:=["found"]
abbrev Bj:Sm:=
 mw (kL [none,some 0] (lJ<|kj (f1 zA)<|jS (jR 0) j0) (kG 0) (rO<|j6 uJ (jR 1)<|jR 0)<|pK<|jS (jR 0)<|jS (j6 uJ (jR 1)<|jR 0) j0)
abbrev pI:ae->jV->R A:=lY Bb Bj
meta abbrev vg:aF:=top 24
meta abbrev vN:ar:=["one", "other"]
meta abbrev vI:ar:=["one", "other"]
abbrev vP:Sm:=
 yo (An (rO<|jR 0)<|rO<|jR 1)
 (nA<|eFn qg<|jS (j6 pP (j6 pP (jR 0)<|eC<|.int 0)<|eC<|.int 0)<|jS (j6 pP (j6 pP (jR 1)<|eC<|.int 0)<|eC<|.int 0) j0)
 qR
abbrev qp:ae->jV->R A:=lY vN vP
meta abbrev Dl:aF:=top 25
meta abbrev CZ:ar:=["one", "other", "found", "order", "poly"]
meta abbrev C6:ar:=["one", "other"]
abbrev v9:Ic:=
 lJ (j6 nB (jR 0)<|jR 1)
abbrev vX:Sm:=
 nA (eFn lB<|jS (jR 2)<|jS (jR 3)<|jS (jR 4) j0)
abbrev CH:Sm:=
 ko (nA<|eFn qp<|jS (jR 0)<|jS (jR 1) j0)
 (ko (kP B7<|kG 2)
 (ko (mX v9 (Bv 2<|tB (kG 3)<|tB (kG 4) Bw)
 vX)
 (mw<|eFn pI<|jS (jR 2) j0)))
abbrev uh:ae->jV->R A:=lY CZ CH
meta abbrev zT:aF:=top 26
meta abbrev AD:ar:=["poly", "one", "found", "order", "many"]
meta abbrev zS:ar:=["poly", "one"]
abbrev uL:Ic:=
 lJ (jR 1)
abbrev uK:Sm:=
 nA (eFn lB<|jS (jR 2)<|jS (jR 3)<|jS (eFn sC<|jS (jR 0)<|jS (jR 4) j0) j0)
abbrev Ah:Sm:=
 ko (kP B7<|kG 2)
 (ko (mX uL (Bv 2<|tB (kG 3)<|tB (kG 4) Bw)
 uK)
 (mw<|eFn pI<|jS (jR 2) j0))
abbrev rD:ae->jV->R A:=lY AD Ah
meta abbrev sU:aF:=top 27
meta abbrev sS:ar:=["one", "k", "found", "order", "poly"]
meta abbrev sM:ar:=["one", "k"]
abbrev n8:Ic:=
 lJ (jR 0)
abbrev ng:Sm:=
 ko (nA<|eFn lB<|jS (jR 2)<|jS (eFn nG<|jS (jR 3)<|jS (jR 1) j0)<|jS (jR 4) j0)
 (yo (sG<|j6 (LN false) (jR 1)<|eFn mU<|jS (jR 3) j0)
 (nA<|eFn lB<|jS (jR 2)<|jS (jR 3)<|jS (eFn sC<|jS (kj (f1 ze)<|jS (eC<|.frz<|[((-1:Int),(1:Int)),((1:Int),(-1:Int))].map kA) j0)<|jS (jR 4) j0) j0)
 qR)
abbrev sQ:Sm:=
 ko (kP B7<|kG 2)
 (ko (mX n8 (Bv 2<|tB (kG 3)<|tB (kG 4) Bw)
 ng)
 (mw<|eFn pI<|jS (jR 2) j0))
abbrev nk:ae->jV->R A:=lY sS sQ
meta abbrev qw:aF:=top 29
meta abbrev qB:ar:=["poly"]
meta abbrev n9:ar:=["poly"]
abbrev qG:Sm:=
 mw (Hu xP (kj (f1 C_)<|jS (jR 0) j0)<|jS (eC<|.int 1)<|jS (eC<|.int 0) j0)
abbrev lZ:ae->jV->R A:=lY qB qG
meta abbrev rC:aF:=top 31
meta abbrev lK:ar:=["order", "k", "known", "less", "told", "lower", "poly", "number"]
meta abbrev nI:ar:=["order", "k", "known"]
abbrev p8 (Fs:ae->jV->R A):Ic:=
 lJ (jR 3)
abbrev nK (Fs:ae->jV->R A):Sm:=
 ko (kP (eFn lZ<|jS (jR 6) j0)<|kG 7)
 (yo (An (sG<|j6 (yc true) (jR 7)<|eC<|.int 0)<|sG<|j6 (LN false) (jR 1)<|eFn mU<|jS (jR 5) j0)
 (kP (eFn uh<|jS (jR 4)<|jS (eFn rD<|jS (qJ<|jS (pK<|jS (eC<|.int 0)<|jS (eUn N4<|jR 7) j0) j0)<|jS (eFn Fs<|jS (jR 5)<|jS (jR 2) j0) j0) j0)<|kG 4)
 qR)
abbrev lN (Fs:ae->jV->R A):Sm:=
 ko (kP (eFn Fs<|jS (eFn nG<|jS (jR 0)<|jS (jR 1) j0)<|jS (jR 2) j0)<|kG 3)
 (ko (kP (eFn uh<|jS (eFn nk<|jS (jR 3)<|jS (jR 1) j0)<|jS (eFn rD<|jS (qJ<|jS (pK<|jS (eC<|.int 1)<|jS (eC<|.int 1) j0) j0)<|jS (jR 3) j0) j0)<|kG 4)
 (ko (mX (p8 Fs) (Bv 2<|tB (kG 5)<|tB (kG 6) Bw)
 (nK Fs))
 (mw<|jR 4)))
meta abbrev qY:aF:=top 30
meta abbrev o6:ar:=["order", "known", "ends"]
meta abbrev mO:ar:=["order", "known"]
abbrev o_ (Fs:ae->jV->R A):Sm:=
 ko (yo (sG<|j6 (Mf true) (jR 0)<|jR 1)
 (ko (kP (eFn mU<|jS (jR 0) j0)<|kG 2)
 (yo (rO<|jR 2)
 (kP (eFn (lY lK<|lN Fs)<|jS (jR 0)<|jS (j6 pP (jR 2)<|eC<|.int 0)<|jS (jR 1) j0)<|LO (jR 1)<|jR 0)
 (kP (qJ<|jS (pK<|jS (jR 0)<|jS (qJ<|jS (pK<|jS (eC<|.int 0)<|jS (eC<|.int 1) j0) j0) j0) j0)<|LO (jR 1)<|jR 0)))
 qR)
 (mw<|j6 uJ (jR 1)<|jR 0)
abbrev nu:Nat->ae->jV->R A
 | 0=>λ_ _=>.no
 | k+1=>lY o6<|o_<|nu k
abbrev uE:ae->jV->R A:=nu 8
meta abbrev sN:aF:=top 32
meta abbrev sR:ar:=["orders", "known", "told", "upper", "lower", "poly", "number"]
meta abbrev tu:ar:=["orders"]
abbrev qK:Ic:=
 lJ (eFn uE<|jS (jR 3)<|jS (jR 1) j0)
abbrev qH:Sm:=
 ko (kP (eFn lZ<|jS (jR 5) j0)<|kG 6)
 (yo (sG<|j6 (yc true) (jR 6)<|eC<|.int 0)
 (ko (kP (jR 6)<|UY (jR 2)<|pK<|jS (jR 4)<|jS (jR 3) j0)
 (kP (jR 6)<|UY (jR 2)<|pK<|jS (jR 3)<|jS (jR 4) j0))
 qR)
abbrev qy:Ic:=
 lJ (jR 0)
abbrev n5:Sm:=
 mX qK (Bv 2<|tB (kG 4)<|tB (kG 5) Bw)
 qH
abbrev sY:Sm:=
 ko (kP B7<|kG 1)
 (ko (kP (HV)<|kG 2)
 (ko (mX qy (kG 3)
 n5)
 (mw<|jR 2)))
abbrev nS:ae->jV->R A:=lY sR sY
meta abbrev uT:aF:=top 35
meta abbrev t7:ar:=["n"]
meta abbrev uf:ar:=["n"]
abbrev ux:Sm:=
 ko (yo (sG<|j6 MW (jR 0)<|eC<|.int 4)
 (sNo)
 qR)
 (mw<|kL [none,some 0] (tH<|eFn mQ<|jS (jR 0) j0) (kG 0) nM<|eFn oJ<|jS (jR 1)<|jS (jR 0) j0)
abbrev oV:ae->jV->R A:=lY t7 ux
meta abbrev pS:aF:=top 36
meta abbrev pX:ar:=["one", "other"]
meta abbrev qa:ar:=["one", "other"]
abbrev pW:Sm:=
 mw (kj (f1 W_)<|jS (kL [none,some 1] (lJ<|eFn mU<|jS (jR 0) j0) (kG 0) nM<|j6 (LN true) (jR 0)<|eFn mU<|jS (jR 1) j0) j0)
abbrev kH:ae->jV->R A:=lY pX pW
meta abbrev r6:aF:=top 37
meta abbrev r8:ar:=["start", "next_ones", "reached", "waiting", "here", "order"]
meta abbrev rF:ar:=["start", "next_ones"]
abbrev nL:Ic:=
 lJ (j6 Q5 (jR 1)<|jR 4)
abbrev pY:Sm:=
 yo (sG<|j6 (Mf true) (jR 5)<|jR 2)
 (ko (kP (eC<|.bl true)<|LO (jR 2)<|jR 5)
 (nA<|F8 mV (jR 3)<|jS (jR 5) j0))
 qR
abbrev kW:Te:=
 rO (jR 3)
abbrev lI:Sm:=
 ko (kP (Qn Xc<|jR 3)<|kG 4)
 (mX nL (kG 5)
 pY)
abbrev r9:Sm:=
 ko (kP (J9 (jR 0)<|eC<|.bl true)<|kG 2)
 (ko (kP (qJ<|jS (jR 0) j0)<|kG 3)
 (ko (lD kW
 lI 1000000)
 (mw<|jR 2)))
abbrev mE:ae->jV->R A:=lY r8 r9
meta abbrev xg:aF:=top 38
meta abbrev xx:ar:=["next_ones", "reached", "told", "order", "hearth"]
meta abbrev wJ:ar:=["next_ones"]
abbrev uw:Ic:=
 lJ (kj (f1 D9)<|jS (jR 0) j0)
abbrev o5:Sm:=
 ko (kP (kj (f1 sX)<|jS (kL [none,some 3,some 1] (Gy<|j6 uJ (jR 1)<|jR 3) (kG 0) (sG<|j6 (Mt false) (jR 1)<|j6 uJ (jR 2)<|jR 0)<|jR 0) j0)<|kG 4)
 (yo (sG<|j6 (yc false) (j6 pP (jR 4)<|eC<|.int 0)<|jR 3)
 (nA<|F8 mV (jR 2)<|jS (jR 4) j0)
 qR)
abbrev wK:Sm:=
 ko (kP (Wj (.dct []) qP [none,some 0] (Gy<|jR 0) (kG 0) nM (jR 0)<|eFn mE<|jS (jR 0)<|jS (jR 1) j0)<|kG 1)
 (ko (kP (qJ j0)<|kG 2)
 (ko (mX uw (kG 3)
 o5)
 (mw<|jR 2)))
abbrev rH:ae->jV->R A:=lY xx wK
meta abbrev qx:aF:=top 39
meta abbrev qI:ar:=["n", "orders", "leads"]
meta abbrev n_:ar:=["n"]
abbrev qF:Sm:=
 ko (kP (eFn oV<|jS (jR 0) j0)<|kG 1)
 (ko (kP (eFn nS<|jS (jR 1) j0)<|kG 2)
 (mw<|eFn rH<|jS (Wj (.dct []) qP [none,some 1,some 2] (lJ<|jR 1) (kG 0) nM (jR 0)<|kL [none,some 2,some 0] (lJ<|jR 1) (kG 0) (An (sG<|j6 (Bx false) (pK<|jS (jR 2)<|jS (jR 0) j0)<|jR 1)<|rO<|eFn kH<|jS (jR 0)<|jS (jR 2) j0)<|jR 0) j0))
abbrev kR:ae->jV->R A:=lY qI qF
meta abbrev uO:aF:=top 40
meta abbrev uC:ar:=["hearths"]
meta abbrev t6:ar:=["hearths"]
abbrev t9:Sm:=
 mw (kj (f1 yP)<|jS (kL [none] (lJ<|jR 0) (kG 0) nM<|kj (f1 sX)<|jS (kL [none] (lJ<|jR 0) (kG 0) nM<|eFn xy<|jS (jR 0) j0) j0) j0)
abbrev pH:ae->jV->R A:=lY uC t9
meta abbrev rX:aF:=top 41
meta abbrev rT:ar:=["n"]
meta abbrev r_:ar:=["n"]
abbrev rS:Sm:=
 mw (eFn pH<|jS (eFn kR<|jS (jR 0) j0) j0)
abbrev lO:ae->jV->R A:=lY rT rS
meta abbrev xA:aF:=top 43
meta abbrev w4:ar:=["_law_script", "_law_k"]
meta abbrev wU:ar:=["_law_script", "_law_k"]
abbrev xr:Sm:=
 ko (yo (sG<|j6 Zr (jR 1)<|kj (f1 tP)<|jS (jR 0) j0)
 (mw<|j6 pP (jR 0)<|jR 1)
 qR)
 (mw<|eC<|.int 0)
abbrev rL:ae->jV->R A:=lY w4 xr
meta abbrev yl:aF:=top 44
meta abbrev yS:ar:=["_law_cell_here", "_law_place", "_law_far"]
meta abbrev yM:ar:=["_law_cell_here", "_law_place"]
abbrev yq:Sm:=
 ko (kP (kj (f1 Yi)<|jS (jR 0) j0)<|kG 2)
 (ko (yo (sG<|j6 Zr (jR 2)<|j6 Ys (eC<|.int 10)<|eC<|.int 18)
 (kP (eC<|.int 0)<|kG 2)
 qR)
 (mw<|qJ<|jS (jR 2)<|jS (j6 Dw (j6 nB (j6 nB (j6 yC (j6 Dw (jR 0)<|eC<|.int 2147483647)<|eC<|.int 69621)<|j6 yC (eC<|.int 7919)<|jR 1)<|eC<|.int 13)<|eC<|.int 2147483647) j0))
abbrev tO:ae->jV->R A:=lY yS yq
meta abbrev vc:aF:=top 45
meta abbrev vM:ar:=["_law_bag_here"]
meta abbrev vm:ar:=["_law_bag_here"]
abbrev vL:Sm:=
 ko (kP (j6 Dw (j6 nB (j6 yC (j6 pP (jR 0)<|eC<|.int 1)<|eC<|.int 48271)<|eC<|.int 11)<|eC<|.int 2147483647)<|Uu (jR 0)<|eC<|.int 1)
 (mw<|j6 z9 (j6 Dw (j6 yC (j6 pP (jR 0)<|eC<|.int 1)<|eC<|.int 16807)<|eC<|.int 2147483629)<|eC<|.int 8)
abbrev oQ:ae->jV->R A:=lY vM vL
meta abbrev vp:aF:=top 46
meta abbrev su:ar:=["_law_bag_here", "_law_many", "_law_found", "_law_k"]
meta abbrev vD:ar:=["_law_bag_here", "_law_many"]
abbrev BJ:Ic:=
 tH (eC<|.int 7)
abbrev BD:Sm:=
 kP (j6 nB (j6 yC (jR 2)<|eC<|.int 268435399)<|eFn oQ<|jS (jR 0) j0) (kG 2)
abbrev sD:Sm:=
 ko (yo (sG<|j6 MW (j6 pP (jR 0)<|eC<|.int 0)<|eC<|.int 0)
 (ko (kP (j6 Dw (j6 pP (jR 0)<|eC<|.int 0)<|jR 1)<|kG 2)
 (ko (kP (j6 z9 (j6 pP (jR 0)<|eC<|.int 0)<|jR 1)<|Uu (jR 0)<|eC<|.int 0)
 (mw<|jR 2)))
 qR)
 (ko (kP (eFn oQ<|jS (jR 0) j0)<|kG 2)
 (ko (yo (sG<|j6 MW (jR 1)<|eC<|.int 1000)
 (mX BJ (kG 3)
 BD)
 qR)
 (mw<|j6 Dw (jR 2)<|jR 1)))
abbrev mZ:ae->jV->R A:=lY su sD
meta abbrev ur:aF:=top 47
meta abbrev uM:ar:=["_law_row", "_law_first", "_law_second", "_law_number", "_law_letter", "_law_at", "_law_spots"]
meta abbrev uS:ar:=["_law_row"]
abbrev nH:Te:=
 sG (j6 (HL true) (jR 4)<|eC .non)
abbrev oU:Sm:=
 ko (yo (sG<|j6 (yc false) (jR 5)<|kj (f1 tP)<|jS (jR 1) j0)
 (ko (nA<|F8 mV (jR 1)<|jS (qJ j0) j0)
 (nA<|F8 mV (jR 2)<|jS (qJ j0) j0))
 qR)
 (ko (kP (kL [none,some 4,some 1,some 5] (tH<|kj (f1 tP)<|jS (j6 pP (jR 1)<|jR 5) j0) (kG 0) (sG<|j6 MW (j6 pP (j6 pP (jR 2)<|jR 3)<|jR 0)<|jR 1)<|jR 0)<|kG 6)
 (yo (sG<|j6 (yc false) (jR 6)<|qJ j0)
 (ko (nA<|F8 mV (j6 pP (jR 1)<|jR 5)<|jS (jR 4) j0)
 (ko (nA<|F8 mV (j6 pP (jR 2)<|jR 5)<|jS (j6 nB (jR 3)<|eC<|.int 1) j0)
 (kP (eC .non)<|kG 4)))
 (ko (kP (pK<|jS (j6 pP (j6 pP (jR 1)<|jR 5)<|j6 pP (jR 6)<|eC<|.int 0)<|jS (jR 4) j0)<|Bv 2<|tB (kG 4)<|tB (Uu (j6 pP (jR 1)<|jR 5)<|j6 pP (jR 6)<|eC<|.int 0) Bw)
 (kP (j6 nB (jR 5)<|eC<|.int 1)<|kG 5))))
abbrev rV:Ic:=
 MZ (jR 0)
abbrev rE:Sm:=
 ko (kP (eC<|.int 0)<|kG 5)
 (lD nH
 oU 1000000)
abbrev uN:Sm:=
 ko (kP (qJ j0)<|kG 1)
 (ko (kP (qJ j0)<|kG 2)
 (ko (mX rV (Bv 2<|tB (kG 3)<|tB (kG 4) Bw)
 rE)
 (mw<|pK<|jS (jR 1)<|jS (jR 2) j0)))
abbrev nJ:ae->jV->R A:=lY uM uN
meta abbrev wM:aF:=top 48
meta abbrev w9:ar:=["_law_order"]
meta abbrev wY:ar:=["_law_order"]
abbrev xB:Sm:=
 mw (kj (f1 vf)<|jS (kL [none,some 0] (uU (eC<|.int 1)<|j6 nB (kj (f1 tP)<|jS (jR 0) j0)<|eC<|.int 1) (kG 0) nM<|j6 nB (VE (jR 1)<|jS (jR 0) j0)<|eC<|.int 1) j0)
abbrev oH:ae->jV->R A:=lY w9 xB
meta abbrev yO:aF:=top 49
meta abbrev yp:ar:=["_law_n", "_law_found", "_law_place", "_law_more", "_law_some"]
meta abbrev yN:ar:=["_law_n"]
abbrev zc:Ic:=
 lJ (jR 1)
abbrev vC:Sm:=
 nA (F8 Ea (jR 3)<|jS (kL [none,some 4] (uU (eC<|.int 1)<|j6 nB (jR 0)<|eC<|.int 1) (kG 0) (sG<|j6 (LN true) (jR 0)<|jR 1)<|j6 nB (jR 1)<|pK<|jS (jR 0) j0) j0)
abbrev za:Ic:=
 tH (jR 0)
abbrev zg:Sm:=
 ko (kP (qJ j0)<|kG 3)
 (ko (mX zc (kG 4)
 vC)
 (kP (jR 3)<|kG 1))
abbrev yZ:Sm:=
 ko (kP (qJ<|jS (pK j0) j0)<|kG 1)
 (ko (mX za (kG 2)
 zg)
 (mw<|jR 1))
abbrev tU:ae->jV->R A:=lY yp yZ
meta abbrev p_:aF:=top 50
meta abbrev pZ:ar:=["_law_found", "_law_due_here"]
meta abbrev pU:ar:=["_law_found", "_law_due_here"]
abbrev pR:Sm:=
 ko (yo (Zz (BC<|rO<|kj (f2 yx)<|jS (jR 0)<|jS (eC<|.ty "list") j0)<|Zz (BC<|rO<|kj (f1 G6)<|jS (kL [none] (lJ<|jR 0) (kG 0) nM<|kj (f2 yx)<|jS (jR 0)<|jS (eC<|.ty "list") j0) j0)<|sG<|j6 (yc true) (jR 0)<|jR 1)
 (mw<|eC<|.bl false)
 qR)
 (mw<|kj (f1 G6)<|jS (kL [none] (lJ<|jR 0) (kG 0) nM<|kj (f1 G6)<|jS (kL [none] (lJ<|jR 0) (kG 0) nM<|kj (f2 yx)<|jS (jR 0)<|jS (eC<|.ty "tuple") j0) j0) j0)
abbrev kY:ae->jV->R A:=lY pZ pR
meta abbrev y_:aF:=top 51
meta abbrev yD:ar:=["_law_n", "_law_found", "_law_one", "_law_second"]
meta abbrev yH:ar:=["_law_n"]
abbrev vB:Ic:=
 lJ (eFn tU<|jS (jR 0) j0)
abbrev vh:Sm:=
 ko (kP (kj (f1 GB)<|jS (j6 pP (eFn nJ<|jS (jR 2) j0)<|eC<|.int 1) j0)<|kG 3)
 (kP (j6 nB (ZA CC (jR 1)<|jS (jR 3)<|jS (qJ j0) j0)<|qJ<|jS (jR 2) j0)<|Zp (jR 1)<|jR 3)
abbrev yF:Sm:=
 ko (kP (Hh)<|kG 1)
 (ko (mX vB (kG 2)
 vh)
 (mw<|ZM<|jR 1))
abbrev qZ:ae->jV->R A:=lY yD yF
meta abbrev Ss:aF:=top 52
meta abbrev NQ:ar:=["_law_script", "_law_n", "_law_due_here", "_law_found"]
meta abbrev V3:ar:=["_law_script"]
abbrev QX:Sm:=
 ko (kP (j6 pP (qJ<|jS (eC<|.int 4)<|jS (eC<|.int 3)<|jS (eC<|.int 4)<|jS (eC<|.int 2)<|jS (eC<|.int 1)<|jS (eC<|.int 4) j0)<|eFn mZ<|jS (eFn tO<|jS (eFn rL<|jS (jR 0)<|jS (eC<|.int 0) j0)<|jS (eC<|.int 1) j0)<|jS (eC<|.int 6) j0)<|kG 1)
 (ko (kP (eFn qZ<|jS (jR 1) j0)<|kG 2)
 (ko (kP (eFn lO<|jS (jR 1) j0)<|kG 3)
 (ko (yo (BC<|rO<|eFn kY<|jS (jR 3)<|jS (jR 2) j0)
 (mw<|eC<|.bl false)
 qR)
 (ko (nA<|F8 mV (j6 pP (jR 3)<|eC<|.int 0)<|jS (pK j0) j0)
 (ko (nA<|Qn xY<|jR 3)
 (ko (yo (BC<|rO<|eFn kY<|jS (eFn lO<|jS (jR 1) j0)<|jS (jR 2) j0)
 (mw<|eC<|.bl false)
 qR)
 (mw<|j6 (yc false) (kj (f1 yP)<|jS (kL [none] (lJ<|eFn kR<|jS (jR 1) j0) (kG 0) nM<|kj (f1 sX)<|jS (kL [none] (lJ<|jR 0) (kG 0) nM<|eFn oH<|jS (jR 0) j0) j0) j0)<|jR 2)))))))
abbrev Cj:ae->jV->R A:=lY NQ QX
section
variable {P:aj}{w:ah}{K:au}{mg:Str->bd}{base:aq}{f:ak}{fd:FuncData}
def E4:FnScope wQ um (j9 wO):=uP rfl rfl rfl ∅
def FW(F:Fun K "is_whole" "is_whole" wO f fd)(aah:mg "isinstance" = none)(ab3:mg "bool" = none)(ab4:mg "int" = none):FnOk P w K mg base qf 1 f fd um (qQ K 1 oK):=uG (m:=wV) F E4 λg B d s H E j=>
 j4 (kI<|Qc (kD EZ aah nR<|jU (jQ 0)<|jU (E3 ab4 YI) j3)<|Nq<|ZP<|kD EZ aah nR<|jU (jQ 0)<|jU (E3 ab3 Td) j3)
def C8:FnScope u5 vd (j9 vK):=uP rfl rfl rfl ∅
def DF(F:Fun K "need_pair" "need_pair" vK f fd)(aaa:mg "len" = none):FnOk P w K mg base qf 1 f fd vd (qQ K 2 qg):=uG (m:=vq) F C8 λg B d s H E j=>
 j4 (nU (lV (M6 j.units) (kD wD aaa sI<|jU (jQ 0) j3)<|kD wD aaa sI<|jU (jQ 1) j3)
 (j4<|KG)
 l9)
def zx:FnScope HA Ij (j9 Ig):=uP rfl rfl rfl ∅
def T8(F:Fun K "back" "back" Ig f fd)(aaa:mg "len" = none)(aak:mg "enumerate" = none)(aae:mg "tuple" = none):FnOk P w K mg base qf 1 f fd Ij (qQ K 1 xy):=uG (m:=G5) F zx λg B d s H E j=>
 jW (kC (i:=1) zx.nd<|ku Bm (mY<|jU j7 j3)<|kD wD aaa sI<|jU (jQ 0) j3)
 (jW (nv bP rfl (RZ aak<|jQ 0) (qC rfl<|kO (kh (i:=2) zx.nd)<|kO (kh (i:=3) zx.nd) nZ)
 (j4<|oW (ku oN (jQ 2) j7)<|yK (jQ 1)<|ku zf (jQ 3) j7))
 (j4<|kI<|nX (zI rfl) aae vQ<|jU (jQ 1) j3))
def A8:FnScope sP sZ (j9 s_):=uP rfl rfl rfl ∅
def zW(F:Fun K "is_exchange" "is_exchange" s_ f fd)(aam:ow P w K mg base 1 "is_whole" um oK):FnOk P w K mg base qf 2 f fd sZ (qQ K 2 nW):=uG (m:=sL) F A8 λj B d s H E g=>
 j4 (kI<|Qc (xE aam g<|jQ 1)<|Nq<|abp adb (VJ g.units) j7 (jQ 1)<|jQ 0)
def qM:FnScope oz oB (j9 oE):=uP rfl rfl rfl ∅
def wo(F:Fun K "exchanged_places" "exchanged_places" oE f fd)(aaf:mg "list" = none)(aae:mg "tuple" = none):FnOk P w K mg base qf 1 f fd oB (qQ K 3 mD):=uG (m:=oG) F qM λg B d s H E j=>
 jW (kC (i:=3) qM.nd<|nX (GZ rfl) aaf yb<|jU (jQ 0) j3)
 (jW (oW (oF<|jU (mP (jQ 3)<|ku zf (jQ 2) j7)<|jU (mP (jQ 3)<|ku zf (jQ 1) j7) j3)<|qC rfl<|kO (yK (jQ 3)<|ku zf (jQ 1) j7)<|kO (yK (jQ 3)<|ku zf (jQ 2) j7) nZ)
 (j4<|kI<|nX (zI rfl) aae vQ<|jU (jQ 3) j3))
def Ec:FnScope u7 sA (j9 vH):=uP rfl rfl rfl ∅
def Dm(F:Fun K "exchanged" "exchanged" vH f fd)(aaa:mg "len" = none)(acg:ow P w K mg base 2 "is_exchange" sZ nW)(ach:ow P w K mg base 1 "exchanged_places" oB mD):FnOk P w K mg base qf 3 f fd sA (qQ K 2 nG):=uG (m:=u9) F Ec λj B d s H E g=>
 jW (nU (yW<|p7<|GF acg g (kD wD aaa sI<|jU (jQ 0) j3)<|jQ 1)
 (j4<|KG)
 l9)
 (j4<|kI<|fn3 ach g (jQ 0) (jQ 1)<|ku oN (jQ 1) j7)
def NH:FnScope DX ue (j9 CV):=uP rfl rfl rfl ∅
def ON(F:Fun K "falls" "falls" CV f fd)(aab:mg "range" = none)(aaa:mg "len" = none):FnOk P w K mg base qf 1 f fd ue (qQ K 1 mU):=uG (m:=CO) F NH λg B d s H E j=>
 j4 (kI<|mT (N:=["k", "order"]) (cap:=[none,some 0]) rfl (oX ["order"] rfl ∅ ∅ ∅ ∅ ∅ (bL.mpr ⟨by first|exact Or.inl rfl|exact Or.inr rfl,(nofun)⟩) ⟨rfl,by decide +kernel,trivial⟩) (vW aab j7<|kD wD aaa sI<|jU (jQ 0) j3) (λ_ _ _ _=>kh (i:=0) (show(["k", "order"]:ar).Nodup by decide +kernel) rfl (Or.inl rfl)<|.inr rfl) (λ_ _ _ _=>uF<|lV (Qu j.units) (mP (jQ 1)<|ku zf (jQ 0) j7)<|mP (jQ 1)<|jQ 0) λ_ _ _ _=>jQ 0)
def qS:FnScope vO sq (j9 vJ):=uP rfl rfl rfl ∅
def C4(F:Fun K "factorial" "factorial" vJ f fd)(aab:mg "range" = none):FnOk P w K mg base qf 1 f fd sq (qQ K 1 mQ):=uG (m:=u_) F qS λg B d s H E j=>
 jW (kC (i:=1) qS.nd j7)
 (jW (nv bP rfl (vW aab j7<|ku oN (jQ 0) j7) (kh (i:=2) qS.nd)
 (j4<|WR (i:=1) qS.nd (jQ 2) Vr))
 (j4<|kI<|jQ 1))
def qt:FnScope w_ wN (j9 wW):=uP rfl rfl rfl ∅
def E9(F:Fun K "numbered" "numbered" wW f fd)(aaf:mg "list" = none)(aab:mg "range" = none)(aaa:mg "len" = none)(aae:mg "tuple" = none)(aaj:ow P w K mg base 1 "factorial" sq mQ)(aam:ow P w K mg base 1 "is_whole" um oK):FnOk P w K mg base qf 2 f fd wN (qQ K 2 oJ):=uG (m:=wL) F qt λj B g s H E d=>
 jW (nU (AW.at<|IF (yW<|p7<|xE aam d<|jQ 1)<|IF (lV (VJ d.units) (jQ 1) j7)<|N6<|lV acL (jQ 1)<|xE aaj d<|jQ 0)
 (j4<|KG)
 l9)
 (jW (kC (i:=2) qt.nd<|nX (GZ rfl) aaf yb<|jU (nX Qh aab M0<|jU j7<|jU (ku oN (jQ 0) j7) j3) j3)
 (jW (kC (i:=3) qt.nd<|mY j3)
 (jW (AH 1000000 bP (p7<|jQ 2)
 (jW (kC (i:=4) qt.nd<|xE aaj d<|ku zf (kD wD aaa sI<|jU (jQ 2) j3) j7)
 (jW (mS<|wF cJ cK qd (jQ 3)<|jU (wF PySem.F.slot_list_pop PySem.F.type_list_pop Tc (jQ 2)<|jU (ku CT (jQ 1)<|jQ 4) j3) j3)
 (j4<|kC (i:=1) qt.nd<|ku zf (jQ 1)<|ku Bm (ku CT (jQ 1)<|jQ 4)<|jQ 4))))
 (j4<|kI<|nX (zI rfl) aae vQ<|jU (jQ 3) j3))))
def yw:FnScope qz oq (j9 qA):=uP rfl rfl rfl ∅
def yy(F:Fun K "as_polynomial" "as_polynomial" qA f fd)(aac:mg "sorted" = none):FnOk P w K mg base qf 1 f fd oq (qQ K 1 lX):=uG (m:=qE) F yw λj B g s H E d=>
 j4 (kI<|mT (N:=["power", "numbers"]) (cap:=[none,some 0]) rfl (oX ["numbers"] rfl ∅ ∅ ∅ ∅ ∅ (bL.mpr ⟨by first|exact Or.inl rfl|exact Or.inr rfl,(nofun)⟩) ⟨rfl,by decide +kernel,trivial⟩) (l6<|kD (Qq rfl) aac nN<|jU (jQ 0) j3) (λ_ _ _ _=>kh (i:=0) (show(["power", "numbers"]:ar).Nodup by decide +kernel) rfl (Or.inl rfl)<|.inr rfl) (λ_ _ _ _=>uF<|lV (M6 d.units) (QN d.units (jQ 1)<|jQ 0) j7) λ_ _ _ _=>oF<|jU (jQ 0)<|jU (QN d.units (jQ 1)<|jQ 0) j3)
def zy:FnScope Ho GJ (j9 HN):=uP rfl rfl rfl ∅
def US(F:Fun K "plus" "plus" HN f fd)(aao:mg "dict" = none)(aaJ:ow P w K mg base 1 "as_polynomial" oq lX):FnOk P w K mg base qf 2 f fd GJ (qQ K 2 Aa):=uG (m:=HG) F zy λj B g s H E d=>
 jW (kC (i:=2) zy.nd<|nX (IK rfl) aao JJ<|jU (jQ 0) j3)
 (jW (nv bP rfl (l6<|jQ 1) (qC rfl<|kO (kh (i:=3) zy.nd)<|kO (kh (i:=4) zy.nd) nZ)
 (j4<|oW (ku oN (Hv c7 fh (Hy d.units) (jQ 2)<|jU (jQ 3)<|jU j7 j3)<|jQ 4)<|JN d.units (jQ 2)<|jQ 3))
 (j4<|kI<|xE aaJ d<|jQ 2))
def tM:FnScope DO zO (j9 DW):=uP rfl rfl rfl ∅
def NP(F:Fun K "times" "times" DW f fd)(aaJ:ow P w K mg base 1 "as_polynomial" oq lX):FnOk P w K mg base qf 2 f fd zO (qQ K 2 sC):=uG (m:=D7) F tM λj B g s H E d=>
 jW (kC (i:=2) tM.nd Sk)
 (jW (nv bP rfl (l6<|jQ 0) (qC rfl<|kO (kh (i:=3) tM.nd)<|kO (kh (i:=4) tM.nd) nZ)
 (j4 (nv bP rfl (l6<|jQ 1) (qC rfl<|kO (kh (i:=5) tM.nd)<|kO (kh (i:=6) tM.nd) nZ)
 (j4<|oW (ku oN (Hv c7 fh (Hy d.units) (jQ 2)<|jU (ku oN (jQ 3)<|jQ 5)<|jU j7 j3)<|ku ZC (jQ 4)<|jQ 6)<|JN d.units (jQ 2)<|ku oN (jQ 3)<|jQ 5))))
 (j4<|kI<|xE aaJ d<|jQ 2))
def BQ:FnScope t8 pC (j9 uR):=uP rfl rfl rfl ∅
def BP(F:Fun K "put_before" "put_before" uR f fd)(aci:ow P w K mg base 2 "plus" GJ Aa):FnOk P w K mg base qf 3 f fd pC (qQ K 3 lB):=uG (m:=uB) F BQ λj B g s H E d=>
 j4 (oW (GF aci d (YY c7 fh (abc d.units) (jQ 0)<|jU (jQ 1)<|jU (mY j3) j3)<|jQ 2)<|zE d.units (jQ 0)<|jQ 1)
def LV:FnScope Bb vj (j9 Aq):=uP rfl rfl rfl ∅
def MU(F:Fun K "as_sum" "as_sum" Aq f fd)(aac:mg "sorted" = none):FnOk P w K mg base qf 1 f fd vj (qQ K 1 pI):=uG (m:=Bj) F LV λj B d s H E g=>
 j4 (kI<|mT (N:=["order", "found"]) (cap:=[none,some 0]) rfl (oX ["found"] rfl ∅ ∅ ∅ ∅ ∅ (bL.mpr ⟨by first|exact Or.inl rfl|exact Or.inr rfl,(nofun)⟩) ⟨rfl,by decide +kernel,trivial⟩) (l6<|kD (Og rfl) aac nN<|jU (jQ 0) j3) (λ_ _ _ _=>kh (i:=0) (show(["order", "found"]:ar).Nodup by decide +kernel) rfl (Or.inl rfl)<|.inr rfl) (λ_ _ _ _=>uF<|p7<|Bt g.units (jQ 1)<|jQ 0) λ_ _ _ _=>oF<|jU (jQ 0)<|jU (Bt g.units (jQ 1)<|jQ 0) j3)
def El:FnScope vN vI (j9 vg):=uP rfl rfl rfl ∅
def CN(F:Fun K "need_like" "need_like" vg f fd)(acj:ow P w K mg base 1 "need_pair" vd qg):FnOk P w K mg base qf 2 f fd vI (qQ K 2 qp):=uG (m:=vP) F El λg B d s H E j=>
 j4 (nU (AW.at<|Hx (p7<|jQ 0)<|Ef<|p7<|jQ 1)
 (j4<|mS<|GF acj j (mP (mP (jQ 0) j7) j7)<|mP (mP (jQ 1) j7) j7)
 l9)
def yf:FnScope CZ C6 (j9 Dl):=uP rfl rfl rfl ∅
def NL(F:Fun K "added" "added" Dl f fd)(ack:ow P w K mg base 2 "need_like" vI qp)(aag:ow P w K mg base 3 "put_before" pC lB)(aai:ow P w K mg base 1 "as_sum" vj pI):FnOk P w K mg base qf 4 f fd C6 (qQ K 2 uh):=uG (m:=CH) F yf λj B g s H E d=>
 jW (mS<|GF ack d (jQ 0)<|jQ 1)
 (jW (kC (i:=2) yf.nd zL)
 (jW (nv bP rfl (l6<|ku oN (jQ 0)<|jQ 1) (qC rfl<|kO (kh (i:=3) yf.nd)<|kO (kh (i:=4) yf.nd) nZ)
 (j4<|mS<|fn3 aag d (jQ 2) (jQ 3)<|jQ 4))
 (j4<|kI<|xE aai d<|jQ 2)))
def wj:FnScope AD zS (j9 zT):=uP rfl rfl rfl ∅
def Mb(F:Fun K "scaled" "scaled" zT f fd)(aag:ow P w K mg base 3 "put_before" pC lB)(aaU:ow P w K mg base 2 "times" zO sC)(aai:ow P w K mg base 1 "as_sum" vj pI):FnOk P w K mg base qf 4 f fd zS (qQ K 2 rD):=uG (m:=Ah) F wj λj B g s H E d=>
 jW (kC (i:=2) wj.nd zL)
 (jW (nv bP rfl (l6<|jQ 1) (qC rfl<|kO (kh (i:=3) wj.nd)<|kO (kh (i:=4) wj.nd) nZ)
 (j4<|mS<|fn3 aag d (jQ 2) (jQ 3)<|GF aaU d (jQ 0)<|jQ 4))
 (j4<|kI<|xE aai d<|jQ 2))
def pF:FnScope sS sM (j9 sU):=uP rfl rfl rfl ∅
def zZ(F:Fun K "by_exchange" "by_exchange" sU f fd)(aaf:mg "list" = none)(h_AT_A_FALL:∃a,mg "AT_A_FALL" = some (.ref a)/\klP K a=some [((-1:Int),(1:Int)),((1:Int),(-1:Int))])(aag:ow P w K mg base 3 "put_before" pC lB)(aa9:ow P w K mg base 3 "exchanged" sA nG)(aad:ow P w K mg base 1 "falls" ue mU)(aaU:ow P w K mg base 2 "times" zO sC)(aai:ow P w K mg base 1 "as_sum" vj pI):FnOk P w K mg base qf 4 f fd sM (qQ K 2 nk):=uG (m:=sQ) F pF λj B g s H E d=>
 jW (kC (i:=2) pF.nd zL)
 (jW (nv bP rfl (l6<|jQ 0) (qC rfl<|kO (kh (i:=3) pF.nd)<|kO (kh (i:=4) pF.nd) nZ)
 (jW (mS<|fn3 aag d (jQ 2) (GF aa9 d (jQ 3)<|jQ 1)<|jQ 4)
 (j4 (nU (lV (aaO d.units) (jQ 1)<|xE aad d<|jQ 3)
 (j4<|mS<|fn3 aag d (jQ 2) (jQ 3)<|GF aaU d (nX (GZ rfl) aaf yb<|jU (NR h_AT_A_FALL.choose_spec.1 h_AT_A_FALL.choose_spec.2) j3)<|jQ 4)
 l9))))
 (j4<|kI<|xE aai d<|jQ 2))
def yY:FnScope qB n9 (j9 qw):=uP rfl rfl rfl ∅
def yk(F:Fun K "number_at_one" "number_at_one" qw f fd)(aao:mg "dict" = none):FnOk P w K mg base qf 1 f fd n9 (qQ K 1 lZ):=uG (m:=qG) F yY λg B d s H E j=>
 j4 (kI<|Hv c7 fh (Hy j.units) (nX (IK rfl) aao JJ<|jU (jQ 0) j3)<|jU j7<|jU j7 j3)
def lU:FnScope lK nI (j9 rC):=uP rfl rfl rfl ∅
def zm{Fs:ae->jV->R A}(F:Fun K "kept_by_fall" "kept_by_fall" rC f fd)(aa9:ow P w K mg base 3 "exchanged" sA nG)(abE:ow P w K mg base 4 "added" C6 uh)(abI:ow P w K mg base 4 "scaled" zS rD)(acm:ow P w K mg base 4 "by_exchange" sM nk)(abl:ow P w K mg base 1 "number_at_one" n9 lZ)(aad:ow P w K mg base 1 "falls" ue mU)(ada:ow P w K mg base (5+2 * kr) "found_kept" mO Fs):FnOk P w K mg base qf (5+2 * kr+1) f fd nI (qQ K 3<|lY lK<|lN Fs):=uG (m:=lN Fs) F lU λj B g s H E d=>
 jW (kC (i:=3) lU.nd<|rY ada (d.mono ()) (jU (rY aa9 (d.mono ()) (jU (jQ 0)<|jU (jQ 1) j3)<|kF<|kF m9)<|jU (jQ 2) j3)<|kF<|kF m9)
 (jW (kC (i:=4) lU.nd<|rY abE (d.mono ()) (jU (rY acm (d.mono ()) (jU (jQ 3)<|jU (jQ 1) j3)<|kF<|kF m9)<|jU (rY abI (d.mono ()) (jU (mY<|jU (oF<|jU j7<|jU j7 j3) j3)<|jU (jQ 3) j3)<|kF<|kF m9) j3)<|kF<|kF m9)
 (jW (nv bP rfl (l6<|jQ 3) (qC rfl<|kO (kh (i:=5) lU.nd)<|kO (kh (i:=6) lU.nd) nZ)
 (jW (kC (i:=7) lU.nd<|rY abl (d.mono ()) (jU (jQ 6) j3)<|kF m9)
 (j4 (nU (AW.at<|Hx (lV (M6 d.units) (jQ 7) j7)<|Ef<|lV (aaO d.units) (jQ 1)<|rY aad (d.mono ()) (jU (jQ 5) j3)<|kF m9)
 (j4<|kC (i:=4) lU.nd<|rY abE (d.mono ()) (jU (jQ 4)<|jU (rY abI (d.mono ()) (jU (mY<|jU (oF<|jU j7<|jU (YT<|jQ 7) j3) j3)<|jU (rY ada (d.mono ()) (jU (jQ 5)<|jU (jQ 2) j3)<|kF<|kF m9) j3)<|kF<|kF m9) j3)<|kF<|kF m9)
 l9))))
 (j4<|kI<|jQ 4)))
def wG:FnScope o6 mO (j9 qY):=uP rfl rfl rfl ∅
def BN{Fs:ae->jV->R A}(F:Fun K "found_kept" "found_kept" qY f fd)(aad:ow P w K mg base 1 "falls" ue mU)(adn:ow P w K mg base (5+2 * kr+1) "kept_by_fall" nI<|lY lK<|lN Fs):FnOk P w K mg base qf (5+2 * kr+2) f fd mO (qQ K 2<|lY o6<|o_ Fs):=uG (m:=o_ Fs) F wG λj B g s H E d=>
 jW (nU (lV (EF d.units) (jQ 0)<|jQ 1)
 (jW (kC (i:=2) wG.nd<|rY aad (d.mono ()) (jU (jQ 0) j3)<|kF m9)
 (j4 (nU (p7<|jQ 2)
 (j4<|oW (rY adn (d.mono ()) (jU (jQ 0)<|jU (mP (jQ 2) j7)<|jU (jQ 1) j3)<|kF<|kF<|kF m9)<|zE d.units (jQ 1)<|jQ 0)
 (j4<|oW (mY<|jU (oF<|jU (jQ 0)<|jU (mY<|jU (oF<|jU j7<|jU j7 j3) j3) j3) j3)<|zE d.units (jQ 1)<|jQ 0))))
 l9)
 (j4<|kI<|Bt d.units (jQ 1)<|jQ 0)
theorem vn(F:Fun K "found_kept" "found_kept" qY f fd)(aad:ow P w K mg base 1 "falls" ue mU)(M_kept_by_fall:∀{Fs:ae->jV->R A} {kr:Nat},ow P w K mg base (5+2 * kr) "found_kept" mO Fs->ow P w K mg base (5+2 * kr+1) "kept_by_fall" nI (lY lK<|lN Fs))(hm:mg "found_kept" = some (.ref f))(hk:PySem.W.keepIn K (.ref f)=true)(hb:Binds K fd mO []):∀kr,FnOk P w K mg base qf (5+2 * kr) f fd mO (qQ K 2<|nu kr)
 | 0=>WY rfl
 | kr+1=>BN F aad<|M_kept_by_fall ⟨f,fd,vn F aad M_kept_by_fall hm hk hb kr,hm,hk,hb⟩
def mz:FnScope sR tu (j9 sN):=uP rfl rfl rfl ∅
def AO(F:Fun K "leads_among" "leads_among" sN f fd)(acn:ow P w K mg base 21 "found_kept" mO uE)(abl:ow P w K mg base 1 "number_at_one" n9 lZ):FnOk P w K mg base qf 22 f fd tu (qQ K 1 nS):=uG (m:=sY) F mz λj B g s H E d=>
 jW (kC (i:=1) mz.nd zL)
 (jW (kC (i:=2) mz.nd<|OL)
 (jW (nv bP rfl (l6<|jQ 0) (kh (i:=3) mz.nd)
 (j4 (nv bP rfl (l6<|GF acn d (jQ 3)<|jQ 1) (qC rfl<|kO (kh (i:=4) mz.nd)<|kO (kh (i:=5) mz.nd) nZ)
 (jW (kC (i:=6) mz.nd<|xE abl d<|jQ 5)
 (j4 (nU (lV (M6 d.units) (jQ 6) j7)
 (jW (oW (jQ 6)<|J3 d.units (jQ 2)<|oF<|jU (jQ 4)<|jU (jQ 3) j3)
 (j4<|oW (jQ 6)<|J3 d.units (jQ 2)<|oF<|jU (jQ 3)<|jU (jQ 4) j3))
 l9))))))
 (j4<|kI<|jQ 2)))
def BG:FnScope t7 uf (j9 uT):=uP rfl rfl rfl ∅
def By(F:Fun K "all_orders" "all_orders" uT f fd)(aab:mg "range" = none)(aco:∃t,mg "MOST_THINGS" = some (.int 4 t))(aaj:ow P w K mg base 1 "factorial" sq mQ)(acp:ow P w K mg base 2 "numbered" wN oJ):FnOk P w K mg base qf 3 f fd uf (qQ K 1 oV):=uG (m:=ux) F BG λj B g s H E d=>
 jW (nU (lV (Qu d.units) (jQ 0)<|Ot aco.choose_spec)
 (j4<|KG)
 l9)
 (j4<|kI<|mT (N:=["number", "n"]) (cap:=[none,some 0]) rfl (oX ["n"] rfl ∅ ∅ ∅ ∅ ∅ (bL.mpr ⟨by first|exact Or.inl rfl|exact Or.inr rfl,(nofun)⟩) ⟨rfl,by decide +kernel,trivial⟩) (vY aab<|xE aaj d<|jQ 0) (λ_ _ _ _=>kh (i:=0) (show(["number", "n"]:ar).Nodup by decide +kernel) rfl (Or.inl rfl)<|.inr rfl) (λ_ _ _ _=>oh) λ_ _ _ _=>GF acp d (jQ 1)<|jQ 0)
def xT:FnScope pX qa (j9 pS):=uP rfl rfl rfl ∅
def xR(F:Fun K "has_other_fall" "has_other_fall" pS f fd)(acq:mg "any" = none)(aad:ow P w K mg base 1 "falls" ue mU):FnOk P w K mg base qf 2 f fd qa (qQ K 2 kH):=uG (m:=pW) F xT λj B g s H E d=>
 j4 (kI<|kD (aaV rfl) acq W7<|jU (mT (N:=["k", "other"]) (cap:=[none,some 1]) rfl (oX ["other"] rfl ∅ ∅ ∅ ∅ ∅ (bL.mpr ⟨by first|exact Or.inl rfl|exact Or.inr rfl,(nofun)⟩) ⟨rfl,by decide +kernel,trivial⟩) (l6<|xE aad d<|jQ 0) (λ_ _ _ _=>kh (i:=0) (show(["k", "other"]:ar).Nodup by decide +kernel) rfl (Or.inl rfl)<|.inr rfl) (λ_ _ _ _=>oh) λ_ _ _ _=>QB (JM d.units) (jQ 0)<|xE aad d<|jQ 1) j3)
def m_:FnScope r8 rF (j9 r6):=uP rfl rfl rfl ∅
def zu(F:Fun K "reached_from" "reached_from" r6 f fd):FnOk P w K mg base qf 1 f fd rF (qQ K 2 mE):=uG (m:=r9) F m_ λj B g s H E d=>
 jW (kC (i:=2) m_.nd<|Vs d.units (jQ 0) EO)
 (jW (kC (i:=3) m_.nd<|mY<|jU (jQ 0) j3)
 (jW (AH 1000000 bP (p7<|jQ 3)
 (jW (kC (i:=4) m_.nd<|Rp PySem.F.slot_list_pop PySem.F.type_list_pop abt<|jQ 3)
 (j4 (nv bP rfl (l6<|Xf d.units (jQ 1)<|jQ 4) (kh (i:=5) m_.nd)
 (j4 (nU (lV (EF d.units) (jQ 5)<|jQ 2)
 (jW (oW EO<|zE d.units (jQ 2)<|jQ 5)
 (j4<|mS<|wF cJ cK qd (jQ 3)<|jU (jQ 5) j3))
 l9))))))
 (j4<|kI<|jQ 2)))
def qu:FnScope xx wJ (j9 xg):=uP rfl rfl rfl ∅
def Gx(F:Fun K "gathered" "gathered" xg f fd)(aac:mg "sorted" = none)(acr:ow P w K mg base 1 "reached_from" rF mE):FnOk P w K mg base qf 2 f fd wJ (qQ K 1 rH):=uG (m:=wK) F qu λj B g s H E d=>
 jW (kC (i:=1) qu.nd<|WI (λ_=>Wl) d.units (N:=["order", "next_ones"]) (cap:=[none,some 0]) rfl (oX ["next_ones"] rfl ∅ ∅ ∅ ∅ ∅ (bL.mpr ⟨by first|exact Or.inl rfl|exact Or.inr rfl,(nofun)⟩) ⟨rfl,by decide +kernel,trivial⟩) (Gj<|jQ 0) (λ_ _ _ _=>kh (i:=0) (show(["order", "next_ones"]:ar).Nodup by decide +kernel) rfl (Or.inl rfl)<|.inr rfl) (λ_ _ _ _=>oh) (λ_ _ _ _=>jQ 0) λ_ _ _ _=>GF acr d (jQ 0)<|jQ 1)
 (jW (kC (i:=2) qu.nd<|mY j3)
 (jW (nv bP rfl (l6<|kD (Qo rfl) aac nN<|jU (jQ 0) j3) (kh (i:=3) qu.nd)
 (jW (kC (i:=4) qu.nd<|kD D6 aac nN<|jU (mT (N:=["other", "order", "reached"]) (cap:=[none,some 3,some 1]) rfl (oX ["order", "reached"] rfl ∅ ∅ ∅ ∅ ∅ (bL.mpr ⟨by first|exact Or.inl rfl|exact Or.inr rfl,(bL.mpr ⟨by first|exact Or.inl rfl|exact Or.inr rfl,(nofun)⟩)⟩) ⟨rfl,by decide +kernel,⟨rfl,by decide +kernel,trivial⟩⟩) (Gj<|Bt d.units (jQ 1)<|jQ 3) (λ_ _ _ _=>kh (i:=0) (show(["other", "order", "reached"]:ar).Nodup by decide +kernel) rfl (Or.inl rfl)<|.inr rfl) (λ_ _ _ _=>uF<|lV (acd d.units) (jQ 1)<|Bt d.units (jQ 2)<|jQ 0) λ_ _ _ _=>jQ 0) j3)
 (j4 (nU (lV (Tt d.units) (mP (jQ 4) j7)<|jQ 3)
 (j4<|mS<|wF cJ cK qd (jQ 2)<|jU (jQ 4) j3)
 l9))))
 (j4<|kI<|jQ 2)))
def p9:FnScope qI n_ (j9 qx):=uP rfl rfl rfl ∅
def y9(F:Fun K "right_hearths" "right_hearths" qx f fd)(acs:ow P w K mg base 3 "all_orders" uf oV)(acu:ow P w K mg base 22 "leads_among" tu nS)(acv:ow P w K mg base 2 "gathered" wJ rH)(acw:ow P w K mg base 2 "has_other_fall" qa kH):FnOk P w K mg base qf 23 f fd n_ (qQ K 1 kR):=uG (m:=qF) F p9 λj B g s H E d=>
 jW (kC (i:=1) p9.nd<|xE acs d<|jQ 0)
 (jW (kC (i:=2) p9.nd<|xE acu d<|jQ 1)
 (j4<|kI<|xE acv d<|WI (λ_=>Wl) d.units (N:=["one", "orders", "leads"]) (cap:=[none,some 1,some 2]) rfl (oX ["orders", "leads"] rfl ∅ ∅ ∅ ∅ ∅ (bL.mpr ⟨by first|exact Or.inl rfl|exact Or.inr rfl,(bL.mpr ⟨by first|exact Or.inl rfl|exact Or.inr rfl,(nofun)⟩)⟩) ⟨rfl,by decide +kernel,⟨rfl,by decide +kernel,trivial⟩⟩) (l6<|jQ 1) (λ_ _ _ _=>kh (i:=0) (show(["one", "orders", "leads"]:ar).Nodup by decide +kernel) rfl (Or.inr rfl)<|.inl rfl) (λ_ _ _ _=>oh) (λ_ _ _ _=>jQ 0) λ_ _ _ _=>mT (N:=["other", "leads", "one"]) (cap:=[none,some 2,some 0]) rfl (oX ["leads", "one"] rfl ∅ ∅ ∅ ∅ ∅ (bL.mpr ⟨by first|exact Or.inl rfl|exact Or.inr rfl,(bL.mpr ⟨by first|exact Or.inl rfl|exact Or.inr rfl,(nofun)⟩)⟩) ⟨rfl,by decide +kernel,⟨rfl,by decide +kernel,trivial⟩⟩) (l6<|jQ 1) (λ_ _ _ _=>kh (i:=0) (show(["other", "leads", "one"]:ar).Nodup by decide +kernel) rfl (Or.inl rfl)<|.inr rfl) (λ_ _ _ _=>uF<|AW.at<|Hx (lV (ace d.units) (oF<|jU (jQ 2)<|jU (jQ 0) j3)<|jQ 1)<|Ef<|p7<|GF acw d (jQ 0)<|jQ 2) λ_ _ _ _=>jQ 0))
def BS:FnScope uC t6 (j9 uO):=uP rfl rfl rfl ∅
def BH(F:Fun K "with_backs" "with_backs" uO f fd)(aac:mg "sorted" = none)(acy:ow P w K mg base 1 "back" Ij xy):FnOk P w K mg base qf 2 f fd t6 (qQ K 1 pH):=uG (m:=t9) F BS λj B d s H E g=>
 j4 (kI<|kD (IQ g.units) aac nN<|jU (mT (N:=["hearth"]) (cap:=[none]) rfl (oX [] rfl ∅ ∅ ∅ ∅ ∅ (nofun) trivial) (l6<|jQ 0) (λ_ _ _ _=>kh (i:=0) (show(["hearth"]:ar).Nodup by decide +kernel) rfl (Or.inl rfl)<|.inr rfl) (λ_ _ _ _=>oh) λ_ _ _ _=>kD D6 aac nN<|jU (mT (N:=["order"]) (cap:=[none]) rfl (oX [] rfl ∅ ∅ ∅ ∅ ∅ (nofun) trivial) (l6<|jQ 0) (λ_ _ _ _=>kh (i:=0) (show(["order"]:ar).Nodup by decide +kernel) rfl (Or.inl rfl)<|.inr rfl) (λ_ _ _ _=>oh) λ_ _ _ _=>xE acy g<|jQ 0) j3) j3)
def zl:FnScope rT r_ (j9 rX):=uP rfl rfl rfl ∅
def zk(F:Fun K "left_hearths" "left_hearths" rX f fd)(acz:ow P w K mg base 2 "with_backs" t6 pH)(abv:ow P w K mg base 23 "right_hearths" n_ kR):FnOk P w K mg base qf 24 f fd r_ (qQ K 1 lO):=uG (m:=rS) F zl λj B d s H E g=>
 j4 (kI<|xE acz g<|xE abv g<|jQ 0)
def Fd:FnScope w4 wU (j9 xA):=uP rfl rfl rfl ∅
def FA(F:Fun K "_law_cell" "_law_cell" xA f fd)(aaa:mg "len" = none):FnOk P w K mg base qf 1 f fd wU (qQ K 2 rL):=uG (m:=xr) F Fd λg B d s H E j=>
 jW (nU (lV (VJ j.units) (jQ 1)<|kD wD aaa sI<|jU (jQ 0) j3)
 (j4<|kI<|mP (jQ 0)<|jQ 1)
 l9)
 (j4<|kI j7)
def xC:FnScope yS yM (j9 yl):=uP rfl rfl rfl ∅
def H_(F:Fun K "_law_bag" "_law_bag" yl f fd)(acB:mg "abs" = none):FnOk P w K mg base qf 1 f fd yM (qQ K 2 tO):=uG (m:=yq) F xC λg B d s H E j=>
 jW (kC (i:=2) xC.nd<|kD aaq acB Yb<|jU (jQ 0) j3)
 (jW (nU (lV (VJ j.units) (jQ 2)<|ku aaR j7 j7)
 (j4<|kC (i:=2) xC.nd j7)
 l9)
 (j4<|kI<|mY<|jU (jQ 2)<|jU (ku Cd (ku oN (ku oN (ku Bm (ku Cd (jQ 0) j7) j7)<|ku Bm j7<|jQ 1) j7) j7) j3))
def Dz:FnScope vM vm (j9 vc):=uP rfl rfl rfl ∅
def Er(F:Fun K "_law_mixed" "_law_mixed" vc f fd):FnOk P w K mg base qf 1 f fd vm (qQ K 1 oQ):=uG (m:=vL) F Dz λg B d s H E j=>
 jW (oW (ku Cd (ku oN (ku Bm (mP (jQ 0) j7) j7) j7) j7)<|yK (jQ 0) j7)
 (j4<|kI<|ku CT (ku Cd (ku Bm (mP (jQ 0) j7) j7) j7) j7)
def oY:FnScope su vD (j9 vp):=uP rfl rfl rfl ∅
def Eo(F:Fun K "_law_digit" "_law_digit" vp f fd)(aab:mg "range" = none)(abK:ow P w K mg base 1 "_law_mixed" vm oQ):FnOk P w K mg base qf 2 f fd vD (qQ K 2 mZ):=uG (m:=sD) F oY λj B g s H E d=>
 jW (nU (lV (Qu d.units) (mP (jQ 0) j7) j7)
 (jW (kC (i:=2) oY.nd<|ku Cd (mP (jQ 0) j7)<|jQ 1)
 (jW (oW (ku CT (mP (jQ 0) j7)<|jQ 1)<|yK (jQ 0) j7)
 (j4<|kI<|jQ 2)))
 l9)
 (jW (kC (i:=2) oY.nd<|xE abK d<|jQ 0)
 (jW (nU (lV (Qu d.units) (jQ 1) j7)
 (j4 (nv bP rfl (vY aab j7) (kh (i:=3) oY.nd)
 (j4<|kC (i:=2) oY.nd<|ku oN (ku Bm (jQ 2) j7)<|xE abK d<|jQ 0)))
 l9)
 (j4<|kI<|ku Cd (jQ 2)<|jQ 1)))
def lA:FnScope uM uS (j9 ur):=uP rfl rfl rfl ∅
def BL(F:Fun K "_law_tables" "_law_tables" ur f fd)(aak:mg "enumerate" = none)(aaa:mg "len" = none)(aab:mg "range" = none):FnOk P w K mg base qf 1 f fd uS (qQ K 1 nJ):=uG (m:=uN) F lA λj B g s H E d=>
 jW (kC (i:=1) lA.nd<|mY j3)
 (jW (kC (i:=2) lA.nd<|mY j3)
 (jW (nv bP rfl (RZ aak<|jQ 0) (qC rfl<|kO (kh (i:=3) lA.nd)<|kO (kh (i:=4) lA.nd) nZ)
 (jW (kC (i:=5) lA.nd j7)
 (j4 (AH 1000000 bP (lV SW (jQ 4)<|Pc)
 (jW (nU (lV (Tt d.units) (jQ 5)<|kD wD aaa sI<|jU (jQ 1) j3)
 (jW (mS<|wF cJ cK qd (jQ 1)<|jU (mY j3) j3)
 (j4<|mS<|wF cJ cK qd (jQ 2)<|jU (mY j3) j3))
 l9)
 (jW (Ul (i:=6) (N:=["_law_k", "_law_letter", "_law_first", "_law_at"]) (cap:=[none,some 4,some 1,some 5]) lA.nd rfl (oX ["_law_letter", "_law_first", "_law_at"] rfl ∅ ∅ ∅ ∅ ∅ (bL.mpr ⟨by first|exact Or.inl rfl|exact Or.inr rfl,(bL.mpr ⟨by first|exact Or.inl rfl|exact Or.inr rfl,(bL.mpr ⟨by first|exact Or.inl rfl|exact Or.inr rfl,(nofun)⟩)⟩)⟩) ⟨rfl,by decide +kernel,⟨rfl,by decide +kernel,⟨rfl,by decide +kernel,trivial⟩⟩⟩) (vY aab<|kD wD aaa sI<|jU (mP (jQ 1)<|jQ 5) j3) (λ_ _ _ _=>kh (i:=0) (show(["_law_k", "_law_letter", "_law_first", "_law_at"]:ar).Nodup by decide +kernel) rfl (Or.inl rfl)<|.inr rfl) (λ_ _ _ _=>uF<|lV (Qu d.units) (mP (mP (jQ 2)<|jQ 3)<|jQ 0)<|jQ 1) λ_ _ _ _=>jQ 0)
 (j4 (nU (lV (Tt d.units) (jQ 6)<|mY j3)
 (jW (mS<|wF cJ cK qd (mP (jQ 1)<|jQ 5)<|jU (jQ 4) j3)
 (jW (mS<|wF cJ cK qd (mP (jQ 2)<|jQ 5)<|jU (ku oN (jQ 3) j7) j3)
 (j4<|kC (i:=4) lA.nd<|Pc)))
 (jW (oW (oF<|jU (mP (mP (jQ 1)<|jQ 5)<|mP (jQ 6) j7)<|jU (jQ 4) j3)<|qC rfl<|kO (kh (i:=4) lA.nd)<|kO (yK (mP (jQ 1)<|jQ 5)<|mP (jQ 6) j7) nZ)
 (j4<|kC (i:=5) lA.nd<|ku oN (jQ 5) j7))))))))))
 (j4<|kI<|oF<|jU (jQ 1)<|jU (jQ 2) j3)))
def F9:FnScope w9 wY (j9 wM):=uP rfl rfl rfl ∅
def FG(F:Fun K "_law_back" "_law_back" wM f fd)(aae:mg "tuple" = none)(aab:mg "range" = none)(aaa:mg "len" = none):FnOk P w K mg base qf 1 f fd wY (qQ K 1 oH):=uG (m:=xB) F F9 λg B d s H E j=>
 j4 (kI<|nX (zI rfl) aae vQ<|jU (mT (N:=["_law_thing", "_law_order"]) (cap:=[none,some 0]) rfl (oX ["_law_order"] rfl ∅ ∅ ∅ ∅ ∅ (bL.mpr ⟨by first|exact Or.inl rfl|exact Or.inr rfl,(nofun)⟩) ⟨rfl,by decide +kernel,trivial⟩) (vW aab j7<|ku oN (kD wD aaa sI<|jU (jQ 0) j3) j7) (λ_ _ _ _=>kh (i:=0) (show(["_law_thing", "_law_order"]:ar).Nodup by decide +kernel) rfl (Or.inl rfl)<|.inr rfl) (λ_ _ _ _=>oh) λ_ _ _ _=>ku oN (XQ (jQ 1)<|jU (jQ 0) j3) j7) j3)
def pT:FnScope yp yN (j9 yO):=uP rfl rfl rfl ∅
def Hg(F:Fun K "_law_all" "_law_all" yO f fd)(aab:mg "range" = none):FnOk P w K mg base qf 1 f fd yN (qQ K 1 tU):=uG (m:=yZ) F pT λg B d s H E j=>
 jW (kC (i:=1) pT.nd<|mY<|jU (oF j3) j3)
 (jW (nv bP rfl (vY aab<|jQ 0) (kh (i:=2) pT.nd)
 (jW (kC (i:=3) pT.nd<|mY j3)
 (jW (nv bP rfl (l6<|jQ 1) (kh (i:=4) pT.nd)
 (j4<|mS<|wF PySem.F.slot_list_extend PySem.F.type_list_extend OS (jQ 3)<|jU (mT (N:=["_law_thing", "_law_some"]) (cap:=[none,some 4]) rfl (oX ["_law_some"] rfl ∅ ∅ ∅ ∅ ∅ (bL.mpr ⟨by first|exact Or.inl rfl|exact Or.inr rfl,(nofun)⟩) ⟨rfl,by decide +kernel,trivial⟩) (vW aab j7<|ku oN (jQ 0) j7) (λ_ _ _ _=>kh (i:=0) (show(["_law_thing", "_law_some"]:ar).Nodup by decide +kernel) rfl (Or.inl rfl)<|.inr rfl) (λ_ _ _ _=>uF<|lV (JM j.units) (jQ 0)<|jQ 1) λ_ _ _ _=>ku oN (jQ 1)<|oF<|jU (jQ 0) j3) j3))
 (j4<|kC (i:=1) pT.nd<|jQ 3))))
 (j4<|kI<|jQ 1))
def xF:FnScope pZ pU (j9 p_):=uP rfl rfl rfl ∅
def ya(F:Fun K "_law_is_hearths" "_law_is_hearths" p_ f fd)(abD:mg "all" = none)(aah:mg "isinstance" = none)(aaf:mg "list" = none)(aae:mg "tuple" = none):FnOk P w K mg base qf 1 f fd pU (qQ K 2 kY):=uG (m:=pR) F xF λg B d s H E j=>
 jW (nU (AW.at<|IF (yW<|p7<|kD EZ aah nR<|jU (jQ 0)<|jU (E3 aaf yb) j3)<|IF (yW<|p7<|kD (RX rfl) abD G8<|jU (mT (N:=["_law_hearth"]) (cap:=[none]) rfl (oX [] rfl ∅ ∅ ∅ ∅ ∅ (nofun) trivial) (l6<|jQ 0) (λ_ _ _ _=>kh (i:=0) (show(["_law_hearth"]:ar).Nodup by decide +kernel) rfl (Or.inl rfl)<|.inr rfl) (λ_ _ _ _=>oh) λ_ _ _ _=>kD EZ aah nR<|jU (jQ 0)<|jU (E3 aaf yb) j3) j3)<|N6<|lV (M6 j.units) (jQ 0)<|jQ 1)
 (j4<|kI EO)
 l9)
 (j4<|kI<|kD (RX rfl) abD G8<|jU (mT (N:=["_law_hearth"]) (cap:=[none]) rfl (oX [] rfl ∅ ∅ ∅ ∅ ∅ (nofun) trivial) (l6<|jQ 0) (λ_ _ _ _=>kh (i:=0) (show(["_law_hearth"]:ar).Nodup by decide +kernel) rfl (Or.inl rfl)<|.inr rfl) (λ_ _ _ _=>oh) λ_ _ _ _=>kD (RX rfl) abD G8<|jU (mT (N:=["_law_order"]) (cap:=[none]) rfl (oX [] rfl ∅ ∅ ∅ ∅ ∅ (nofun) trivial) (l6<|jQ 0) (λ_ _ _ _=>kh (i:=0) (show(["_law_order"]:ar).Nodup by decide +kernel) rfl (Or.inl rfl)<|.inr rfl) (λ_ _ _ _=>oh) λ_ _ _ _=>kD EZ aah nR<|jU (jQ 0)<|jU (E3 aae vQ) j3) j3) j3)
def uD:FnScope yD yH (j9 y_):=uP rfl rfl rfl ∅
def Hl(F:Fun K "_law_due" "_law_due" y_ f fd)(acI:mg "repr" = none)(aac:mg "sorted" = none)(acQ:ow P w K mg base 1 "_law_all" yN tU)(acV:ow P w K mg base 1 "_law_tables" uS nJ):FnOk P w K mg base qf 2 f fd yH (qQ K 1 qZ):=uG (m:=yF) F uD λj B g s H E d=>
 jW (kC (i:=1) uD.nd<|QZ)
 (jW (nv bP rfl (l6<|xE acQ d<|jQ 0) (kh (i:=2) uD.nd)
 (jW (kC (i:=3) uD.nd<|kD (ZD d.units d.gs) acI U6<|jU (mP (xE acV d<|jQ 2) j7) j3)
 (j4<|oW (ku oN (X0 c7 fh (Yc d.units) (jQ 1)<|jU (jQ 3)<|jU (mY j3) j3)<|mY<|jU (jQ 2) j3)<|Us d.units (jQ 1)<|jQ 3)))
 (j4<|kI<|MM d.units rfl aac nN<|jQ 1))
def Dj:FnScope NQ V3 (j9 Ss):=uP rfl rfl rfl ∅
set_option smartUnfolding false in
theorem X3(F:Fun K "law" "law" Ss f fd)(aac:mg "sorted" = none)(acW:ow P w K mg base 2 "_law_digit" vD mZ)(ac1:ow P w K mg base 1 "_law_bag" yM tO)(ac6:ow P w K mg base 1 "_law_cell" wU rL)(ac7:ow P w K mg base 2 "_law_due" yH qZ)(abY:ow P w K mg base 24 "left_hearths" r_ lO)(ab0:ow P w K mg base 1 "_law_is_hearths" pU kY)(abv:ow P w K mg base 23 "right_hearths" n_ kR)(ac9:ow P w K mg base 1 "_law_back" wY oH):FnOk P w K mg base qf 25 f fd V3 (qQ K 1 Cj):=uG (m:=QX) F Dj λj B g s H E d=>
 jW (kC (i:=1) Dj.nd<|mP (mY<|jU j7<|jU j7<|jU j7<|jU j7<|jU j7<|jU j7 j3)<|GF acW d (GF ac1 d (GF ac6 d (jQ 0) j7) j7) j7)
 (jW (kC (i:=2) Dj.nd<|xE ac7 d<|jQ 1)
 (jW (kC (i:=3) Dj.nd<|xE abY d<|jQ 1)
 (jW (nU (yW<|p7<|GF ab0 d (jQ 3)<|jQ 2)
 (j4<|kI EO)
 l9)
 (jW (mS<|wF cJ cK qd (mP (jQ 3) j7)<|jU (oF j3) j3)
 (jW (mS<|Rp PySem.F.slot_list_reverse PySem.F.type_list_reverse MA<|jQ 3)
 (jW (nU (yW<|p7<|GF ab0 d (xE abY d<|jQ 1)<|jQ 2)
 (j4<|kI EO)
 l9)
 (j4<|kI<|QB (Tt d.units) (kD (IQ d.units) aac nN<|jU (mT (N:=["_law_hearth"]) (cap:=[none]) rfl (oX [] rfl ∅ ∅ ∅ ∅ ∅ (nofun) trivial) (l6<|xE abv d<|jQ 1) (λ_ _ _ _=>kh (i:=0) (show(["_law_hearth"]:ar).Nodup by decide +kernel) rfl (Or.inl rfl)<|.inr rfl) (λ_ _ _ _=>oh) λ_ _ _ _=>kD D6 aac nN<|jU (mT (N:=["_law_one"]) (cap:=[none]) rfl (oX [] rfl ∅ ∅ ∅ ∅ ∅ (nofun) trivial) (l6<|jQ 0) (λ_ _ _ _=>kh (i:=0) (show(["_law_one"]:ar).Nodup by decide +kernel) rfl (Or.inl rfl)<|.inr rfl) (λ_ _ _ _=>oh) λ_ _ _ _=>xE ac9 d<|jQ 0) j3) j3)<|jQ 2)))))))
end
end K67
namespace Po
open Am
meta abbrev Pl:=List<|Int×Int
abbrev val (d:Pl)(k:Int):Int:=((d.find? λp=>decide<|p.1=k).map (·.2)).getD 0
abbrev has (d:Pl)(k:Int):Bool:=d.any λp=>decide<|p.1=k
abbrev put (d:Pl)(k v:Int):Pl:=if has d k=true then d.map (λp=>if p.1=k then(p.1,v)else p)else d++[(k,v)]
abbrev acc (d:Pl)(k v:Int):Pl:=put d k<|val d k+v
abbrev cf:Pl->Int->Int
 | [],_=>0
 | p::l,k=>(if p.1=k then p.2 else 0)+cf l k
def qe{p:Int×Int}{d:Pl}{k:Int}:val (p::d) k=if p.1=k then p.2 else val d k:=by
 unfold val;rw[bU];by_cases h:p.1=k
 ·rw[bf h,aW h];rfl
 ·rw[bz h,aV h]
def AM{p:Int×Int}{d:Pl}{k:Int}:has (p::d) k=(decide (p.1=k) || has d k):=rfl
def xX{d:Pl}{k:Int}:has d k=true ↔ k∈d.map Prod.fst:=by
 unfold has;rw[gz,bq];constructor
 ·rintro⟨p,h1,h2⟩;exact⟨p,h1,bV h2⟩
 ·rintro⟨p,h1,h2⟩;exact⟨p,h1,bf h2⟩
def M5{d:Pl}{k:Int}(h:has d k=false):val d k=0:=by
 induction d with
 | nil=>rfl
 | cons p d f=>
  rw[AM,iX]at h;rw[qe,aV<|eY h.1,f h.2]
def UX{d:Pl}{k v j:Int}(h:has d k=false):val (d++[(k,v)]) j=if j=k then v else val d j:=by
 induction d with
 | nil=>
  show val [(k,v)] j=_;rw[qe];by_cases c:k=j
  ·rw[aW c,aW c.symm]
  ·rw[aV c,aV λz=>c z.symm]
 | cons p d f=>
  rw[AM,iX]at h;have:=eY h.1;rw[jz,qe,qe,f h.2];by_cases c:p.1=j
  ·rw[aW c,aW c,aV λz=>this<|c.trans z]
  ·rw[aV c,aV c]
def VG{d:Pl}{k v j:Int}:val (d.map λp=>if p.1=k then(p.1,v)else p) j=if j=k/\has d k=true then v else val d j:=by
 induction d with
 | nil=>
  rw[aV λz=>by cases z.2];rfl
 | cons p d f=>
  rw[bC,qe,qe,f,AM];by_cases c:p.1=k
  ·rw[aW c,bf c,Bool.true_or];by_cases e:j=k
   ·rw[aW<|show p.1=j by lia,aW ⟨e,rfl⟩]
   ·rw[aV<|show ¬p.1=j by lia,aV λz=>e z.1,aV λz=>e z.1,aV<|show ¬p.1=j by lia]
  ·rw[aV c,bz c,gG];by_cases e:p.1=j
   ·rw[aW e,aW e,aV λz=>c<|e.trans z.1]
   ·rw[aV e,aV e]
def UQ{d:Pl}{k v j:Int}:val (put d k v) j=if j=k then v else val d j:=by
 unfold put
 cases h:has d k with
 | true=>
  rw[aW rfl,VG,h];by_cases c:j=k
  ·rw[aW ⟨c,rfl⟩,aW c]
  ·rw[aV λz=>c z.1,aV c]
 | false=>rw[aV<|by simp,UX h]
def UH{d:Pl}{k v j:Int}:val (acc d k v) j=val d j+if k=j then v else 0:=by
 unfold acc;rw[UQ];by_cases c:j=k
 ·subst c;rw[aW rfl,aW rfl]
 ·rw[aV c,aV λz=>c z.symm,fO]
def Gf{d:Pl}{k v:Int}:(put d k v).map Prod.fst=if has d k=true then d.map Prod.fst else d.map Prod.fst++[k]:=by
 unfold put;split
 ·rw[aY];apply bO;intro p _;show(if p.1=k then(p.1,v)else p).1=p.1;split<;>rfl
 ·rw[bE];rfl
def YW{d:Pl}{k v:Int}(h:(d.map Prod.fst).Nodup):((put d k v).map Prod.fst).Nodup:=by
 rw[Gf];split
 ·exact h
 ·rename_i c;rw[b_];refine⟨h,c9 _ _,λa ha b hb z=>c ?_⟩;rw[aS]at hb;rw[xX,<- hb,<- z];exact ha
def U7{d:Pl}{k v:Int}:(put d k v).length<=d.length+1:=by
 unfold put;split
 ·rw[aH];lia
 ·rw[bh];exact aN _
abbrev Bd (c:Nat)(d:Pl):Prop:=∀p∈d,p.2.natAbs<=c
theorem Bd.val{c:Nat}{d:Pl}(h:Bd c d)(k:Int):(val d k).natAbs<=c:=by
 induction d with
 | nil=>exact bF _
 | cons p d f=>
  rw[qe];split
  ·exact h p (aL ..)
  ·exact f λq hq=>h q<|aO _ hq
abbrev rB (d ps:Pl):Pl:=ps.foldl (λd p=>acc d p.1 p.2) d
def Ro(d:Pl):rB d []=d:=rfl
def Ax(d ps qs:Pl):rB d (ps++qs)=rB (rB d ps) qs:=by unfold rB;rw[eg]
def x_(ps:Pl):∀(d:Pl) (k:Int),val (rB d ps) k=val d k+cf ps k:=by
 induction ps with
 | nil=>intro d k;rw[Ro];show _=_+0;rw[fO]
 | cons p ps f=>
  intro d k;show val (rB (acc d p.1 p.2) ps) k=_;rw[f,UH];show _=_+(_+_);rw[iR]
def v_(ps:Pl):∀{d:Pl},(d.map Prod.fst).Nodup->((rB d ps).map Prod.fst).Nodup:=by
 induction ps with
 | nil=>intro d h;exact h
 | cons p ps f=>intro d h;exact f<|YW h
def vE(ps:Pl):∀(d:Pl),(rB d ps).length<=d.length+ps.length:=by
 induction ps with
 | nil=>intro d;exact aN _
 | cons p ps f=>
  intro d;have h1:=f<|acc d p.1 p.2;have h2:(acc d p.1 p.2).length<=d.length+1:=U7;show(rB (acc d p.1 p.2) ps).length<=_;rw[bB]
  lia
structure Ok (l:Pl):Prop where
 up:l.Pairwise λp q=>p.1<q.1
 nz:∀p∈l,p.2≠0
def Ok.tail{p:Int×Int}{l:Pl}(h:Ok (p::l)):Ok l:=⟨(bW.mp h.up).2,λq hq=>h.nz q<|aO _ hq⟩
def Gr{l:Pl}{k:Int}(h:∀p∈l,k<p.1):cf l k=0:=by
 induction l with
 | nil=>rfl
 | cons p l d=>
  show(if p.1=k then p.2 else 0)+cf l k=0;have:=h p<|aL ..;rw[aV (),d λq hq=>h q<|aO _ hq];rfl
def Ok.head{p:Int×Int}{l:Pl}(h:Ok (p::l)):cf (p::l) p.1=p.2:=by
 show(if p.1=p.1 then p.2 else 0)+cf l p.1=p.2;rw[aW rfl,Gr (bW.mp h.up).1,fO]
def Ok.low{p:Int×Int}{l:Pl}(h:Ok (p::l)){k:Int}(hk:k<p.1):cf (p::l) k=0:=Gr λq hq=>by
 rcases bG.mp hq with rfl|z
 ·exact hk
 ·have:=(bW.mp h.up).1 q z;lia
theorem uniq:∀{l m:Pl},Ok l->Ok m->(∀k,cf l k=cf m k)->l=m
 | [],[],_,_,_=>rfl
 | [],q::m,_,h,e=>by
  have:=e q.1;rw[h.head]at this;exact absurd this.symm<|h.nz q<|aL ..
 | p::l,[],h,_,e=>by
  have:=e p.1;rw[h.head]at this;exact absurd this<|h.nz p<|aL ..
 | p::l,q::m,h,h',e=>by
  have f:=h.nz p<|aL ..;have d:=h'.nz q<|aL ..;have e1:p.1=q.1:=by
   rcases Int.lt_trichotomy p.1 q.1 with c|c|c
   ·have:=e p.1;rw[h.head,h'.low c]at this;exact absurd this f
   ·exact c
   ·have:=e q.1;rw[h'.head,h.low c]at this;exact absurd this.symm d
  have e2:p.2=q.2:=by
   have:=e p.1;rw[h.head,e1,h'.head]at this;exact this
  have e3:p=q:=Prod.ext e1 e2;subst e3;rw[uniq h.tail h'.tail λk=>by
   have:(if p.1=k then p.2 else 0)+cf l k=(if p.1=k then p.2 else 0)+cf m k:=e k
   lia]
abbrev LX (d:Pl):Pl:=((sortI<|d.map Prod.fst).filter λk=>val d k != 0).map λk=>(k,val d k)
def Vg{ks:ag}(h:ks.Nodup):(sortI ks).Pairwise (· < ·):=by
 have p:=Bo ks;have n:(sortI ks).Nodup:=(sortI_perm ks).nodup_iff.mpr h;have:(sortI ks).Pairwise λa b=>a<=b/\a≠b:=p.and n;exact this.imp λ⟨a,b⟩=>()
def Dh{d:Pl}(h:(d.map Prod.fst).Nodup):Ok (LX d):=by
 refine⟨?_,λp f=>?_⟩
 ·unfold LX;rw[cI];exact(Vg h).filter _
 ·obtain⟨k,g,rfl⟩:=bq.mp f;have:=(cj.mp g).2;simpa using this
theorem N9{d:Pl}{k:Int}:∀{ks:ag},ks.Nodup->cf (ks.map λj=>(j,val d j)) k=if k∈ks then val d k else 0
 | [],_=>by rw[aV<|by simp];rfl
 | j::ks,h=>by
  obtain⟨h1,h2⟩:=bT.mp h;show(if j=k then val d j else 0)+cf (ks.map λj=>(j,val d j)) k=_;rw[N9 h2];by_cases c:j=k
  ·subst c;rw[aW rfl,aV h1,aW<|aL ..,fO]
  ·rw[aV c,dm];by_cases e:k∈ks
   ·rw[aW e,aW<|aO _ e]
   ·rw[aV e,aV λz=>(bG.mp z).elim (λz=>c z.symm) e]
def C7{d:Pl}(h:(d.map Prod.fst).Nodup)(k:Int):cf (LX d) k=val d k:=by
 unfold LX;rw[N9<|((sortI_perm _).nodup_iff.mpr h).filter _];split
 ·rfl
 ·rename_i c
  cases e:has d k with
  | false=>exact(M5 e).symm
  | true=>
   by_cases z:val d k=0
   ·exact z.symm
   ·exact absurd (cj.mpr ⟨(sortI_perm _).mem_iff.mpr<|xX.mp e,by simpa using z⟩) c
def Xm{d e:Pl}(h:(d.map Prod.fst).Nodup)(h':(e.map Prod.fst).Nodup)(hv:∀k,val d k=val e k):LX d=LX e:=
 uniq (Dh h) (Dh h') λk=>by rw[C7 h,C7 h',hv]
def Ok.nd{l:Pl}(h:Ok l):(l.map Prod.fst).Nodup:=by
 unfold List.Nodup;rw[cI];exact h.up.imp λa=>()
def Pu{l:Pl}(h:(l.map Prod.fst).Nodup)(k:Int):val l k=cf l k:=by
 induction l with
 | nil=>rfl
 | cons p l d=>
  obtain⟨h1,h2⟩:=bT.mp h;rw[qe];show _=(if p.1=k then p.2 else 0)+cf l k;rw[<- d h2];by_cases c:p.1=k
  ·have:has l k=false:=by
    cases e:has l k with
    | false=>rfl
    | true=>exact absurd (xX.mp e)<|by rw[<- c];exact h1
   rw[aW c,aW c,M5 this,fO]
  ·rw[aV c,aV c,dm]
abbrev Rt (d ps:Pl):Pl:=ps.foldl (λd p=>put d p.1 p.2) d
theorem JD:∀(ps d:Pl),((d++ps).map Prod.fst).Nodup->Rt d ps=d++ps
 | [],d,_=>by rw[cu];rfl
 | p::ps,d,h=>by
  have hn:has d p.1=false:=by
   cases e:has d p.1 with
   | false=>rfl
   | true=>
    rw[bE,b_]at h;exact absurd rfl<|h.2.2 _ (xX.mp e) p.1<|cL<|aL ..
  have e:put d p.1 p.2=d++[p]:=by unfold put;rw[hn];rfl
  show Rt (put d p.1 p.2) ps=_;rw[e,JD ps (d++[p])<|by rw[cQ];exact h,cQ];rfl
def JC{l:Pl}(h:Ok l):Rt [] l=l:=JD l [] h.nd
abbrev plus (a b:Pl):Pl:=LX<|rB a b
abbrev rW (a b:Pl):Pl:=LX<|rB []<|a++b
def TM{a:Pl}(h:Ok a):plus a b=rW a b:=by
 refine Xm (v_ _ h.nd) (v_ _ dc) λk=>?_;rw[x_,x_,Pu h.nd];have:∀(a b:Pl),cf (a++b) k=cf a k+cf b k:=λa b=>by
  induction a with
  | nil=>exact(dm _).symm
  | cons p a d=>
   show _+cf (a++b) k=_+_+_;rw[d,iR]
 rw[this];show _=0+_;rw[dm]
def Bu(a b:Pl):Ok (rW a b):=Dh<|v_ _ dc
abbrev KY (a b:Pl):Pl:=a.flatMap λp=>b.map λq=>(p.1+q.1,p.2 * q.2)
abbrev times (a b:Pl):Pl:=LX<|rB []<|KY a b
def A3(a b:Pl):Ok (times a b):=Dh<|v_ _ dc
def Qw(a:Pl)(p:Int×Int)(b:Pl):KY (a++[p]) b=KY a b++b.map λq=>(p.1+q.1,p.2 * q.2):=by
 unfold KY;rw[gE,f9,jA,cu]
def Kz(a b:Pl):(KY a b).length=a.length * b.length:=by
 induction a with
 | nil=>simp[KY]
 | cons p a d=>
  show((b.map _)++KY a b).length=_;rw[bh,aH,d,bB,jb]
  lia
abbrev turn (a:Pl):Pl:=a.reverse.map λp=>(-p.1,p.2)
abbrev iv (d:Pl):List (Int×A):=d.map λp=>(p.1,.int p.2)
abbrev pA (p:Int×Int):A:=.tup [.int p.1,.int p.2]
abbrev pl (l:Pl):ae:=l.map pA
def DB(d:Pl)(k:Int):nY (iv d) k=(d.find? λp=>decide<|p.1=k).map λp=>.int p.2:=by
 unfold nY iv;rw[fJ,dS];rfl
def Ie(d:Pl)(k:Int):(nY (iv d) k).getD (.int 0)=.int (val d k):=by
 rw[DB];unfold val
 cases d.find? λp=>decide (p.1=k)<;>rfl
def Ff{d:Pl}{k:Int}(h:k∈d.map Prod.fst):nY (iv d) k=some (.int<|val d k):=by
 have:=xX.mpr h;unfold has at this;rw[DB];unfold val
 cases e:d.find? λp=>decide (p.1=k)with
 | some p=>rfl
 | none=>
  obtain⟨p,f,g⟩:=gz.mp this;exact absurd g<|fP.mp e p f
def Hi(d:Pl)(k v:Int):ym (iv d) k (.int v)=iv (put d k v):=by
 have e:(nY (iv d) k).isSome=has d k:=by
  rw[DB,dB];unfold has;rw[Bool.eq_iff_iff,jq,gz]
 unfold ym put;rw[e];unfold iv;split
 ·rw[aY,aY];apply bO;intro p _;show(if p.1=k then(p.1,A.int v)else(p.1,.int p.2))=_;show _=((if p.1=k then(p.1,v)else p).1,A.int (if p.1=k then(p.1,v)else p).2);split<;>rfl
 ·rw[bE];rfl
def Vy(d:Pl):(iv d).map Prod.fst=d.map Prod.fst:=by
 unfold iv;rw[aY];rfl
theorem Pd:∀l:Pl,UT (pl l)=some (iv l)
 | []=>rfl
 | p::l=>by
  show(UT<|pl l).map _=_;rw[Pd l];rfl
def JY(l:Pl):S_ (iv l)=iv (Rt [] l):=by
 have:∀(l d:Pl),(iv l).foldl (λacc p=>ym acc p.1 p.2) (iv d)=iv (Rt d l):=by
  intro l
  induction l with
  | nil=>intro d;rfl
  | cons p l f=>
   intro d;show(iv l).foldl _ (ym (iv d) p.1<|.int p.2)=_;rw[Hi,f];rfl
 exact this l []
end Po
namespace Tb
abbrev fg (r:ag)(x:Int):Nat:=r.findIdx λy=>decide<|x<y
abbrev put:List (ag)->Int->List (ag)
 | [],x=>[[x]]
 | r::rs,x=>if fg r x=r.length then(r++[x])::rs else r.set (fg r x) x::put rs (r.getD (fg r x) 0)
abbrev row:List (ag)->Int->Nat
 | [],_=>0
 | r::rs,x=>if fg r x=r.length then 0 else row rs (r.getD (fg r x) 0)+1
abbrev bump:am->Nat->am
 | [],_=>[1]
 | n::ns,0=>(n+1)::ns
 | n::ns,i+1=>n::bump ns i
abbrev add:List (ag)->Nat->Int->List (ag)
 | [],_,k=>[[k]]
 | q::qs,0,k=>(q++[k])::qs
 | q::qs,i+1,k=>q::add qs i k
abbrev gs (r:ag)(x:Int):am:=(List.range r.length).filter λk=>decide<|x<r.getD k 0
end Tb
namespace Am
open PySem L2
abbrev Rows (S:jV):am->List (ag)->Prop
 | [],[]=>True
 | r::rs,x::T=>jT S r=some (x.map .int)/\Rows S rs T
 | _,_=>False
theorem Rows.len:∀{rs:am}{T:List<|ag},Rows S rs T->rs.length=T.length
 | [],[],_=>rfl
 | _::_,_::_,h=>cV (·+1) (Rows.len h.2)
 | [],_::_,h=>h.elim
 | _::_,[],h=>h.elim
theorem Rows.get:∀{rs:am}{T:List<|ag}{i:Nat}{r:Nat},Rows S rs T->rs[i]?=some r->i<T.length/\jT S r=some ((T.getD i []).map .int)
 | [],[],_,_,_,e=>by simp at e
 | r::rs,x::T,0,_,h,e=>by simp at e;subst e;exact⟨Nat.zero_lt_succ _,h.1⟩
 | r::rs,x::T,i+1,q,h,e=>by
  obtain⟨h1,h2⟩:=Rows.get (i:=i) (r:=q) h.2 (by simpa using e);exact⟨Nat.succ_lt_succ h1,by simpa using h2⟩
 | [],_::_,_,_,h,_=>h.elim
 | _::_,[],_,_,h,_=>h.elim
theorem Rows.mono:∀{rs:am}{T:List<|ag},Rows S rs T->(∀r∈rs,∀xs,jT S r=some xs->jT S' r=some xs)->Rows S' rs T
 | [],[],_,_=>trivial
 | r::rs,x::T,h,k=>⟨k r (aL ..) _ h.1,Rows.mono h.2 λq hq=>k q<|aO _ hq⟩
 | [],_::_,h,_=>h.elim
 | _::_,[],h,_=>h.elim
theorem Rows.set{S:jV}{ys:ag}:∀{rs:am}{T:List<|ag}{i:Nat}{r:Nat},Rows S rs T->rs.Nodup->rs[i]?=some r->Rows (S.set r<|.lst<|ys.map .int) rs (T.set i ys)
 | [],[],_,_,_,_,e=>by simp at e
 | r::rs,x::T,0,q,h,nd,e=>by
  simp at e;subst e;refine⟨qc<|mh h.1,Rows.mono h.2 λq hq xs e=>?_⟩;rw[nF<|show r≠q from λz=>(bT.mp nd).1<|by rw[z];exact hq];exact e
 | r::rs,x::T,i+1,q,h,nd,e=>by
  have d:rs[i]?=some q:=by simpa using e
  refine⟨?_,Rows.set h.2 (bT.mp nd).2 d⟩;rw[nF<|show q≠r from λz=>(bT.mp nd).1<|by rw[<- z];exact aZ d];exact h.1
 | [],_::_,_,_,h,_,_=>h.elim
 | _::_,[],_,_,h,_,_=>h.elim
theorem Rows.app:∀{rs rs':am}{T T':List<|ag},Rows S rs T->Rows S rs' T'->Rows S (rs++rs') (T++T')
 | [],_,[],_,_,h=>h
 | r::rs,_,x::T,_,h,h'=>⟨h.1,Rows.app h.2 h'⟩
 | [],_,_::_,_,h,_=>h.elim
 | _::_,_,[],_,h,_=>h.elim
structure Tab (S:jV)(n:Nat)(rs:am)(T:List (ag)):Prop where
 top:jT S n=some (rs.map .ref)
 rows:Rows S rs T
 nd:(n::rs).Nodup
def Tab.len{n:Nat}{rs:am}{T:List<|ag}(h:Tab S n rs T):rs.length=T.length:=h.rows.len
def Tab.kp{n:Nat}{c:Nat->Prop}(h:Tab S n rs T)(k:Kp c S S')(hc:∀r∈n::rs,¬c r):Tab S' n rs T:=
 ⟨k.lst _ _ (hc n<|aL ..) h.top,h.rows.mono λr d xs e=>k.lst r xs (hc r<|aO _ d) e,h.nd⟩
def Tab.wu{n:Nat}(h:Tab S n rs T)(k:lG S S'):Tab S' n rs T:=h.kp k λ_ _ z=>z
def Rows.lt{S:jV}{rs:am}(h:Rows S rs T):∀r∈rs,r<S.length:=λr d=>by
 obtain⟨i,f,e⟩:=cA.mp d;exact mh (h.get<|by rw[aI f,e]).2
def Tab.lt{S:jV}{n:Nat}(h:Tab S n rs T):∀r∈n::rs,r<S.length:=λr d=>by
 rcases bG.mp d with z|z
 ·rw[z];exact mh h.top
 ·exact h.rows.lt r z
def Tab.set{S:jV}{n:Nat}{T:List<|ag}{i r:Nat}{ys:ag}(h:Tab S n rs T)(hi:rs[i]?=some r):Tab (S.set r<|.lst<|ys.map .int) n rs (T.set i ys):=
 ⟨by rw[nF<|show r≠n from λz=>(bT.mp h.nd).1<|by rw[<- z];exact aZ hi];exact h.top,h.rows.set (bT.mp h.nd).2 hi,h.nd⟩
def Tab.push{S:jV}{n:Nat}{ys:ag}(h:Tab S n rs T):Tab ((S++[O.lst<|ys.map .int]).set n<|.lst<|(rs++[S.length]).map .ref) n (rs++[S.length]) (T++[ys]):=by
 have hn:n<S.length:=h.lt n<|aL ..;have f:∀r∈rs,n≠r:=λr d z=>(bT.mp h.nd).1<|z ▸ d;refine⟨qc<|by rw[bh];simp;lia,Rows.app (h.rows.mono λr d xs e=>?_) ⟨?_,trivial⟩,?_⟩
 ·rw[nF<|f r d];exact k_ e
 ·rw[nF ()];exact kc
 ·rw[bT,b_];refine⟨λz=>?_,(bT.mp h.nd).2,by simp,λa ha b hb z=>?_⟩
  ·rcases bH.mp z with z|z
   ·exact f n z rfl
   ·have:n=S.length:=by simpa using z
    lia
  ·have g:b=S.length:=by simpa using hb
   have:=h.rows.lt a ha
   lia
def Tab.nil{n:Nat}(h:jT S n=some []):Tab S n [] []:=⟨h,trivial,by simp⟩
def eq_nil{a:Nat}{xs:ae}(h:jT S a=some xs)(h':jT S b=some []):zd S 12 (.ref a) (.ref b)=some xs.isEmpty:=by
 show(jT S a).bind (λxs=>(jT S b).bind λys=>tR (zd S 11) xs ys)=_;rw[h,cN,h',cN]
 cases xs<;>rfl
def Qs{a:A}{k:Bool}(h:zd S 12 a b=some k):yc false a b S=.ok (.bl k) S:=by unfold yc;rw[h];rfl
def Zh{a:A}{k:Bool}(h:zd S 12 a b=some k):yc true a b S=.ok (.bl<|!k) S:=by unfold yc;rw[h];rfl
def RA{xs:ae}{n:Nat}{src:Ic}{t:Te}{e:Ex}{S:jV}(hs:src τ S=.ok (l_ n xs.length) S)(hx:jT S n=some xs)(p:A->Bool)(f:A->A)
  (ht:∀x∈xs,t (x::l7 cap τ) S=.ok (p x) S) (he:∀x∈xs,p x=true->e (x::l7 cap τ) S=.ok (f x) S) (hl:xs.length<=16777216) :
  kL (none::cap) src (kG 0) t e τ S=.ok (.ref S.length) (S++[.lst<|(xs.filter p).map f]):=by
 have g:∀i,i<xs.length->xs.getD i .unb∈xs:=λi d=>by
  rw[aK,aI d];exact di d
 rw[yU hs (λi=>xs.getD i .unb) (λi=>p<|xs.getD i .unb) (λi=>f<|xs.getD i .unb) (λi d=>by
  have d:i<xs.length:=d;show(jT S n).bind _=_;rw[hx,cN,aK,aI d];rfl) (by
   show(match jT S n with
    | some ys=>decide (ys.length<=xs.length)
    | none=>false)=true
   rw[hx];simp) (λi d=>ht _<|g i d) (λi d=>he _<|g i d) hl]
 have:=nO xs p f .unb;show R.ok _ (S++[O.lst<|((List.range xs.length).filter _).map _])=_;rw[this]
def getD_at{r:ag}{k:Nat}(h:k<r.length):r[k]?=some (r.getD k 0):=by rw[aK,aI h];rfl
def Sj{r:ag}{i:Int}{k:Nat}(h:i=k)(hk:k<r.length):uZ (r.map A.int) i=some (.int<|r.getD k 0):=Ep h<|getD_at hk
end Am
namespace Am
open PySem L2 Po
def NS(l:Pl):(pl l).length=l.length:=aH ..
def Mx{xs:ae}{n:Nat}{src:Ic}{t:Te}{e:Ex}{S1:jV}(hs:src τ S=.ok (l_ n xs.length) S1)(hx:jT S1 n=some xs)(p:A->Bool)(f:A->A)
  (ht:∀x∈xs,t (x::l7 cap τ) S1=.ok (p x) S1) (he:∀x∈xs,p x=true->e (x::l7 cap τ) S1=.ok (f x) S1) (hl:xs.length<=16777216) :
  kL (none::cap) src (kG 0) t e τ S=.ok (.ref S1.length) (S1++[.lst<|(xs.filter p).map f]):=by
 have:=RA (S:=S1) (src:=λ_ _=>.ok (l_ n xs.length) S1) (τ:=τ) rfl hx p f ht he hl;unfold kL at this ⊢;rw[hs];exact this
def Hr{S:jV}{d:List<|Int×A}:mR (S++[.qv d]) S.length=some d:=DG Be
def Zy{o:O}{n:Nat}{d:List<|Int×A}(h:mR S n=some d):mR (S++[o]) n=some d:=by
 have h':=qW h;exact DG<|by rw[bu (aJ.mp h').1];exact h'
def WD{S:jV}{n:Nat}{d:List<|Int×A}(h:mR S n=some d):n<S.length:=(aJ.mp<|qW h).1
def O5{S:jV}{n:Nat}{d:List<|Int×A}(h:n<S.length):mR (S.set n<|.qv d) n=some d:=DG<|bA h
def IW{n:Nat}{d:List<|Int×A}(h:mR S n=some d)(h':jT S m=some xs):n≠m:=λz=>by
 subst z;have e1:=qW h;rw[j8 h']at e1
 cases e1
def C5{f:A->ae->jV->R A}{co:Ex}{d:q_}:Hu f co d τ S=(co τ S).bind λx S1=>opt (dk? x S1) λ_=>(d τ S1).bind λas S2=>f x as S2:=rfl
def Hj{n:Nat}:dk? (.ref n) S=(mR S n).map λ_=>Unit.unit:=rfl
def AR{n:Nat}{k:Int}:xP (.ref n) [.int k,y] S=opt (mR S n) λkvs=>.ok ((nY kvs k).getD y) S:=rfl
def JQ{co ci:Ex}{a:A}:MO co ci a τ S=(co τ S).bind λo S1=>(ci τ S1).bind λi S2=>(Cg o i a S2).bind λ_ S3=>.ok τ S3:=rfl
def F7{n:Nat}{k:Int}{v:A}{S:jV}:Cg (.ref n) (.int k) v S=opt (mR S n) λkvs=>gd (kvs.length<sizeLine) (.ok Unit.unit<|S.set n<|.qv<|ym kvs k v):=rfl
def JX{n:Nat}{k:Int}:A_ (.ref n) (.int k) S=opt (mR S n) λkvs=>opt (nY kvs k) λv=>.ok v S:=rfl
def Mi{S:jV}:GX τ S=.ok (.ref S.length) (S++[.qv []]):=rfl
def CF{n:Nat}{S:jV}:C_ (.ref n) S=opt (jT S n) λxs=>opt (UT xs) λps=>.ok (.ref S.length) (S++[.qv<|S_ ps]):=rfl
def adm{i j:Int}(h:i.natAbs<big)(h':j.natAbs<big):Jb (.int i) (.int j) S=.ok (.int<|i * j) S:=oO ⟨h,h'⟩
def Rx(d:Pl):(iv d).length=d.length:=aH ..
meta abbrev Zb:Sm:=kP (j6 nB (Hu xP (jR 2)<|jS (jR 3)<|jS (eC<|.int 0)<|j0)<|jR 4)<|MO (jR 2)<|jR 3
def acc_step{S:jV}{d:Nat}{D:Pl}{k v:Int}(hd:mR S d=some (iv D))(hl:D.length<16777216):Zb [x0,x1,.ref d,.int k,.int v] S=.nx [x0,x1,.ref d,.int k,.int v] (S.set d<|.qv<|iv<|acc D k v):=by
 unfold Zb;dsimp[kJ,bools,C5,Hj,hd,fS,AR,Ie,JQ,F7,pN<|show(iv D).length<16777216 by rw[Rx];exact hl,Hi];rfl
meta abbrev SG:Tg:=Bv 2<|tB (kG 3)<|tB (kG 4) Bw
def UR{d n:Nat}{D l:Pl}{src:Ic}(hs:src [x0,x1,.ref d,x3,x4] S=.ok (l_ n (pl l).length) S1)(hn:jT S1 n=some (pl l))(hd:mR S1 d=some (iv D))(hl:D.length+l.length<16777216) :
  ∃y3 y4 S',mX src SG Zb [x0,x1,.ref d,x3,x4] S=.nx [x0,x1,.ref d,y3,y4] S'/\mR S' d=some (iv<|rB D l)/\Kp (·=d) S1 S':=by
 have nd:=IW hd hn;refine o9 (n:=n) (xs:=pl l) hs (λi τ T=>(∃y3 y4,τ=[x0,x1,.ref d,y3,y4])/\mR T d=some (iv<|rB D<|l.take i)/\Kp (·=d) S1 T)
  (λr=>∃y3 y4 S',r=.nx [x0,x1,.ref d,y3,y4] S'/\mR S' d=some (iv<|rB D l)/\Kp (·=d) S1 S') ⟨⟨_,_,rfl⟩,hd,Kp.refl⟩ (λi τ T h=>h.2.2.lst _ _ (cO nd) hn) ?_ ?_
 ·rintro i z τ T j ⟨⟨y3,y4,rfl⟩,f,kp⟩;unfold pl at j;rw[aR]at j;obtain⟨p,k,rfl⟩:=aP.mp j;refine⟨[x0,x1,.ref d,.int p.1,.int p.2],T,rfl,.inl ?_⟩;have g:=vE (l.take i) D;have q:=(aJ.mp k).1;rw[b9]at g;refine⟨_,_,acc_step f<|by omega,⟨_,_,rfl⟩,?_,kp.qi<|.inl rfl⟩;rw[O5<|WD f,b7,k,Ax];rfl
 ·rintro τ T ⟨⟨y3,y4,rfl⟩,f,kp⟩;rw[NS,cg]at f;exact⟨y3,y4,T,rfl,f,kp⟩
meta abbrev TN:Sm:=kP (j6 nB (Hu xP (jR 2)<|jS (j6 nB (jR 3)<|jR 5)<|jS (eC<|.int 0)<|j0)<|j6 Jb (jR 4)<|jR 6)<|MO (jR 2)<|j6 nB (jR 3)<|jR 5
meta abbrev g56:Tg:=Bv 2<|tB (kG 5)<|tB (kG 6) Bw
def Nc{S:jV}{d:Nat}{D:Pl}{k v j u:Int}(hd:mR S d=some (iv D))(hl:D.length<16777216)(hv:v.natAbs<big)(hu:u.natAbs<big):TN [x0,x1,.ref d,.int k,.int v,.int j,.int u] S=.nx [x0,x1,.ref d,.int k,.int v,.int j,.int u] (S.set d<|.qv<|iv<|acc D (k+j)<|v * u):=by
 unfold TN;dsimp[kJ,bools,C5,Hj,hd,fS,AR,Ie,adm hv hu,JQ,F7,pN<|show(iv D).length<16777216 by rw[Rx];exact hl,Hi];rfl
def Ux{d n:Nat}{D l:Pl}{k v:Int}(hn:jT S n=some (pl l))(hd:mR S d=some (iv D))(hl:D.length+l.length<16777216)(hv:v.natAbs<big)(hu:∀p∈l,p.2.natAbs<big) :
  ∃y5 y6 S',mX (lJ<|jR 1) g56 TN [x0,.ref n,.ref d,.int k,.int v,x5,x6] S=.nx [x0,.ref n,.ref d,.int k,.int v,y5,y6] S'/\mR S' d=some (iv<|rB D<|l.map λq=>(k+q.1,v * q.2))/\Kp (·=d) S S':=by
 have nd:=IW hd hn;refine o9 (n:=n) (xs:=pl l) (S1:=S) (mF (by dsimp[kJ,bools]) hn) (λi τ T=>(∃y5 y6,τ=[x0,.ref n,.ref d,.int k,.int v,y5,y6])/\mR T d=some (iv<|rB D<|(l.take i).map λq=>(k+q.1,v * q.2))/\Kp (·=d) S T)
  (λr=>∃y5 y6 S',r=.nx [x0,.ref n,.ref d,.int k,.int v,y5,y6] S'/\mR S' d=some (iv<|rB D<|l.map λq=>(k+q.1,v * q.2))/\Kp (·=d) S S') ⟨⟨_,_,rfl⟩,hd,Kp.refl⟩ (λi τ T h=>h.2.2.lst _ _ (cO nd) hn) ?_ ?_
 ·rintro i z τ T t ⟨⟨y5,y6,rfl⟩,f,kp⟩;unfold pl at t;rw[aR]at t;obtain⟨p,j,rfl⟩:=aP.mp t;refine⟨[x0,.ref n,.ref d,.int k,.int v,.int p.1,.int p.2],T,rfl,.inl ?_⟩;have g:=vE ((l.take i).map λq=>(k+q.1,v * q.2)) D;have B:=(aJ.mp j).1;rw[aH,b9]at g;refine⟨_,_,Nc f (by omega) hv<|hu p<|aZ j,⟨_,_,rfl⟩,?_,kp.qi<|.inl rfl⟩;rw[O5<|WD f,b7,j,bE,Ax];rfl
 ·rintro τ T ⟨⟨y5,y6,rfl⟩,f,kp⟩;rw[NS,cg]at f;exact⟨y5,y6,T,rfl,f,kp⟩
meta abbrev WZ:Sm:=mX (lJ<|jR 1) g56 TN
def GO(f:Int×Int->A)(hf:∀p τ S,SG (f p) τ S=SG (pA p) τ S){d n:Nat}{a b:Pl}(hn:jT S n=some (a.map f))(hm:jT S m=some (pl b))(hd:mR S d=some [])(hl:a.length * b.length<16777216)(ha:∀p∈a,p.2.natAbs<big)(hb:∀p∈b,p.2.natAbs<big) :
  ∃y3 y4 y5 y6 S',mX (lJ<|jR 0) SG WZ [.ref n,.ref m,.ref d,x3,x4,x5,x6] S=.nx [.ref n,.ref m,.ref d,y3,y4,y5,y6] S'/\mR S' d=some (iv<|rB []<|KY a b)/\Kp (·=d) S S':=by
 have nd:=IW hd hn;have G:=IW hd hm;refine o9 (n:=n) (xs:=a.map f) (S1:=S) (mF (by dsimp[kJ,bools]) hn) (λi τ T=>(∃y3 y4 y5 y6,τ=[.ref n,.ref m,.ref d,y3,y4,y5,y6])/\mR T d=some (iv<|rB []<|KY (a.take i) b)/\Kp (·=d) S T)
  (λr=>∃y3 y4 y5 y6 S',r=.nx [.ref n,.ref m,.ref d,y3,y4,y5,y6] S'/\mR S' d=some (iv<|rB []<|KY a b)/\Kp (·=d) S S') ⟨⟨_,_,_,_,rfl⟩,hd,Kp.refl⟩ (λi τ T h=>h.2.2.lst _ _ (cO nd) hn) ?_ ?_
 ·rintro i z τ T F ⟨⟨y3,y4,y5,y6,rfl⟩,j,kp⟩;rw[aR]at F;obtain⟨p,q,rfl⟩:=aP.mp F;refine⟨[.ref n,.ref m,.ref d,.int p.1,.int p.2,y5,y6],T,hf _ _ _,.inl ?_⟩;have g:=vE (KY (a.take i) b) [];have C:=(aJ.mp q).1;rw[Kz,b9,Nat.min_eq_left<|dX C,ez,cz]at g;have D:i * b.length+b.length<=a.length * b.length:=by rw[<- jb];exact iY _ C
  obtain⟨K,L,J,e,t,B⟩:=Ux (x0:=.ref n) (x5:=y5) (x6:=y6) (k:=p.1) (v:=p.2) (kp.lst _ _ (cO G) hm) j () (ha p<|aZ q) hb;refine⟨_,_,e,⟨_,_,_,_,rfl⟩,?_,kp.trans B⟩;rw[t,b7,q,Option.toList_some,Qw,Ax]
 ·rintro τ T ⟨⟨y3,y4,y5,y6,rfl⟩,j,kp⟩;rw[aH,cg]at j;exact⟨y3,y4,y5,y6,T,rfl,j,kp⟩
end Am
namespace Su
open Am Po PySem L2
meta abbrev En:=ag×Nat×Pl
meta abbrev Es:=List En
abbrev ent (e:En):A:=.tup [.tup<|e.1.map .int,.ref e.2.1]
abbrev kv (e:En):ag×A:=(e.1,.ref e.2.1)
abbrev At (S:jV)(es:Es):Prop:=∀e∈es,jT S e.2.1=some (pl e.2.2)
meta abbrev Ps:=List<|ag×Pl
abbrev sm (es:Es):Ps:=es.map λe=>(e.1,e.2.2)
def Bp(es:Es):(sm es).length=es.length:=aH ..
def Ht(a b:Es):sm (a++b)=sm a++sm b:=bE
abbrev vS (D:Ps)(o:ag):Pl:=((D.find? λe=>decide<|e.1=o).map (·.2)).getD []
abbrev hS (D:Ps)(o:ag):Bool:=D.any λe=>decide<|e.1=o
abbrev sV (D:Ps)(o:ag)(p:Pl):Ps:=if hS D o=true then D.map (λe=>if e.1=o then(e.1,p)else e)else D++[(o,p)]
abbrev AU (D:Ps)(o:ag)(p:Pl):Ps:=sV D o<|rW (vS D o) p
abbrev adds (D l:Ps):Ps:=l.foldl (λD e=>AU D e.1 e.2) D
def Qm(D a b:Ps):adds D (a++b)=adds (adds D a) b:=by unfold adds;rw[eg]
abbrev toS (D:Ps):Ps:=((kQ<|D.map Prod.fst).filter λo=>!(vS D o).isEmpty).map λo=>(o,vS D o)
abbrev fE (D:Es)(o:ag):Option En:=D.find? λe=>decide<|e.1=o
abbrev sd (D:Es)(o:ag)(r:Nat)(p:Pl):Es:=if (fE D o).isSome=true then D.map (λe=>if e.1=o then(e.1,r,p)else e)else D++[(o,r,p)]
def UW(D:Es)(o:ag):(sm D).find? (λe=>decide<|e.1=o)=(fE D o).map λe=>(e.1,e.2.2):=by
 unfold sm fE;rw[fJ];rfl
def Mj(D:Es)(o:ag):vS (sm D) o=((fE D o).map λe=>e.2.2).getD []:=by
 unfold vS;rw[UW,dS];rfl
def adP(D:Es)(o:ag):hS (sm D) o=(fE D o).isSome:=by
 unfold hS sm fE;rw[any_map,Bool.eq_iff_iff,jq,gz];rfl
def QY(D:Es)(o:ag)(r:Nat)(p:Pl):sm (sd D o r p)=sV (sm D) o p:=by
 unfold sd sV;rw[adP];unfold sm;split
 ·rw[aY,aY];apply bO;intro e _;show((if e.1=o then(e.1,r,p)else e).1,(if e.1=o then(e.1,r,p)else e).2.2)=if e.1=o then(e.1,p)else(e.1,e.2.2)
  split<;>rfl
 ·rw[bE];rfl
def vZ(D:Es)(o:ag):lC (D.map kv) o=(fE D o).map λe=>.ref e.2.1:=by
 unfold lC fE;rw[fJ,dS];rfl
def Pw(D:Es)(o:ag)(r:Nat)(p:Pl):putD (D.map kv) o (.ref r)=(sd D o r p).map kv:=by
 unfold putD sd;rw[vZ,dB];split
 ·rw[aY,aY];apply bO;intro e _;show(if e.1=o then(e.1,A.ref r)else(e.1,.ref e.2.1))=kv (if e.1=o then(e.1,r,p)else e);split<;>rfl
 ·rw[bE];rfl
def uz{D:Es}{r:Nat}{p:Pl}{e:En}(h:e∈sd D o r p):e∈D\/e=(o,r,p):=by
 unfold sd at h;split at h
 ·obtain⟨d,h1,rfl⟩:=bq.mp h;split
  ·rename_i c;exact .inr (by rw[c])
  ·exact .inl h1
 ·rcases bH.mp h with z|z
  ·exact .inl z
  ·exact .inr<|aS.mp z
def TR{D:Es}{r:Nat}{p:Pl}:(sd D o r p).length<=D.length+1:=by
 unfold sd;split
 ·rw[aH];lia
 ·rw[bh];exact aN _
def ud{D:Es}{e:En}(h:fE D o=some e):e∈D/\e.1=o:=⟨cF h,by
 unfold fE at h;have:=fV h;simpa using this⟩
def At.put{D:Es}{r:Nat}{p:Pl}(h:At S D)(hr:jT S r=some (pl p)):At S (sd D o r p):=λe d=>by
 rcases uz d with z|z
 ·exact h e z
 ·rw[z];exact hr
def At.kp{D:Es}{b:Nat->Prop}(h:At S D)(k:Kp b S S')(hb:∀e∈D,¬b e.2.1):At S' D:=λe d=>k.lst _ _ (hb e d)<|h e d
def At.wu{D:Es}(h:At S D)(k:lG S S'):At S' D:=h.kp k λ_ _ z=>z
def At.app{a:Es}(h:At S a)(h':At S b):At S (a++b):=λe d=>(bH.mp d).elim (h e)<|h' e
def oA{n:Nat}{d:List<|ag×A}(h:ki S n=some d)(h':jT S m=some xs):n≠m:=λz=>by
 subst z;have e1:=mC h;rw[j8 h']at e1
 cases e1
def At.Ma{D:Es}{d:Nat}(h:At S D)(k:Kp (·=d) S S')(hd:ki S d=some kvs):At S' D:=h.kp k λe f z=>oA hd (h e f) z.symm
abbrev Vl (k b:Nat)(D:Es):Prop:=∀e∈D,Ok e.2.2/\e.2.2.length<=k/\b<=e.2.1
def Vl.v{k:Nat}{D:Es}(h:Vl k b D)(o:ag):Ok (vS (sm D) o)/\(vS (sm D) o).length<=k:=by
 rw[Mj]
 cases e:fE D o with
 | none=>exact⟨⟨List.Pairwise.nil,nofun⟩,bF _⟩
 | some d=>exact⟨(h d (ud e).1).1,(h d (ud e).1).2.1⟩
def pD{S:jV}:ki (S++[.dct xs]) S.length=some xs:=rz Be
def DA{o:O}{n:Nat}(h:ki S n=some xs):ki (S++[o]) n=some xs:=by
 have h':=mC h;exact rz<|by rw[bu (aJ.mp h').1];exact h'
def uo{S:jV}{n:Nat}(h:ki S n=some xs):n<S.length:=(aJ.mp<|mC h).1
def IG{S:jV}{n:Nat}(h:n<S.length):ki (S.set n<|.dct ys) n=some ys:=rz<|bA h
def To{f:A->ae->jV->R A}{co:Ex}{d:q_}:YN f co d τ S=(co τ S).bind λx S1=>opt (dct? x S1) λ_=>(d τ S1).bind λas S2=>f x as S2:=rfl
def U9{n:Nat}:dct? (.ref n) S=(ki S n).map λ_=>Unit.unit:=rfl
def xS{S:jV}:B7 τ S=.ok (.ref S.length) (S++[.dct []]):=rfl
def zz{co ci:Ex}{a:A}:LO co ci a τ S=(co τ S).bind λo S1=>(ci τ S1).bind λi S2=>(qP o i a S2).bind λ_ S3=>.ok τ S3:=rfl
def U8{n:Nat}{o:ag}:Yq (.ref n) [.tup<|o.map .int,y] S=opt (ki S n) λkvs=>.ok ((lC kvs o).getD y) S:=by
 show opt (ki S n) (λkvs=>opt (A.ints<|o.map .int) λk=>.ok ((lC kvs k).getD y) S)=_;rw[ints_map];rfl
def ve{n:Nat}{o:ag}{v:A}{S:jV}:qP (.ref n) (.tup<|o.map .int) v S=opt (ki S n) λkvs=>gd (kvs.length<sizeLine) (.ok Unit.unit<|S.set n<|.dct<|putD kvs o v):=by
 show opt (ki S n) (λkvs=>opt (A.ints<|o.map .int) λns=>gd (kvs.length<sizeLine)<|.ok Unit.unit<|S.set n<|.dct<|putD kvs ns v)=_;rw[ints_map];rfl
def zF{n:Nat}{o:ag}:uJ (.ref n) (.tup<|o.map .int) S=opt (ki S n) λkvs=>opt (lC kvs o) λv=>.ok v S:=by
 show opt (ki S n) (λkvs=>opt (A.ints<|o.map .int) λns=>opt (lC kvs ns) λv=>.ok v S)=_;rw[ints_map];rfl
def get_or{S:jV}{d:Nat}{D:Es}(hd:ki S d=some (D.map kv))(hA:At S D):∃x:Nat,(lC (D.map kv) o).getD (.ref S.length)=.ref x/\jT (S++[.lst []]) x=some (pl<|vS (sm D) o):=by
 rw[vZ,Mj]
 cases e:fE D o with
 | none=>exact⟨S.length,rfl,kc⟩
 | some f=>exact⟨f.2.1,rfl,k_<|hA f (ud e).1⟩
def zC{α:Type}{xs:List α}(g:α->A){n:Nat}{src:Ic}{t:Te}{e:Ex}(hs:src τ S=.ok (l_ n (xs.map g).length) S1)(hx:jT S1 n=some (xs.map g))(d:α)(p:α->Bool)(f:α->A)
  (step:∀x∈xs,∀T,lG S1 T->∃T1,t (g x::l7 cap τ) T=.ok (p x) T1/\lG S1 T1/\(p x=true->∃T2,e (g x::l7 cap τ) T1=.ok (f x) T2/\lG S1 T2)) (hl:xs.length<=16777216) :
  ∃S',kL (none::cap) src (kG 0) t e τ S=.ok (.ref S'.length) (S'++[.lst<|(xs.filter p).map f])/\lG S1 S':=by
 have C:∀i,i<xs.length->xs.getD i d∈xs:=λi j=>by
  rw[aK,aI j];exact di j
 have q:(xs.map g).length=xs.length:=aH ..;obtain⟨S',h1,h2⟩:=xZ (s:=l_ n (xs.map g).length) (g:=kG 0) (t:=t) (e:=e) (P:=λT=>lG S1 T) (T:=λk=>∃y,k=y::l7 cap τ) (λi=>g<|xs.getD i d) (λi=>p<|xs.getD i d) (λi=>f<|xs.getD i d) (λi T j h=>by
   have j:i<(xs.map g).length:=j;show(jT T n).bind _=_;rw[h.lst _ _ (λz=>z) hx,cN,aR,aI (),aK,aI ()];rfl) (λT h=>by
   show(match jT T n with
    | some ys=>decide (ys.length<=(xs.map g).length)
    | none=>false)=true
   rw[h.lst _ _ (λz=>z) hx];simp)
  (λi k T j ⟨y,hy⟩ h=>by
   have j:i<(xs.map g).length:=j;subst hy;obtain⟨T1,e1,B,e2⟩:=step _ (C i ()) T h;exact⟨g (xs.getD i d)::l7 cap τ,T,T1,rfl,e1,⟨_,rfl⟩,λ_=>B,e2⟩) (xs.map g).length 0 (l7 (none::cap) τ) S1 rfl ⟨_,rfl⟩ Kp.refl
 refine⟨S',?_,h2⟩;unfold kL;rw[hs,R.ny];show(nP (l_ n (xs.map g).length) (kG 0) t e (xs.map g).length 0 (l7 (none::cap) τ) S1).nV _=_;rw[h1,R.kX,<- f_,q,nO xs p f d];refine mW ?_;rw[aH];exact bK (c8 _ _) hl
def JA{D:Es}{o:ag}(h:o∈D.map Prod.fst):∃e,fE D o=some e:=by
 unfold fE
 cases e:D.find? λe=>decide (e.1=o)with
 | some x=>exact⟨x,rfl⟩
 | none=>
  obtain⟨x,d,rfl⟩:=bq.mp h;exact absurd (bf rfl)<|fP.mp e x d
abbrev BB (k:ag):A:=.tup<|k.map .int
abbrev xm (D:Es)(p:Pl->Bool):Es:=((kQ<|D.map Prod.fst).filter λo=>p<|vS (sm D) o).map λo=>(o,((fE D o).map λe=>e.2.1).getD 0,vS (sm D) o)
def Dp(D:Es):sm (xm D λp=>!p.isEmpty)=toS (sm D):=by
 unfold xm toS sm;rw[aY,aY];rfl
def C2{D:Es}{p:Pl->Bool}{e:En}(h:e∈xm D p):e∈D/\p e.2.2=true:=by
 obtain⟨o,f,rfl⟩:=bq.mp h;obtain⟨h1,h2⟩:=cj.mp f;obtain⟨e,d⟩:=JA<|(kN _).mem_iff.mp h1;rw[Mj,d]at h2;rw[Mj,d];obtain⟨m,rfl⟩:=ud d;exact⟨m,h2⟩
def NZ{S:jV}{d:Nat}{D:Es}{src:Ic}{t:Te}{e:Ex}(hd:ki S d=some (D.map kv))(hA:At S D)(hs:src τ S=.ok (l_ S.length ((kQ<|D.map Prod.fst).map BB).length) (S++[.lst<|(kQ<|D.map Prod.fst).map BB]))(p:Pl->Bool)
  (ht:∀(o:ag) (r:Nat) (q:Pl) (T:jV),ki T d=some (D.map kv)->lC (D.map kv) o=some (.ref r)->jT T r=some (pl q)->∃T1,t (BB o::l7 cap τ) T=.ok (p q) T1/\lG T T1)
  (he:∀(o:ag) (r:Nat) (T:jV),ki T d=some (D.map kv)->lC (D.map kv) o=some (.ref r)->e (BB o::l7 cap τ) T=.ok (.tup [BB o,.ref r]) T) (hl:D.length<=16777216) :
  ∃(n:Nat) (S':jV),kL (none::cap) src (kG 0) t e τ S=.ok (.ref n) S'/\jT S' n=some ((xm D p).map ent)/\At S' (xm D p)/\S.length<n/\lG S S':=by
 have C:lG S (S++[.lst<|(kQ<|D.map Prod.fst).map BB]):=Kp.refl.lay;obtain⟨S',e1,F⟩:=zC BB (t:=t) (e:=e) (cap:=cap) hs kc [] (λo=>p<|vS (sm D) o) (λo=>ent (o,((fE D o).map λe=>e.2.1).getD 0,vS (sm D) o)) (λo J T k=>by
  obtain⟨g,f⟩:=JA<|(kN _).mem_iff.mp J;have B:lC (D.map kv) o=some (.ref g.2.1):=by rw[vZ,f];rfl
  have j:=C.trans k;have dT:=j.dct _ _ (λz=>z) hd;have K:=j.lst _ _ (λz=>z)<|hA g (ud f).1;obtain⟨T1,h1,h2⟩:=ht o g.2.1 g.2.2 T dT B K;rw[Mj,f];exact⟨T1,h1,k.trans h2,λ_=>⟨T1,he o g.2.1 T1 (h2.dct _ _ (λz=>z) dT) B,k.trans h2⟩⟩) (by
  rw[(kN _).length_eq,aH];exact hl)
 have G:=C.trans F;refine⟨S'.length,_,e1,?_,(?_:At S'<|xm D p).wu Kp.refl.lay,?_,G.lay⟩
 ·rw[kc];unfold xm;rw[aY];rfl
 ·exact λe h=>G.lst _ _ (λz=>z) (hA e (C2 h).1)
 ·have:=F.len;rw[bh]at this;exact this
abbrev Ap (D:Es):Prop:=D.Pairwise λe f=>e.1≠f.1/\e.2.1≠f.2.1
def Ap.put{D:Es}{r:Nat}{p:Pl}(h:Ap D)(hr:∀e∈D,e.2.1≠r):Ap (sd D o r p):=by
 unfold sd;split
 ·unfold Ap;rw[cI];refine List.Pairwise.imp_of_mem (λ{e f} d hf z=>?_) h;by_cases c1:e.1=o
  ·have c2:¬f.1=o:=λg=>z.1<|c1.trans g.symm;rw[aW c1,aV c2];exact⟨z.1,λy=>hr f hf y.symm⟩
  ·rw[aV c1];by_cases c2:f.1=o
   ·rw[aW c2];exact⟨z.1,hr e d⟩
   ·rw[aV c2];exact z
 ·rename_i c;unfold Ap;rw[List.pairwise_append];refine⟨h,c9 _ _,λe d f hf=>?_⟩;rw[aS.mp hf];refine⟨λz=>c ?_,hr e d⟩;unfold fE;rw[jq];exact⟨e,d,bf z⟩
theorem Ap.at{D:Es}(h:Ap D):∀e∈D,∀f∈D,e.1≠f.1->e.2.1≠f.2.1:=by
 unfold Ap at h
 induction h with
 | nil=>exact λe d=>nomatch d
 | @cons a D ha _ g=>
  intro e d f hf z
  rcases bG.mp d with h1|h1<;>rcases bG.mp hf with h2|h2
  ·exact absurd (by rw[h1,h2]) z
  ·rw[h1];exact(ha f h2).2
  ·rw[h2];exact(ha e h1).2.symm
  ·exact g e h1 f h2 z
def Ap.nd{D:Es}(h:Ap D):(D.map Prod.fst).Nodup:=by
 unfold List.Nodup;rw[cI];exact h.imp λz=>z.1
def Ap.out{D:Es}(h:Ap D)(p:Pl->Bool):Ap (xm D p):=by
 unfold Ap xm;rw[cI];have n:(kQ<|D.map Prod.fst).Pairwise (·≠·):=(kN _).nodup_iff.mpr h.nd;refine List.Pairwise.imp_of_mem (λ{a b} ha hb z=>?_)<|n.filter _;obtain⟨e,d⟩:=JA<|(kN _).mem_iff.mp (cj.mp ha).1;obtain⟨f,hf⟩:=JA<|(kN _).mem_iff.mp (cj.mp hb).1;obtain⟨j,e1⟩:=ud d;obtain⟨g,e2⟩:=ud hf;refine⟨z,?_⟩;rw[d,hf];exact h.at e j f g<|by rw[e1,e2];exact z
structure Fil (T:jV)(d b i j:Nat)(P:Ps)(D:Es):Prop where
 dd:ki T d=some (D.map kv)
 aa:At T D
 ss:sm D=P
 vv:Vl (i * j) b D
 kk:∀e∈D,e.1≠[]
 ll:D.length<=i
 pw:Ap D
def L4(P:Ps)(es:Es):es.foldl (λQ e=>AU Q e.1 e.2.2) P=adds P (sm es):=by
 unfold adds sm;rw[jO]
def MB(q:Pl)(P:Ps)(es:Es):es.foldl (λQ e=>AU Q e.1<|times q e.2.2) P=adds P ((sm es).map λe=>(e.1,times q e.2)):=by
 unfold adds sm;rw[jO,jO]
end Su
namespace Bl
open L2
abbrev cnt:ag->Int->Int
 | [],_=>0
 | x::l,j=>(if j<=x then 1 else 0)+cnt l j
abbrev Below (xs ys:ag):Prop:=∀(i:Nat) (j:Int),cnt (xs.take i) j<=cnt (ys.take i) j
abbrev CI (a b:ag):Prop:=a.length=b.length/\∀(p:Nat) (h:p<a.length),b[(a[p]-1).toNat]?=some ((p:Int)+1)
end Bl
namespace Wd
open Bl L2
abbrev ex (l:ag)(k:Nat):ag:=(l.set (k-1)<|l.getD k 0).set k<|l.getD (k-1) 0
abbrev led (l:ag)(w:am):ag:=w.foldl ex l
def v5{l:ag}{k:Nat}(h:k<l.length):l.getD k 0=l[k]:=by rw[aK,aI h];rfl
def WB{l:ag}{k:Nat}(h0:1<=k)(h:k<l.length):ex l k=(l.set (k-1) l[k]).set k (l[k-1]'()):=by
 unfold ex;rw[v5 h,v5<|show k-1<l.length by lia]
def G7(l:ag)(k:Nat):(ex l k).length=l.length:=by unfold ex;rw[bX,bX]
def VC{l:ag}{k:Nat}(h0:1<=k)(h:k<l.length):(ex l k).Perm l:=by
 rw[WB h0 h];exact List.set_set_perm () h
abbrev OW:ag->am->Prop
 | _,[]=>True
 | l,k::w=>1<=k/\k<l.length/\l.getD (k-1) 0<l.getD k 0/\OW (ex l k) w
abbrev sw (k:Nat)(x:Int):Int:=if x=k then(k:Int)+1 else if x=(k:Int)+1 then k else x
def VM{n p:Nat}(h:p<n):(l8 1<|(n:Int)+1)[p]?=some ((p:Int)+1):=by
 unfold l8;rw[aR,eK ()];simp;lia
def mG(n:Nat):(l8 1<|(n:Int)+1).length=n:=by rw[tD];lia
def wX{l:ag}{k:Nat}(h0:1<=k)(h:k<l.length)(p:Nat):(ex l k)[p]?=if p=k then l[k-1]? else if p=k-1 then l[k]? else l[p]?:=by
 rw[WB h0 h,List.getElem?_set];by_cases h1:k=p
 ·rw[aW h1,aW h1.symm,aW<|by rw[bX];lia,aI]
 ·rw[aV h1,aV λz=>h1 z.symm,List.getElem?_set];by_cases h2:k-1=p
  ·rw[aW h2,aW h2.symm,aW (),aI]
  ·rw[aV h2,aV λz=>h2 z.symm]
end Wd
namespace Iv
open L2 Bl
abbrev inv:ag->Nat
 | []=>0
 | x::l=>l.countP (λy=>decide<|y<x)+inv l
abbrev oZ (a b:ag):Nat:=(a.map λx=>b.countP λy=>decide<|y<x).sum
def wZ(x:Int)(a b:ag):oZ (x::a) b=b.countP (λy=>decide<|y<x)+oZ a b:=rfl
theorem m5:∀(a b:ag),inv (a++b)=inv a+inv b+oZ a b
 | [],b=>by show inv b=0+inv b+0;lia
 | x::a,b=>by
  show(a++b).countP _+inv (a++b)=(a.countP _+inv a)+inv b+oZ (x::a) b;rw[List.countP_append,m5 a b,wZ];lia
theorem yd:∀{a b:am},a.Perm b->a.sum=b.sum
 | _,_,.nil=>rfl
 | _,_,.cons x h=>by rw[fZ,fZ,yd h]
 | _,_,.swap x y l=>by rw[fZ,fZ,fZ,fZ];lia
 | _,_,.trans h k=>(yd h).trans<|yd k
def TH{a:ag}(b:ag)(h:a.Perm a'):oZ a b=oZ a' b:=yd<|h.map _
def Uj(a:ag){b:ag}(h:b.Perm b'):oZ a b=oZ a b':=by
 unfold oZ;congr 1;refine bO λx _=>h.countP_eq _
def Dy{M:ag}{x y:Int}(h:∀m∈M,m<x\/y<m)(hxy:x<y):M.countP (λm=>decide<|m<x)=M.countP (λm=>decide<|m<y):=by
 refine List.countP_congr λm d=>?_;rw[decide_eq_true_iff,decide_eq_true_iff]
 rcases h m d with z|z<;>omega
theorem zj:∀{M:ag}{x y:Int},(∀m∈M,m<x\/y<m)->x<y->oZ M [x]=oZ M [y]
 | [],_,_,_,_=>rfl
 | m::M,x,y,h,hxy=>by
  rw[wZ,wZ,zj (λf d=>h f<|aO _ d) hxy];congr 1;have:=h m<|aL ..;dsimp[jB,List.countP_nil];by_cases c:x<m
  ·rw[bf c,bf<|show y<m by omega]
  ·rw[bz c,bz<|show ¬y<m by omega]
def mid{M:ag}{x y:Int}(h:∀m∈M,m<x\/y<m)(hxy:x<y):inv ([y]++M++[x])=inv ([x]++M++[y])+1:=by
 rw[m5,m5,m5<|[x]++M,m5 [x]];have e1:oZ [y] M=oZ [x] M:=by
  show M.countP _+0=M.countP _+0;rw[Dy h hxy]
 have e2:oZ ([y]++M) [x]=1+oZ M [x]:=by
  show[x].countP _+oZ M [x]=_;rw[jB,bf hxy];rfl
 have e3:oZ ([x]++M) [y]=oZ M [y]:=by
  show[y].countP _+oZ M [y]=_;rw[jB,bz (by lia:¬y<x)];simp
 rw[e1,e2,e3,zj h hxy]
 skip
 lia
def Ow(M:ag)(x y:Int):([y]++M++[x]).Perm ([x]++M++[y]):=by
 refine(List.perm_append_comm (l₁:=[y]++M) (l₂:=[x])).trans ?_
 skip
 exact .cons x<|List.perm_append_comm (l₁:=[y]) (l₂:=M)
def step{P M R:ag}{x y:Int}(h:∀m∈M,m<x\/y<m)(hxy:x<y):inv (P++([y]++M++[x])++R)=inv (P++([x]++M++[y])++R)+1:=by
 have p:=Ow M x y;rw[m5,m5 P,m5<|P++([x]++M++[y]),m5 P,mid h hxy,Uj P p,TH R<|p.append_left P]
 lia
abbrev sw (a:ag)(i j:Nat):ag:=(a.set i<|a.getD j 0).set j<|a.getD i 0
def split{a:ag}(hij:i<j)(hj:j<a.length):∃P M R:ag,a=P++([a.getD i 0]++M++[a.getD j 0])++R/\P=a.take i/\(∀m∈M,∃k,i<k/\k<j/\a[k]?=some m)/\sw a i j=P++([a.getD j 0]++M++[a.getD i 0])++R:=by
 have F:a.getD i 0=a[i]:=by rw[aK,aI ()];rfl
 have J:a.getD j 0=a[j]:=by rw[aK,aI hj];rfl
 obtain⟨M,p⟩:∃M,M=(a.drop<|i+1).take (j-i-1):=⟨_,rfl⟩;have G:M.length=j-i-1:=by rw[p,b9,List.length_drop];lia
 have C:a=a.take i++([a.getD i 0]++M++[a.getD j 0])++a.drop (j+1):=by
  have h1:a.drop i=a[i]::a.drop (i+1):=List.drop_eq_getElem_cons ();have h2:a.drop (i+1)=M++a.drop j:=by
   rw[p];have:=iK (j-i-1)<|a.drop<|i+1;rw[List.drop_drop,show i+1+(j-i-1)=j by lia]at this;exact this.symm
  have h3:a.drop j=a[j]::a.drop (j+1):=List.drop_eq_getElem_cons hj
  conv=>lhs;rw[<- iK i a,h1,h2,h3]
  rw[F,J];simp
 refine⟨a.take i,M,a.drop<|j+1,C,rfl,λm D=>?_,?_⟩
 ·rw[p]at D;obtain⟨k,g⟩:=iU D;have q:k<j-i-1:=by
   have:=(aJ.mp g).1;rw[b9]at this;lia
  rw[List.getElem?_take_of_lt q,List.getElem?_drop]at g;exact⟨i+1+k,(),(),g⟩
 ·have t:∀(P R:ag) (x y f d:Int),P.length=i->((P++([x]++M++[y])++R).set i d).set j f=P++([d]++M++[f])++R:=λP R x y f d B=>by
   rw[cQ,iL _ _ (),B,Nat.sub_self];show(P++(d::((M++[y])++R))).set j f=_;rw[iL _ _ (),B,show j-i=(j-i-1)+1 by lia,List.set_cons_succ,cQ,iL _ _ (),G,Nat.sub_self];simp
  have:=t (a.take i) (a.drop<|j+1) (a.getD i 0) (a.getD j 0) (a.getD i 0) (a.getD j 0) (by rw[b9];lia);rw[<- C]at this;exact this
def KU{a:ag}{i:Nat}(h:i<a.length):a[i]?=some (a.getD i 0):=by rw[aK,aI h];rfl
end Iv
namespace Fw
open PySem L2 Bl
open Wd (ex led)
meta abbrev rg (n:Nat):ag:=l8 1<|(n:Int)+1
def NU{l:ag}{k:Nat}(h0:1<=k)(h:k<l.length):ex (ex l k) k=l:=by
 apply dR;intro p;have h':k<(ex l k).length:=by rw[Wd.G7];exact h
 rw[Wd.wX h0 h',Wd.wX h0 h,Wd.wX h0 h,Wd.wX h0 h];by_cases c3:p=k
 ·rw[aW c3,aV (),aW rfl,c3]
 ·rw[aV c3];by_cases c2:p=k-1
  ·rw[aW c2,aW rfl,c2]
  ·rw[aV c2,aV c3,aV c2]
def WO{l:ag}{k:Nat}(h0:1<=k)(h:k<l.length):(ex l k).getD k 0=l.getD (k-1) 0:=by
 rw[aK,Wd.wX h0 h,aW rfl,aK]
def Wa{l:ag}{k:Nat}(h0:1<=k)(h:k<l.length):(ex l k).getD (k-1) 0=l.getD k 0:=by
 rw[aK,Wd.wX h0 h,aV (),aW rfl,aK]
def Si{l:ag}{k:Nat}(h0:1<=k)(h:k<l.length)(hr:l.getD (k-1) 0<l.getD k 0):Iv.inv (ex l k)=Iv.inv l+1:=by
 obtain⟨P,M,R,e,_,d,es⟩:=Iv.split (a:=l) (i:=k-1) (j:=k) () h;have:=Iv.step (P:=P) (M:=M) (R:=R) (x:=l.getD (k-1) 0) (y:=l.getD k 0) (λm f=>by obtain⟨_,_,_,_⟩:=d m f;lia) hr;rw[<- es,<- e]at this;exact this
def SA{l:ag}{k:Nat}(h0:1<=k)(h:k<l.length)(hr:l.getD k 0<l.getD (k-1) 0):Iv.inv l=Iv.inv (ex l k)+1:=by
 have:=Si (l:=ex l k) h0 (by rw[Wd.G7];exact h) (by rw[WO h0 h,Wa h0 h];exact hr);rw[NU h0 h]at this;exact this
def TQ{l:ag}{k:Nat}(h0:1<=k)(h:k<l.length):Iv.inv (ex l k)<=Iv.inv l+1:=by
 rcases Int.lt_trichotomy (l.getD (k-1) 0) (l.getD k 0)with c|c|c
 ·exact Nat.le_of_eq (Si h0 h c)
 ·have:ex l k=l:=by
   apply dR;intro p;have e1:l[k]?=some (l.getD k 0):=Iv.KU h;have e2:l[k-1]?=some (l.getD (k-1) 0):=Iv.KU ();rw[Wd.wX h0 h];by_cases c3:p=k
   ·rw[aW c3,c3,e1,e2,c]
   ·rw[aV c3];by_cases c2:p=k-1
    ·rw[aW c2,c2,e1,e2,c]
    ·rw[aV c2]
  rw[this];lia
 ·have:=SA h0 h c;lia
abbrev Nn (l:ag)(k:Nat):Prop:=1<=k/\k<l.length/\l.getD k 0<l.getD (k-1) 0
abbrev Dn:ag->am->Prop
 | l,[]=>∀k,¬Nn l k
 | l,k::ks=>(Nn l k/\∀j,Nn l j->k<=j)/\Dn (ex l k) ks
def T_{l:ag}{n k:Nat}(p:l.Perm<|rg n)(h0:1<=k)(h:k<l.length):l.getD (k-1) 0≠l.getD k 0:=λz=>by
 have nd:l.Nodup:=p.nodup_iff.mpr<|rG _ _;rw[Wd.v5 h,Wd.v5<|show k-1<l.length by lia]at z;have:=(cG nd).mp z
 lia
structure Two (n:Nat)(o u:ag):Prop where
 po:o.Perm (rg n)
 pu:u.Perm (rg n)
 ou:CI o u
def Two.lu{n:Nat}{u:ag}(t:Two n o u):u.length=n:=by rw[t.pu.length_eq,Wd.mG]
def Two.lo{n:Nat}{o:ag}(t:Two n o u):o.length=n:=by rw[t.po.length_eq,Wd.mG]
end Fw
namespace Su
open Am Po PySem L2
abbrev cS (l:Ps)(o:ag)(t:Int):Int:=match l with
 | []=>0
 | e::l=>(if e.1=o then cf e.2 t else 0)+cS l o t
def PO(a b:Ps)(o:ag)(t:Int):cS (a++b) o t=cS a o t+cS b o t:=by
 induction a with
 | nil=>exact(dm _).symm
 | cons e a d=>
  show _+cS (a++b) o t=_+_+_;rw[d,iR]
def rP(a b:Pl)(k:Int):cf (a++b) k=cf a k+cf b k:=by
 induction a with
 | nil=>exact(dm _).symm
 | cons p a d=>
  show _+cf (a++b) k=_+_+_;rw[d,iR]
def Q7(a b:Pl)(k:Int):cf (rW a b) k=cf a k+cf b k:=by
 unfold rW;rw[C7<|v_ _ (d:=[]) dc,x_,rP];show 0+_=_;rw[dm]
def FO(a b:Pl)(k:Int):cf (times a b) k=cf (KY a b) k:=by
 unfold times;rw[C7<|v_ _ (d:=[]) dc,x_];show 0+_=_;rw[dm]
theorem IY(s:Int):∀(b:Pl) (k c:Int),cf (b.map λq=>(c+q.1,s * q.2)) k=s * cf b (k-c)
 | [],k,c=>(jI s).symm
 | q::b,k,c=>by
  show(if c+q.1=k then s * q.2 else 0)+cf (b.map λq=>(c+q.1,s * q.2)) k=s * ((if q.1=k-c then q.2 else 0)+cf b (k-c));rw[IY s b k c,Int.mul_add];by_cases h:c+q.1=k
  ·rw[aW h,aW ()]
  ·rw[aV h,aV (),jI]
meta abbrev AF:Pl:=[((-1:Int),(1:Int)),((1:Int),(-1:Int))]
def aaL(b:Pl)(k:Int):cf (times AF b) k=cf b (k+1)-cf b (k-1):=by
 rw[FO];show cf ((b.map λq=>((-1:Int)+q.1,(1:Int) * q.2))++((b.map λq=>((1:Int)+q.1,(-1:Int) * q.2))++[])) k=_;rw[cu,rP,IY,IY,Int.one_mul,show k - -1=k+1 by lia]
 lia
def Y_{D:Ps}{p:Pl}:vS (sV D o p) o'=if o'=o then p else vS D o':=by
 have cons:∀(e:ag×Pl) (D:Ps) (x:ag),vS (e::D) x=if e.1=x then e.2 else vS D x:=λe D x=>by
  unfold vS;rw[bU];by_cases h:e.1=x
  ·rw[bf h,aW h];rfl
  ·rw[bz h,aV h]
 unfold sV
 cases h:hS D o with
 | true=>
  rw[aW rfl]
  induction D with
  | nil=>cases h
  | cons e D d=>
   rw[bC,cons,cons];have hc:hS (e::D) o=(decide (e.1=o) || hS D o):=rfl;rw[hc]at h;by_cases c:e.1=o
   ·rw[aW c]
    skip
    by_cases c2:o'=o
    ·rw[aW<|c.trans c2.symm,aW c2]
    ·rw[aV λz=>c2<|z.symm.trans c,aV c2,aV λz=>c2<|z.symm.trans c];clear d h hc
     induction D with
     | nil=>rfl
     | cons f D g=>
      rw[bC,cons,cons,g];by_cases c3:f.1=o
      ·rw[aW c3]
       skip
       rw[aV λz=>c2<|z.symm.trans c3,aV λz=>c2<|z.symm.trans c3]
      ·rw[aV c3]
   ·rw[aV c];rw[bz c,gG]at h;rw[d h];by_cases c2:e.1=o'
    ·rw[aW c2,aV λz=>c<|c2.trans z,aW c2]
    ·rw[aV c2,aV c2]
 | false=>
  rw[aV<|by simp]
  induction D with
  | nil=>
   show vS [(o,p)] o'=_;rw[cons];by_cases c:o=o'
   ·rw[aW c,aW c.symm]
   ·rw[aV c,aV λz=>c z.symm]
  | cons e D d=>
   have hc:hS (e::D) o=(decide (e.1=o) || hS D o):=rfl;rw[hc,iX]at h;rw[jz,cons,cons,d h.2];have:=eY h.1;by_cases c:e.1=o'
   ·rw[aW c,aW c,aV λz=>this<|c.trans z]
   ·rw[aV c,aV c]
def Qf(l:Ps):∀(D:Ps) (o:ag) (t:Int),cf (vS (adds D l) o) t=cf (vS D o) t+cS l o t:=by
 induction l with
 | nil=>intro D o t;exact(fO _).symm
 | cons e l d=>
  intro D o t;show cf (vS (adds (AU D e.1 e.2) l) o) t=_+((if e.1=o then cf e.2 t else 0)+cS l o t);rw[d];unfold AU;rw[Y_];by_cases h:o=e.1
  ·rw[aW h,aW h.symm,Q7,h,iR]
  ·rw[aV h,aV λz=>h z.symm,dm]
structure Gd (D:Ps):Prop where
 nd:(D.map Prod.fst).Nodup
 ok:∀e∈D,Ok e.2
def ZY{D:Ps}{o:ag}:hS D o=true ↔ o∈D.map Prod.fst:=by
 unfold hS;rw[gz,bq];constructor
 ·rintro⟨p,h1,h2⟩;exact⟨p,h1,bV h2⟩
 ·rintro⟨p,h1,h2⟩;exact⟨p,h1,bf h2⟩
def ME{D:Ps}{o:ag}{p:Pl}:(sV D o p).map Prod.fst=if hS D o=true then D.map Prod.fst else D.map Prod.fst++[o]:=by
 unfold sV;split
 ·rw[aY];apply bO;intro e _;show(if e.1=o then(e.1,p)else e).1=e.1;split<;>rfl
 ·rw[bE];rfl
def Gd.put{D:Ps}{p:Pl}(h:Gd D)(hp:Ok p):Gd (sV D o p):=by
 refine⟨?_,λe d=>?_⟩
 ·rw[ME];split
  ·exact h.nd
  ·rename_i c;rw[b_];refine⟨h.nd,c9 _ _,λa ha b hb z=>c ?_⟩;rw[aS]at hb;rw[ZY,<- hb,<- z];exact ha
 ·unfold sV at d;split at d
  ·obtain⟨f,hf,rfl⟩:=bq.mp d;split
   ·exact hp
   ·exact h.ok f hf
  ·rcases bH.mp d with z|z
   ·exact h.ok e z
   ·rw[aS.mp z];exact hp
theorem Gd.adds(l:Ps):∀{D:Ps},Gd D->Gd (adds D l):=by
 induction l with
 | nil=>intro D h;exact h
 | cons e l d=>intro D h;exact d<|h.put<|Bu _ _
def Gd.nil:Gd []:=⟨dc,nofun⟩
def xq{D:Ps}:(∃e∈D,e.1=o/\vS D o=e.2)\/(o∉D.map Prod.fst/\vS D o=[]):=by
 unfold vS
 cases h:D.find? λe=>decide (e.1=o)with
 | some e=>
  have h1:=fV h;exact .inl ⟨e,cF h,by simpa using h1,rfl⟩
 | none=>
  refine .inr ⟨λz=>?_,rfl⟩;obtain⟨e,f,d⟩:=bq.mp z;exact fP.mp h e f<|bf d
def Gd.v{D:Ps}(h:Gd D)(o:ag):Ok (vS D o):=by
 rcases xq (D:=D) (o:=o)with⟨e,h1,_,h2⟩|⟨_,h2⟩
 ·rw[h2];exact h.ok e h1
 ·rw[h2];exact⟨List.Pairwise.nil,nofun⟩
def CL.anti{a:ag}(h1:CL a b)(h2:CL b a):a=b:=(Sx.yh h1 h2).symm
def Tp{D:Ps}(h:Gd D)(h':Gd E)(hv:∀o,vS D o=vS E o):toS D=toS E:=by
 have d:∀(D:Ps),Gd D->∀o,o∈(kQ<|D.map Prod.fst).filter (λo=>!(vS D o).isEmpty) ↔ (vS D o)≠[]:=λD h o=>by
  rw[cj,(kN _).mem_iff];constructor
  ·rintro⟨_,h2⟩ z;rw[z]at h2;cases h2
  ·intro z;refine⟨?_,by cases e:vS D o with|nil=>exact absurd e z|cons=>rfl⟩
   rcases xq (D:=D) (o:=o)with⟨e,h1,h2,_⟩|⟨_,h2⟩
   ·exact bq.mpr ⟨e,h1,h2⟩
   ·exact absurd h2 z
 have f:∀(D:Ps),((kQ<|D.map Prod.fst).filter λo=>!(vS D o).isEmpty).Pairwise CL:=λD=>(vR _).filter _;have nd:∀(D:Ps),Gd D->((kQ<|D.map Prod.fst).filter λo=>!(vS D o).isEmpty).Nodup:=λD h=>((kN _).nodup_iff.mpr h.nd).filter _;have e:(kQ<|D.map Prod.fst).filter (λo=>!(vS D o).isEmpty)=(kQ<|E.map Prod.fst).filter (λo=>!(vS E o).isEmpty):=by
  refine dZ (λa b _ _ h1 h2=>CL.anti h1 h2) (f D) (f E)<|(jl (nd D h)<|nd E h').mpr λo=>?_;rw[d D h,d E h',hv]
 unfold toS;rw[e];apply bO;intro o _;rw[hv]
def Qd{D:Ps}(h:Gd D)(h':Gd E)(hc:∀o t,cf (vS D o) t=cf (vS E o) t):toS D=toS E:=Tp h h' λo=>uniq (h.v o) (h'.v o)<|hc o
theorem HR{f:ag->Pl}{o:ag}{t:Int}:∀{ks:List<|ag},ks.Nodup->cS (ks.map λk=>(k,f k)) o t=if o∈ks then cf (f o) t else 0
 | [],_=>by rw[aV<|by simp];rfl
 | j::ks,h=>by
  obtain⟨h1,h2⟩:=bT.mp h;show(if j=o then cf (f j) t else 0)+cS (ks.map λk=>(k,f k)) o t=_;rw[HR h2];by_cases c:j=o
  ·subst c;rw[aW rfl,aV h1,aW<|aL ..,fO]
  ·rw[aV c,dm];by_cases e:o∈ks
   ·rw[aW e,aW<|aO _ e]
   ·rw[aV e,aV λz=>(bG.mp z).elim (λz=>c z.symm) e]
def HJ{D:Ps}(h:Gd D)(o:ag)(t:Int):cS (toS D) o t=cf (vS D o) t:=by
 unfold toS;rw[HR<|((kN _).nodup_iff.mpr h.nd).filter _];split
 ·rfl
 ·rename_i c
  rcases xq (D:=D) (o:=o)with⟨e,h1,h2,h3⟩|⟨_,h2⟩
  ·by_cases z:vS D o=[]
   ·rw[z];rfl
   ·refine absurd (cj.mpr ⟨(kN _).mem_iff.mpr<|bq.mpr ⟨e,h1,h2⟩,?_⟩) c
    cases e:vS D o with|nil=>exact absurd e z|cons=>rfl
  ·rw[h2];rfl
abbrev tZ (o:ag)(k:Nat):Bool:=decide<|o.getD (k-1) 0>o.getD k 0
abbrev bxL (k:Nat)(l:Ps):Ps:=l.flatMap λe=>(Wd.ex e.1 k,e.2)::(if tZ e.1 k=true then[(e.1,times AF e.2)]else[])
abbrev bx (k:Nat)(l:Ps):Ps:=toS<|adds []<|bxL k l
abbrev Go (N k:Nat)(o:ag):Prop:=o.length=N/\o.getD (k-1) 0≠o.getD k 0
def Rv{N k:Nat}{o:ag}(h:o.length=N)(h1:1<=k)(h2:k<N):Wd.ex (Wd.ex o k) k=o:=Fw.NU h1 ()
def Tn{l:Ps}{t:Int}(h:∀e∈l,e.1≠o):cS l o t=0:=by
 induction l with
 | nil=>rfl
 | cons e l d=>
  show(if e.1=o then _ else 0)+cS l o t=0;rw[aV<|h e<|aL ..,d λf hf=>h f<|aO _ hf];rfl
theorem WA{N k:Nat}(h1:1<=k)(h2:k<N):∀{l:Ps},(∀e∈l,Go N k e.1)->∀{o:ag}(t:Int),Go N k o->cS (bxL k l) o t=cS l (Wd.ex o k) t+(if tZ o k=true then cS l o (t+1)-cS l o (t-1)else 0)
 | [],_,o,t,_=>by show(0:Int)=0+if _ then(0:Int)-0 else 0;split<;>rfl
 | e::l,h,o,t,ho=>by
  have j:=h e<|aL ..;have g:=WA h1 h2 (l:=l) (λf hf=>h f<|aO _ hf) t ho;have d:(Wd.ex e.1 k=o) ↔ (e.1=Wd.ex o k):=⟨λz=>by rw[<- z,Rv j.1 h1 h2],λz=>by rw[z,Rv ho.1 h1 h2]⟩;show cS (((Wd.ex e.1 k,e.2)::(if tZ e.1 k=true then[(e.1,times AF e.2)]else[]))++bxL k l) o t=_;rw[PO,g];show(if Wd.ex e.1 k=o then cf e.2 t else 0)+cS (if tZ e.1 k=true then[(e.1,times AF e.2)]else[]) o t+_=((if e.1=Wd.ex o k then cf e.2 t else 0)+cS l (Wd.ex o k) t)+(if tZ o k=true then((if e.1=o then cf e.2 (t+1)else 0)+cS l o (t+1))-((if e.1=o then cf e.2 (t-1)else 0)+cS l o (t-1))else 0);have h3:cS (if tZ e.1 k=true then[(e.1,times AF e.2)]else[]) o t=if tZ o k=true then((if e.1=o then cf e.2 (t+1)else 0)-(if e.1=o then cf e.2 (t-1)else 0))else 0:=by
   by_cases c:e.1=o
   ·rw[c,aW rfl,aW rfl]
    cases tZ o k with
    | false=>rfl
    | true=>
     rw[aW rfl,aW rfl];show(if o=o then cf (times AF e.2) t else 0)+0=_;rw[aW rfl,aaL,fO]
   ·rw[aV c,aV c];have:cS (if tZ e.1 k=true then[(e.1,times AF e.2)]else[]) o t=0:=Tn λf hf=>by
     split at hf
     ·rw[aS.mp hf];exact c
     ·cases hf
    rw[this];split<;>rfl
  rw[h3];by_cases c:Wd.ex e.1 k=o
  ·rw[aW c,aW<|d.mp c];split<;>lia
  ·rw[aV c,aV λz=>c<|d.mpr z];split<;>lia
def rj{P:ag->Prop}(l:Ps):∀{D:Ps},(∀e∈D,P e.1)->(∀e∈l,P e.1)->∀e∈adds D l,P e.1:=by
 induction l with
 | nil=>intro D h _;exact h
 | cons f l j=>
  intro D h h';refine j (λe d=>?_) λe d=>h' e<|aO _ d;have d:e∈sV D f.1 (rW (vS D f.1) f.2):=d;unfold sV at d;split at d
  ·obtain⟨g,hg,rfl⟩:=bq.mp d;split
   ·exact h g hg
   ·exact h g hg
  ·rcases bH.mp d with z|z
   ·exact h e z
   ·rw[aS.mp z];exact h' f<|aL ..
def tW{P:ag->Prop}{D:Ps}(h:∀e∈D,P e.1):∀e∈toS D,P e.1:=λe d=>by
 obtain⟨o,g,rfl⟩:=bq.mp d;obtain⟨f,hf,e⟩:=bq.mp ((kN _).mem_iff.mp (cj.mp g).1)
 skip
 rw[<- e];exact h f hf
abbrev gX (k:Nat)(e:En)(Q:Ps):Ps:=if tZ e.1 k=true then AU (AU Q (Wd.ex e.1 k) e.2.2) e.1 (times AF e.2.2)else AU Q (Wd.ex e.1 k) e.2.2
theorem Ka(k:Nat):∀(es:Es) (P:Ps),es.foldl (λQ e=>gX k e Q) P=adds P (bxL k<|sm es)
 | [],P=>rfl
 | e::es,P=>by
  show es.foldl (λQ e=>gX k e Q) (gX k e P)=adds P (((Wd.ex e.1 k,e.2.2)::(if tZ e.1 k=true then[(e.1,times AF e.2.2)]else[]))++bxL k (sm es));rw[Ka k es,Qm];congr 1;unfold gX
  cases tZ e.1 k<;>rfl
def abL{p:Pl}(h:Ok p)(hb:Bd C p)(t:Int):(cf p t).natAbs<=C:=by
 rw[<- Pu h.nd];exact hb.val t
def Ok.Ad{l:Pl}(h:Ok l){p:Int×Int}(hp:p∈l):cf l p.1=p.2:=by
 induction l with
 | nil=>cases hp
 | cons q l d=>
  rcases bG.mp hp with z|z
  ·rw[z];exact h.head
  ·show(if q.1=p.1 then q.2 else 0)+cf l p.1=p.2;have:=(bW.mp h.up).1 p z;rw[aV (),d h.tail z,dm]
end Su
namespace He
open PySem L2 Am
open Fw (Two rg Nn)
open Bl (CI)
open Su (tZ)
meta abbrev Fn:=ag->Int->Int
abbrev dl (g:Int->Int)(t:Int):Int:=g (t+1)-g (t-1)
abbrev X (k:Nat)(f:Fn):Fn:=λo t=>f (Wd.ex o k) t+if tZ o k=true then dl (f o) t else 0
def Mw{n:Nat}{v:ag}(h:Two n o u)(h':Two n o v):u=v:=by
 have j:=h.lu;have k:=h'.lu;have t:=h.lo;apply dR;intro q;by_cases hq:q<n
 ·obtain⟨p,d,ep⟩:∃p,∃d:p<o.length,o[p]=(q:Int)+1:=by
   have:(q:Int)+1∈o:=h.po.mem_iff.mpr<|qh.mpr ⟨(),()⟩;obtain⟨p,d,ep⟩:=List.getElem_of_mem this;exact⟨p,d,ep⟩
  have g:=h.ou.2 p d;have f:=h'.ou.2 p d;rw[ep,show((q:Int)+1-1).toNat=q by lia]at g f;rw[g,f]
 ·rw[dD (),dD ()]
abbrev bk (o:ag):ag:=(List.range o.length).map λi:Nat=>((o.idxOf ((i:Int)+1):Nat):Int)+1
def Qe{n:Nat}{o:ag}(h:o.Perm<|rg n):Two n o (bk o):=by
 have lo:o.length=n:=by rw[h.length_eq,Wd.mG]
 have nd:o.Nodup:=h.nodup_iff.mpr<|rG _ _;have f:∀i,i<n->(i:Int)+1∈o:=λi d=>h.mem_iff.mpr<|qh.mpr ⟨(),()⟩;have ix:∀i,i<n->o.idxOf ((i:Int)+1)<n:=λi d=>by rw[<- lo];exact fC.mpr (f i d)
 have get:∀i (d:i<n),o[o.idxOf<|(i:Int)+1]'(by rw[lo];exact ix i d)=(i:Int)+1:=λi d=>jm _;refine⟨h,?_,?_,λp k=>?_⟩
 ·have p:=Am.uI (N:=n) (g:=λi=>o.idxOf<|(i:Int)+1) ix λi j B t z=>by
   have a:=get i ();have b:=get j t;dsimp[z]at a;rw[b]at a
   lia
  have p2:=p.map λi:Nat=>(i:Int)+1;rw[aY]at p2;unfold bk;rw[lo];refine List.Perm.trans p2 ?_;have:(List.range n).map (λi:Nat=>(i:Int)+1)=rg n:=by
   apply dR;intro q;rw[aR];by_cases c:q<n
   ·rw[eK c,Wd.VM c];rfl
   ·rw[dD<|by rw[bR];lia,dD<|by rw[Wd.mG];lia];rfl
  rw[this]
 ·unfold bk;rw[aH,bR]
 ·have m:=qh.mp<|h.mem_iff.mp<|di k;have hq:(o[p]-1).toNat<o.length:=()
  unfold bk;rw[aR,eK hq];show some (((o.idxOf (((o[p]-1).toNat:Int)+1):Nat):Int)+1)=_;rw[show((o[p]-1).toNat:Int)+1=o[p]by lia,nd.idxOf_getElem]
def nb{n k:Nat}{o:ag}(h:o.Perm<|rg n)(h0:1<=k)(h1:k<n):o.getD (k-1) 0≠o.getD k 0:=λz=>by
 have lo:o.length=n:=by rw[h.length_eq,Wd.mG]
 have nd:o.Nodup:=h.nodup_iff.mpr<|rG _ _;rw[Wd.v5 (),Wd.v5 ()]at z;have:=(cG nd).mp z
 lia
abbrev L (j:Nat)(f:Fn):Fn:=λo t=>f (o.map<|Wd.sw j) t+if tZ (bk o) j=true then dl (f o) t else 0
abbrev EqP (n:Nat)(f g:Fn):Prop:=∀o:ag,o.Perm (rg n)->∀t,f o t=g o t
def EW{n k:Nat}{o:ag}(h:o.Perm<|rg n)(h0:1<=k)(h1:k<n):(Wd.ex o k).Perm (rg n):=(Wd.VC h0<|by rw[h.length_eq,Wd.mG];exact h1).trans h
abbrev Xw (w:am)(f:Fn):Fn:=w.foldl (λf k=>X k f) f
abbrev D (u:ag)(g:Int->Int):Fn:=λo t=>if o=u then g t else 0
abbrev add (f g:Fn):Fn:=λo t=>f o t+g o t
def adN{n k:Nat}{l:Su.Ps}(h:∀x∈l,x.1.Perm<|rg n)(h0:1<=k)(h1:k<n):EqP n (Su.cS<|Su.bx k l) (X k<|Su.cS l):=λo p t=>by
 have d:∀{x:ag},x.Perm (rg n)->Su.Go n k x:=λ{x} hx=>⟨by rw[hx.length_eq,Wd.mG],nb hx h0 h1⟩;unfold Su.bx;rw[Su.HJ<|Su.Gd.nil.adds _,Su.Qf];show 0+_=_;rw[dm,Su.WA h0 h1 (λe f=>d<|h e f) t<|d p];rfl
end He
namespace He
open PySem L2 Am Po
open Fw (Two rg Nn)
open Su (tZ Ps cS)
abbrev cv:Pl->(Int->Int)->Int->Int
 | [],_,_=>0
 | q::p,g,t=>q.2 * g (t-q.1)+cv p g t
def W8(p:Pl)(g h:Int->Int)(t:Int):cv p (λt=>g t+h t) t=cv p g t+cv p h t:=by
 induction p with
 | nil=>rfl
 | cons q p d=>
  show q.2 * (g (t-q.1)+h (t-q.1))+cv p _ t=(q.2 * g (t-q.1)+cv p g t)+(q.2 * h (t-q.1)+cv p h t);rw[d,Int.mul_add];lia
def Lr(p:Pl)(t:Int):cv p (λ_=>0) t=0:=by
 induction p with
 | nil=>rfl
 | cons q p d=>
  show q.2 * 0+cv p _ t=0;rw[d,jI];rfl
def abr(p q:Pl)(t:Int):cf (times p q) t=cv p (cf q) t:=by
 rw[Su.FO]
 induction p with
 | nil=>rfl
 | cons a p d=>
  show cf ((q.map λb=>(a.1+b.1,a.2 * b.2))++KY p q) t=_;rw[Su.rP,Su.IY,d];rfl
abbrev MG (p:Pl)(f:Fn):Fn:=λo t=>cv p (f o) t
abbrev RG (G:ag->Fn):Ps->Fn
 | []=>λ_ _=>0
 | e::m=>add (MG e.2<|G e.1)<|RG G m
def aaK{n k:Nat}{m:Ps}(h0:1<=k)(h1:k<n)(hm:∀x∈m,x.1.Perm<|rg n):∀x∈Su.bx k m,x.1.Perm (rg n):=Su.tW (P:=λo=>o.Perm<|rg n) (Su.rj (P:=λo=>o.Perm<|rg n) _ (nofun) λx d=>by
 obtain⟨f,hf,d⟩:=gA.mp d
 rcases bG.mp d with z|z
 ·rw[z];exact EW (hm f hf) h0 h1
 ·split at z
  ·rw[aS.mp z];exact hm f hf
  ·cases z)
abbrev scl (p:Pl)(l:Ps):Ps:=l.map λx=>(x.1,times p x.2)
def XH(p:Pl)(l:Ps):cS (scl p l)=MG p (cS l):=by
 funext o t
 induction l with
 | nil=>exact(Lr p t).symm
 | cons e l d=>
  show(if e.1=o then cf (times p e.2) t else 0)+cS (scl p l) o t=cv p (λt=>(if e.1=o then cf e.2 t else 0)+cS l o t) t;rw[W8,d];congr 1;by_cases c:e.1=o
  ·rw[aW c,abr,show(λt=>if e.1=o then cf e.2 t else 0)=cf e.2 from funext λt=>aW c]
  ·rw[aV c,show(λt=>if e.1=o then cf e.2 t else(0:Int))=λ_=>0 from funext λt=>aV c,Lr]
abbrev B (f:Fn):Fn:=λo=>f<|bk o
abbrev wb (l:Ps):Ps:=l.map λe=>(bk e.1,e.2)
end He
namespace He
open PySem L2 Am Po
open Fw (Two rg Nn)
open Su (tZ Ps cS Gd vS toS adds bx)
def QV{D:Ps}(h:Gd D){e:ag×Pl}(he:e∈D):vS D e.1=e.2:=by
 rcases Su.xq (D:=D) (o:=e.1)with⟨d,h1,h2,h3⟩|⟨h1,_⟩
 ·rw[h3,DJ h.nd d h1 e he h2]
 ·exact absurd (cL he) h1
def EG{D:Ps}(h:Gd D):(D.map Prod.fst).map (λk=>(k,vS D k))=D:=by
 rw[aY]
 conv=>rhs;rw[<- jt D]
 exact bO λe d=>by
  show(e.1,vS D e.1)=e;rw[QV h d]
def I0{D:Ps}(h:Gd D)(o:ag)(t:Int):cS D o t=cf (vS D o) t:=by
 conv=>lhs;rw[<- EG h]
 rw[Su.HR h.nd];split
 ·rfl
 ·rename_i c
  rcases Su.xq (D:=D) (o:=o)with⟨e,h1,h2,_⟩|⟨_,h2⟩
  ·exact absurd (h2 ▸ cL h1) c
  ·rw[h2];rfl
def HX{D:Ps}(h:Gd D):Gd (toS D):=by
 refine⟨?_,λe d=>?_⟩
 ·unfold toS;rw[aY,show(Prod.fst ∘ λo=>(o,vS D o))=id from rfl,jt];exact((kN _).nodup_iff.mpr h.nd).filter _
 ·obtain⟨o,_,rfl⟩:=bq.mp d;exact h.v o
structure Cn (l:Ps):Prop where
 gd:Gd l
 eq:toS l=l
theorem Cn.toS{D:Ps}(h:Gd D):Cn (toS D):=⟨HX h,Su.Qd (HX h) h λo t=>by rw[<- I0 (HX h),Su.HJ h]⟩
def Qk{P:Ps}(h:Gd P)(hn:∀e∈P,e.2≠[]):Az P=toS P:=by
 symm
 have all:(kQ<|P.map Prod.fst).filter (λo=>!(vS P o).isEmpty)=kQ (P.map Prod.fst):=by
  rw[eL];intro o g;obtain⟨e,d,rfl⟩:=bq.mp<|(kN _).mem_iff.mp g;rw[QV h d]
  cases f:e.2 with
  | nil=>exact absurd f (hn e d)
  | cons=>rfl
 have ts:toS P=(kQ<|P.map Prod.fst).map λo=>(o,vS P o):=by unfold toS;rw[all]
 refine GS h.nd ?_ ?_
 ·rw[ts];have:=(kN<|P.map Prod.fst).map λo=>(o,vS P o)
  rwa [EG h]at this
 ·rw[ts,aY,show(Prod.fst ∘ λo=>(o,vS P o))=id from rfl,jt];exact vR _
abbrev ff (o:ag):bj:=((List.range<|o.length-1).find? λi=>tZ o<|i+1).map (·+1)
def Th{o:ag}{k:Nat}(h:ff o=some k):1<=k/\k<o.length/\tZ o k=true:=by
 obtain⟨i,d,rfl⟩:=aP.mp h;have h1:=cy.mp<|cF d;have h2:tZ o (i+1)=true:=fV (p:=λi=>tZ o<|i+1) d;exact⟨(),(),h2⟩
def aaZ(k:Nat)(l:Ps):Cn (bx k l):=.toS<|Gd.nil.adds _
def K9(l:Ps)(o:ag)(t:Int):cS (toS<|adds [] l) o t=cS l o t:=by
 rw[Su.HJ<|Gd.nil.adds _,Su.Qf];exact dm _
abbrev Bf (l m:Ps):Ps:=toS<|adds []<|l++m
def T9{n:Nat}{l m:Ps}(pl:∀x∈l,x.1.Perm<|rg n)(pm:∀x∈m,x.1.Perm<|rg n):Cn (Bf l m)/\(∀x∈Bf l m,x.1.Perm<|rg n)/\cS (Bf l m)=add (cS l) (cS m):=
 ⟨.toS<|Gd.nil.adds _,Su.tW (P:=λo=>o.Perm<|rg n)<|Su.rj (P:=λo=>o.Perm<|rg n) _ (nofun) λx d=>(bH.mp d).elim (pl x)<|pm x,funext λo=>funext λt=>by
  show cS (toS<|adds []<|l++m) o t=_;rw[K9,Su.PO];rfl⟩
abbrev one (n:Nat):Ps:=[(rg n,[((0:Int),(1:Int))])]
def Yx(o:ag){p:Pl}(hp:Ok p)(h0:p≠[]):Cn [(o,p)]:=by
 have g:Gd [(o,p)]:=⟨bT.mpr ⟨(λz=>nomatch z),dc⟩,λe d=>by rw[aS.mp d];exact hp⟩;exact⟨g,(Qk g λe d=>by rw[aS.mp d];exact h0).symm⟩
def Xh:Ok [((0:Int),(1:Int))]:=⟨c9 _ _,λp d=>by rw[aS.mp d];decide⟩
end He
namespace He
open PySem L2 Am Po
open Fw (Two rg Nn)
open Su (tZ Ps cS Gd vS toS adds bx)
abbrev arr:Nat->ag->List (ag)
 | 0,_=>[[]]
 | m+1,l=>l.flatMap λx=>(arr m<|l.erase x).map (x::·)
theorem CK:∀{m:Nat}{l o:ag},o.Perm l->l.length=m->o∈arr m l
 | 0,l,o,p,h=>by
  have:l=[]:=fG.mp h;subst this;rw[p.eq_nil];exact aS.mpr rfl
 | m+1,l,[],p,h=>by rw[<- p.length_eq]at h;cases h
 | m+1,l,x::o,p,h=>by
  obtain⟨h1,h2⟩:=List.cons_perm_iff_perm_erase.mp p;refine gA.mpr ⟨x,h1,bq.mpr ⟨o,CK h2 ?_,rfl⟩⟩;rw[List.length_erase_of_mem h1,h];rfl
def Cc{α:Type}[DecidableEq α]{ks L:List α}(nd:ks.Nodup)(h:∀x∈ks,x∈L):ks.length<=L.length:=by
 have:=pig L.length (ks.map λx=>L.idxOf x) ?_ λi d=>?_
 ·rwa [aH]at this
 ·refine cI.mpr<|nd.imp_of_mem λ{a b} ha hb hab z=>hab ?_;have e1:=jm<|fC.mpr<|h a ha;have e2:=jm<|fC.mpr<|h b hb;rw[<- e1,<- e2];congr 1
 ·obtain⟨x,f,rfl⟩:=bq.mp d;exact fC.mpr<|h x f
def Tz:∀n,n<6->(arr n<|rg n).length<=120:=by decide +kernel
def many{n:Nat}(hn:n<6){ks:List<|ag}(nd:ks.Nodup)(h:∀o∈ks,o.Perm<|rg n):ks.length<=120:=
 bK (Cc nd λo d=>CK (h o d)<|Wd.mG n) (Tz n hn)
structure FB (n P C:Nat)(f:Fn):Prop where
 c:∀o,o.Perm (rg n)->∀t,(f o t).natAbs<=C
 p:∀o,o.Perm (rg n)->∀t:Int,P<t.natAbs->f o t=0
def FB.mono{n P:Nat}{f:Fn}(h:FB n P C f)(hp:P<=P')(hc:C<=C'):FB n P' C' f:=⟨λo d t=>bK (h.c o d t) hc,λo d t g=>h.p o d t ()⟩
def FB.eq{n P:Nat}{f g:Fn}(h:FB n P C f)(e:EqP n g f):FB n P C g:=⟨λo d t=>by rw[e o d t];exact h.c o d t,λo d t j=>by rw[e o d t];exact h.p o d t j⟩
theorem FB.X{n P k:Nat}{f:Fn}(h:FB n P C f)(h0:1<=k)(h1:k<n):FB n (P+1) (3 * C) (X k f):=by
 refine⟨λo g t=>?_,λo g t j=>?_⟩
 ·have a:=h.c _ (EW g h0 h1) t;have b:=h.c o g<|t+1;have d:=h.c o g<|t-1;unfold He.X dl;split<;>omega
 ·have a:=h.p _ (EW g h0 h1) t (by omega);have b:=h.p o g (t+1) (by omega);have d:=h.p o g (t-1) (by omega);unfold He.X dl;split<;>omega
theorem FB.add{n P:Nat}{f g:Fn}(h:FB n P C f)(h':FB n P C' g):FB n P (C+C') (add f g):=by
 refine⟨λo d t=>?_,λo d t j=>?_⟩
 ·have a:=h.c o d t;have b:=h'.c o d t;show(f o t+g o t).natAbs<=_;omega
 ·show f o t+g o t=0;rw[h.p o d t j,h'.p o d t j];rfl
structure PB (Q c:Nat)(p:Pl):Prop where
 c:∀q∈p,q.2.natAbs<=c
 p:∀q∈p,q.1.natAbs<=Q
theorem WW{n P c:Nat}{f:Fn}(h:FB n P C f){o:ag}(po:o.Perm<|rg n):∀{p:Pl},PB Q c p->(∀t,(cv p (f o) t).natAbs<=p.length * (c * C))/\∀t:Int,P+Q<t.natAbs->cv p (f o) t=0
 | [],_=>⟨λ_=>bF _,λ_ _=>rfl⟩
 | q::p,b=>by
  obtain⟨k,B⟩:=WW h po (p:=p) ⟨λx d=>b.c x<|aO _ d,λx d=>b.p x<|aO _ d⟩;have g:=b.c q<|aL ..;have D:=b.p q<|aL ..;refine⟨λt=>?_,λt j=>?_⟩
  ·show(q.2 * f o (t-q.1)+cv p (f o) t).natAbs<=(p.length+1) * (c * C);refine bK (Int.natAbs_add_le _ _) ?_;rw[Int.natAbs_mul,jb,Nat.add_comm];exact Nat.add_le_add (k t) (jP g<|h.c o po _)
  ·show q.2 * f o (t-q.1)+cv p (f o) t=0;rw[B t j,h.p o po _<|by omega,jI];rfl
theorem FB.MG{n P c:Nat}{f:Fn}(h:FB n P C f){p:Pl}(b:PB Q c p):FB n (P+Q) (p.length * (c * C)) (MG p f):=⟨λo d t=>(WW h d b).1 t,λo d t g=>(WW h d b).2 t g⟩
theorem Hq:∀{l:Pl}{a b:Int},l.Pairwise (λp q=>p.1<q.1)->(∀p∈l,a<=p.1/\p.1<=b)->l.length<=(b-a+1).toNat
 | [],_,_,_,_=>bF _
 | p::l,a,b,h,hb=>by
  obtain⟨h1,h2⟩:=bW.mp h;have p1:=hb p<|aL ..;have i:=Hq (l:=l) (a:=a+1) (b:=b) h2 λq hq=>by
   have:=h1 q hq;have:=hb q (aO _ hq)
   lia
  rw[bB]
  lia
def ZO{p:Pl}{P c:Nat}(h:Ok p)(b:PB P c p):p.length<=2 * P+1:=by
 have:=Hq (a:=-(P:Int)) (b:=P) h.up λq hq=>by have:=b.p q hq;omega
 omega
def FB.pb{n P:Nat}{l:Ps}(h:FB n P C<|cS l)(hc:Gd l)(pl:∀x∈l,x.1.Perm<|rg n){e:ag×Pl}(he:e∈l):PB P C e.2/\e.2.length<=2 * P+1:=by
 have ok:=hc.ok e he;have d:∀q∈e.2,cS l e.1 q.1=q.2:=λq hq=>by
  rw[I0 hc,QV hc he];exact Su.Ok.Ad ok hq
 have b:PB P C e.2:=⟨λq hq=>by rw[<- d q hq];exact h.c _ (pl e he) _,λq hq=>by
  refine Nat.le_of_not_lt λz=>ok.nz q hq ?_;rw[<- d q hq];exact h.p _ (pl e he) _ z⟩
 exact⟨b,ZO ok b⟩
structure Sz (n P C:Nat)(l:Ps):Prop where
 cn:Cn l
 pm:∀x∈l,x.1.Perm (rg n)
 fb:FB n P C<|cS l
def Sz.pb{n P:Nat}{l:Ps}(h:Sz n P C l){e:ag×Pl}(he:e∈l):PB P C e.2/\e.2.length<=2 * P+1:=h.fb.pb h.cn.gd h.pm he
def Sz.many{n P:Nat}{l:Ps}(hn:n<6)(h:Sz n P C l):l.length<=120:=by
 have:=He.many hn h.cn.gd.nd λo f=>by obtain⟨e,d,rfl⟩:=bq.mp f;exact h.pm e d
 rwa [aH]at this
def Sz.mono{n P:Nat}{l:Ps}(h:Sz n P C l)(hp:P<=P')(hc:C<=C'):Sz n P' C' l:=⟨h.cn,h.pm,h.fb.mono hp hc⟩
theorem Sz.bx{n P k:Nat}{l:Ps}(h:Sz n P C l)(h0:1<=k)(h1:k<n):Sz n (P+1) (3 * C) (bx k l):=⟨aaZ _ _,aaK h0 h1 h.pm,(h.fb.X h0 h1).eq<|adN h.pm h0 h1⟩
def Sz.sum{n P c:Nat}{l:Ps}(h:Sz n P C l)(h':Sz n P c m):Sz n P (C+c) (Bf l m):=by
 obtain⟨a,b,d⟩:=T9 h.pm h'.pm;exact⟨a,b,by rw[d];exact h.fb.add h'.fb⟩
end He
namespace Su
open Am Po PySem L2
def LI{D:Es}{r:Nat}{p:Pl}:∃e,fE (sd D o r p) o=some e/\e.2.1=r:=by
 unfold sd;by_cases c:(fE D o).isSome=true
 ·rw[aW c];obtain⟨e,d⟩:=dF.mp c;unfold fE at d ⊢;rw[fJ];have eq:((λe:En=>decide<|e.1=o) ∘ λe:En=>if e.1=o then(e.1,r,p)else e)=λe:En=>decide (e.1=o):=by
   funext x
   show decide ((if x.1=o then(x.1,r,p)else x).1=o)=_;by_cases z:x.1=o
   ·rw[aW z]
   ·rw[aV z]
  rw[eq,d];have:=fV d;have:=bV this;exact⟨_,rfl,by show(if e.1=o then(e.1,r,p)else e).2.1=r;rw[aW this]⟩
 ·rw[aV c];have c:fE D o=none:=Option.not_isSome_iff_eq_none.mp c;unfold fE at c ⊢;rw[List.find?_append,c];exact⟨(o,r,p),by rw[bU,bf rfl];rfl,rfl⟩
end Su
namespace He
open PySem L2 Am Po
open Fw (Two rg Nn)
open Su (tZ Ps cS Gd vS toS adds bx)
def Sz.of{n P:Nat}{l:Ps}(h:Cn l)(pm:∀x∈l,x.1.Perm<|rg n)(pb:∀e∈l,PB P C e.2):Sz n P C l:=by
 refine⟨h,pm,⟨λo g t=>?_,λo g t j=>?_⟩⟩
 ·rw[I0 h.gd]
  rcases Su.xq (D:=l) (o:=o)with⟨e,h1,_,h3⟩|⟨_,h2⟩
  ·rw[h3];exact Su.abL (h.gd.ok e h1) (λq hq=>(pb e h1).c q hq) t
  ·rw[h2];exact bF _
 ·rw[I0 h.gd]
  rcases Su.xq (D:=l) (o:=o)with⟨e,h1,_,h3⟩|⟨_,h2⟩
  ·rw[h3];have:∀q∈e.2,q.1≠t:=λq hq z=>by have:=(pb e h1).p q hq;rw[z]at this;lia
   clear h3;revert this;generalize e.2=p0;intro this
   induction p0 with
   | nil=>rfl
   | cons q p f=>
    have z:=this q<|aL ..;have i:=f λx d=>this x<|aO _ d;show(if q.1=t then q.2 else 0)+cf p t=0;rw[aV z,i];rfl
  ·rw[h2];rfl
def Vw{o:ag}:((l8 1 (o.length:Int)).filter λk=>decide<|o.getD (k-1).toNat 0>o.getD k.toNat 0).head?=(ff o).map λk:Nat=>(k:Int):=by
 rw[List.head?_filter];unfold l8 ff;rw[fJ,show((o.length:Int)-1).toNat=o.length-1 by lia,dS];have:((λk:Int=>decide<|o.getD (k-1).toNat 0>o.getD k.toNat 0) ∘ λk:Nat=>(1:Int)+(k:Int))=λi:Nat=>tZ o (i+1):=by
  funext i
  show decide (o.getD ((1:Int)+(i:Int)-1).toNat 0>o.getD ((1:Int)+(i:Int)).toNat 0)=decide _;rw[show((1:Int)+(i:Int)-1).toNat=i+1-1 by lia,show((1:Int)+(i:Int)).toNat=i+1 by lia]
 rw[this];congr 1
 funext i
 show(1:Int)+(i:Int)=((i+1:Nat):Int)
 lia
end He
namespace He
open PySem L2 Am Po
open Fw (Two rg Nn)
open Su (tZ Ps cS Gd vS toS adds bx)
abbrev Y (k:Nat)(f:Fn):Fn:=λo t=>X k f o t-dl (f o) t
abbrev GG (p:Pl)(l:Ps):Ps:=toS<|adds []<|scl p l
def ZJ(p:Pl)(l:Ps):cS (GG p l)=MG p (cS l):=by
 funext o t
 unfold GG;rw[K9,XH]
def XS{n:Nat}{p:Pl}{l:Ps}(pl:∀x∈l,x.1.Perm<|rg n):Cn (GG p l)/\∀x∈GG p l,x.1.Perm (rg n):=
 ⟨.toS<|Gd.nil.adds _,Su.tW (P:=λo=>o.Perm<|rg n) (Su.rj (P:=λo=>o.Perm<|rg n) _ (nofun) λx d=>by
  obtain⟨y,hy,rfl⟩:=bq.mp d;exact pl y hy)⟩
structure Fwd (n:Nat)(W:ag->am):Prop where
 r:∀o,o.Perm (rg n)->Wd.OW (rg n) (W o)
 e:∀o,o.Perm (rg n)->Wd.led (rg n) (W o)=o
end He
namespace He
open PySem L2 Am Po
open Fw (Two rg Nn Dn)
open Su (tZ Ps cS Gd vS toS adds bx)
theorem Sz.GG{n P c:Nat}{l:Ps}(h:Sz n P C l){p:Pl}(b:PB Q c p):Sz n (P+Q) (p.length * (c * C)) (GG p l):=by
 obtain⟨f,d⟩:=XS (p:=p) h.pm;exact⟨f,d,by rw[ZJ];exact h.fb.MG b⟩
end He
namespace Am
open PySem L2 Bl
def abu{S:jV}{n:Nat}{x:A}{k:Nat}(h:jT S n=some [x])(hk:k<=16777216):yC (.ref n) (.int k) S=.ok (.ref S.length) (S++[.lst<|List.replicate k x]):=by
 show opt (jT S n) _=_;rw[h,j_];have e:(List.replicate k [x]).flatten=List.replicate k x:=by
  induction k with
  | zero=>rfl
  | succ k d=>rw[dz,d_,d ()];rfl
 rw[oO ⟨(),(),by rw[eS,cR];simpa using hk⟩,cR,e]
def RN{xs:ag}{n:Int}(h:xs.Perm<|l8 1<|n+1)(hn:0<=n):(xs.length:Int)=n:=by
 rw[h.length_eq,tD];lia
def EH{xs:ag}{n x:Int}(h:xs.Perm<|l8 1<|n+1)(hx:x∈xs):1<=x/\x<=n:=by
 have:=qh.mp (h.mem_iff.mp hx)
 lia
end Am
namespace Su
open PySem L2 Am Po
abbrev RB (Q:Nat)(p:Pl):Prop:=∀q∈p,q.1.natAbs<=Q
theorem yT:∀(ps d:Pl) {k:Int},k∈(rB d ps).map Prod.fst->k∈d.map Prod.fst\/k∈ps.map Prod.fst
 | [],_,_,h=>.inl h
 | p::ps,d,k,h=>by
  rcases yT ps (acc d p.1 p.2) (k:=k) h with z|z
  ·have e:(acc d p.1 p.2).map Prod.fst=_:=Gf;rw[e]at z;split at z
   ·exact .inl z
   ·rcases bH.mp z with y|y
    ·exact .inl y
    ·exact .inr<|by rw[aS.mp y];exact aL ..
  ·exact .inr<|aO _ z
def Jd{d:Pl}{q:Int×Int}(h:q∈LX d):q.1∈d.map Prod.fst:=by
 obtain⟨k,f,rfl⟩:=bq.mp h;exact(sortI_perm _).mem_iff.mp (cj.mp f).1
def RB.plus{a:Pl}(ha:RB Q a)(hb:RB Q b):RB Q (rW a b):=λq hq=>by
 rcases yT _ _ (Jd hq)with z|z
 ·cases z
 ·obtain⟨x,d,e⟩:=bq.mp z;rw[<- e];exact(bH.mp d).elim (ha x) (hb x)
theorem RB.times{R:Nat}{a:Pl}(ha:RB Q a)(hb:RB R b):RB (Q+R) (times a b):=λq hq=>by
 rcases yT _ _ (Jd hq)with z|z
 ·cases z
 ·obtain⟨x,d,e⟩:=bq.mp z;obtain⟨y,hy,d⟩:=gA.mp d;obtain⟨w,hw,rfl⟩:=bq.mp d;rw[<- e];have:=ha y hy;have:=hb w hw;show(y.1+w.1).natAbs<=_
  lia
def RB.mono{R:Nat}{a:Pl}(h:RB Q a)(hq:Q<=R):RB R a:=λq d=>bK (h q d) hq
def RB.len{p:Pl}(ok:Ok p)(h:RB Q p):p.length<=2 * Q+1:=by
 have:=He.Hq (a:=-(Q:Int)) (b:=Q) ok.up λq hq=>by have:=h q hq;lia
 lia
def TV{S:jV}{d:Nat}{D:Pl}(hd:mR S d=some (iv D))(hl:D.length<64):∃S',kL [none,some 0] (lJ<|kj (f1 xO)<|jS (jR 0)<|j0) (kG 0) (sG<|j6 (yc true) (j6 A_ (jR 1)<|jR 0)<|eC<|.int 0) (pK<|jS (jR 0)<|jS (j6 A_ (jR 1)<|jR 0)<|j0) [.ref d] S=.ok (.ref<|S.length+1) S'/\jT S' (S.length+1)=some (pl<|LX D)/\lG S S':=by
 have g:mR (S++[.lst<|(sortI<|D.map Prod.fst).map .int]) d=some (iv D):=Zy hd;have p:(S++[O.lst<|(sortI<|D.map Prod.fst).map A.int]).length=S.length+1:=by simp
 have q:xO (.ref d) S=.ok (.ref S.length) (S++[.lst<|(sortI<|D.map Prod.fst).map .int]):=by
  show opt (mR S d) _=_;rw[hd,j_,D5<|show(iv D).length<64 by unfold iv;rw[aH];exact hl,Vy]
 have B:=Mx (n:=S.length) (xs:=(sortI<|D.map Prod.fst).map A.int) (cap:=[some 0]) (src:=lJ<|kj (f1 xO)<|jS (jR 0)<|j0) (t:=sG<|j6 (yc true) (j6 A_ (jR 1)<|jR 0)<|eC<|.int 0) (e:=pK<|jS (jR 0)<|jS (j6 A_ (jR 1)<|jR 0)<|j0) (τ:=[.ref d]) (S:=S) (S1:=S++[.lst<|(sortI<|D.map Prod.fst).map .int])
  (mF (by dsimp[kJ,bools,q]) kc) kc (λx=>match x with | .int k=>val D k != 0|_=>false) (λx=>match x with | .int k=>pA (k,val D k)|_=>.non) (λx j=>by
   obtain⟨k,f,rfl⟩:=bq.mp j;have f:=(sortI_perm _).mem_iff.mp f;dsimp[kJ,bools,JX,g,Ff f];rfl) (λx j _=>by
   obtain⟨k,f,rfl⟩:=bq.mp j;have f:=(sortI_perm _).mem_iff.mp f;dsimp[kJ,bools,JX,g,Ff f];exact pG<|show 2<=16777216 by decide) (by rw[aH,(sortI_perm _).length_eq,aH];lia)
 refine⟨_,B.trans<|by rw[p],?_,Kp.refl.lay.lay⟩;rw[<- p,kc];congr 1;unfold pl LX;rw[aY,gK,aY];rfl
def SS{S:jV}{d:Nat}{D:Es}(hd:ki S d=some (D.map kv))(hne:∀e∈D,e.1≠[])(hl:D.length<64):zA (.ref d) S=.ok (.ref S.length) (S++[.lst<|(kQ<|D.map Prod.fst).map BB]):=by
 have ek:(D.map kv).map Prod.fst=D.map Prod.fst:=by rw[aY];rfl
 show opt (ki S d) _=_;rw[hd,j_,ek,D5<|Oo (λk f=>by obtain⟨e,g,rfl⟩:=bq.mp f;exact hne e g)<|by rw[aH];exact hl];rfl
abbrev ES (F:ae->jV->R A):Prop:=∀{S:jV}{d r:Nat}{D:Es}{o:ag}{p:Pl}{k b:Nat},ki S d=some (D.map kv)->At S D->Vl k b D->jT S r=some (pl p)->D.length<64->k+p.length<64 ->
  ∃(L:Nat) (f:jV),F [.ref d,.tup<|o.map .int,.ref r] S=.ok .non f/\ki f d=some ((sd D o L<|rW (vS (sm D) o) p).map kv)/\At f (sd D o L<|rW (vS (sm D) o) p)/\S.length<=L/\Kp (·=d) S f
structure Fil3 (T:jV)(d b i j:Nat)(P:Ps)(D:Es):Prop where
 dd:ki T d=some (D.map kv)
 aa:At T D
 ss:sm D=P
 vv:Vl (2 * j+1) b D
 rb:∀e∈D,RB j e.2.2
 kk:∀e∈D,e.1≠[]
 ll:D.length<=i
 pw:Ap D
def Fil3.mono{d:Nat}{P:Ps}{D:Es}(h:Fil3 T d b i j P D)(hi:i<=i'):Fil3 T d b i' j P D:=⟨h.dd,h.aa,h.ss,h.vv,h.rb,h.kk,bK h.ll hi,h.pw⟩
def Fil3.new{d:Nat}(hd:ki S d=some []):Fil3 S d b 0 j [] []:=⟨hd,(nofun),rfl,(nofun),(nofun),(nofun),aN _,List.Pairwise.nil⟩
def Fil3.wu{d:Nat}{P:Ps}{D:Es}(h:Fil3 S d b i j P D)(k:lG S T):Fil3 T d b i j P D:=⟨k.dct _ _ (λz=>z) h.dd,h.aa.wu k,h.ss,h.vv,h.rb,h.kk,h.ll,h.pw⟩
def Fil3.add{F:ae->jV->R A}(hF:ES F){T:jV}{d r:Nat}{P:Ps}{D:Es}{o:ag}{p:Pl}(h:Fil3 T d b i j P D)(hr:jT T r=some (pl p))(hp:RB j p)(lp:p.length<=2 * j+1)(ho:o≠[])(hb:b<=T.length)(hl:j<=15)(hi:i<63) :
  ∃(D':Es) (T':jV),F [.ref d,.tup<|o.map .int,.ref r] T=.ok .non T'/\Fil3 T' d b (i+1) j (AU P o p) D'/\Kp (·=d) T T':=by
 have t:=h.ll;obtain⟨L,T',e,h1,h2,h3,g⟩:=hF (o:=o) h.dd h.aa h.vv hr () ();have k:RB j (vS (sm D) o):=by
  rw[Mj]
  cases e:fE D o with
  | none=>exact λq hq=>nomatch hq
  | some B=>exact h.rb B (ud e).1
 have rn:=k.plus hp;refine⟨_,T',e,⟨h1,h2,by rw[QY,h.ss];rfl,λe f=>?_,λe f=>?_,λe f=>?_,?_,h.pw.put λe f z=>by have:=mh<|h.aa e f;lia⟩,g⟩
 ·rcases uz f with z|z
  ·exact h.vv e z
  ·rw[z];exact⟨Bu _ _,RB.len (Bu _ _) rn,by show b<=L;lia⟩
 ·rcases uz f with z|z
  ·exact h.rb e z
  ·rw[z];exact rn
 ·rcases uz f with z|z
  ·exact h.kk e z
  ·rw[z];exact ho
 ·have:=TR (D:=D) (o:=o) (r:=L) (p:=rW (vS (sm D) o) p)
  lia
def A4{d n w:Nat}{P:Ps}{es:Es}{src:Ic}{c:Am.Sm}{g:Tg}(Fm:A->A->ae)(G:En->Ps->Ps)(hg:∀(e:En) (y z:A) (T:jV),g (ent e) (Fm y z) T=.ok (Fm (.tup<|e.1.map .int)<|.ref e.2.1) T)
  {x3 x4:A} (hs:src (Fm x3 x4) S=.ok (l_ n (es.map ent).length) S1) (hn:jT S1 n=some (es.map ent)) (hd:Fil3 S1 d b i0 j P D0)
  (step:∀(i:Nat) (e:En) (T:jV) (Q:Ps) (D:Es),i<es.length->e∈es->Kp (·=d) S1 T->Fil3 T d b (i0+w * i) j Q D->∃(D':Es) (T':jV),c (Fm (.tup<|e.1.map .int)<|.ref e.2.1) T=.nx (Fm (.tup<|e.1.map .int)<|.ref e.2.1) T'/\Fil3 T' d b (i0+w * (i+1)) j (G e Q) D'/\Kp (·=d) T T') :
  ∃(y3 y4:A) (D:Es) (S':jV),mX src g c (Fm x3 x4) S=.nx (Fm y3 y4) S'/\Fil3 S' d b (i0+w * es.length) j (es.foldl (λQ e=>G e Q) P) D/\Kp (·=d) S1 S':=by
 have k:(es.map ent).length=es.length:=aH ..;refine o9 (n:=n) (xs:=es.map ent) (S1:=S1) hs (λi τ T=>(∃y3 y4,τ=Fm y3 y4)/\(∃D,Fil3 T d b (i0+w * i) j ((es.take i).foldl (λQ e=>G e Q) P) D)/\Kp (·=d) S1 T)
  (λr=>∃(y3 y4:A) (D:Es) (S':jV),r=.nx (Fm y3 y4) S'/\Fil3 S' d b (i0+w * es.length) j (es.foldl (λQ e=>G e Q) P) D/\Kp (·=d) S1 S') ⟨⟨_,_,rfl⟩,⟨D0,hd⟩,Kp.refl⟩ (λi τ T h=>h.2.2.lst _ _ (cO<|oA hd.dd hn) hn) ?_ ?_
 ·rintro i z τ T q ⟨⟨y3,y4,rfl⟩,⟨D,f⟩,kp⟩;rw[aR]at q;obtain⟨e,p,rfl⟩:=aP.mp q;refine⟨Fm (.tup<|e.1.map .int)<|.ref e.2.1,T,hg _ _ _ _,.inl ?_⟩;obtain⟨D',T',e1,t,B⟩:=step i e T _ D (aJ.mp p).1 (aZ p) kp f;refine⟨_,T',e1,⟨_,_,rfl⟩,⟨D',?_⟩,kp.trans B⟩;rw[b7,p,eg];exact t
 ·rintro τ T ⟨⟨y3,y4,rfl⟩,⟨D,f⟩,kp⟩;rw[k,cg]at f;exact⟨y3,y4,D,T,rfl,f,kp⟩
end Su
namespace He
open Su Po
open Fw (rg)
def aaH:∀n,n<5->(arr n<|rg n).length<=24:=by decide +kernel
def Sz.m24{n P:Nat}{l:Ps}(hn:n<5)(h:Sz n P C l):l.length<=24:=by
 have:(l.map Prod.fst).length<=24:=bK (Cc h.cn.gd.nd λo f=>by obtain⟨e,d,rfl⟩:=bq.mp f;exact CK (h.pm e d)<|Wd.mG n) (aaH n hn)
 rwa [aH]at this
def Sz.rb{n P:Nat}{l:Ps}(h:Sz n P C l){e:ag×Pl}(he:e∈l):RB P e.2:=(h.pb he).1.p
end He
namespace K67
open PySem L2 Am
abbrev Bag (S:jV)(b:Nat):Prop:=∃g st:Int,jT S b=some [.int g,.int st]/\0<=g/\0<=st/\st<4294967296
def Uq{ns:ag}{k:Int}(h0:0<=k):∃c,rL [.frz<|ns.map .int,.int k] S=.ok (.int c) S:=by
 unfold rL xr w4;dsimp[kJ,bools,m8,Nat.reduceAdd,Nat.reduceSub,aH];by_cases d:k<(ns.length:Int)
 ·have hn:k.toNat<ns.length:=()
  have ha:uZ (ns.map A.int) k=some (.int ns[k.toNat]):=Ep (k:=k.toNat) ()<|aI hn;rw[bf d];dsimp[kJ,bools,ha];exact⟨_,rfl⟩
 ·rw[bz d];dsimp[kJ,bools];exact⟨_,rfl⟩
def Vb{S:jV}{c k:Int}(h0:0<=k)(h1:k<=100):∃S',tO [.int c,.int k] S=.ok (.ref S.length) S'/\Bag S' S.length/\lG S S':=by
 have e3:Ys (.int 10) (.int 18)=λS=>R.ok (.int 1000000000000000000) S:=by
  funext S;exact oO ⟨by decide,by decide,by decide⟩
 have g:∀x:Int,Dw (.int x) (.int 2147483647)=λS=>R.ok (.int<|x % 2147483647) S:=λx=>by funext S;exact Fq ⋯
 have f:∀x:Int,yC (.int x) (.int 69621)=λS=>R.ok (.int<|x * 69621) S:=λx=>by funext S;exact mul_r ⋯ ⋯
 have d:∀x:Int,yC (.int 7919) (.int x)=λS=>R.ok (.int<|7919 * x) S:=λx=>by funext S;exact Od ⋯ ⋯
 have q:∀x:Int,0<=x % 2147483647:=λx=>i_ _ ⋯;have p:∀x:Int,x % 2147483647<4294967296:=λx=>by have:=gP x (show(0:Int)<2147483647 by decide);lia
 have t:0<=(if c<0 then -c else c):=by split<;>lia
 unfold tO yq yS;dsimp[kJ,bools,m8,Nat.reduceAdd,Nat.reduceSub,e3,g,f,d];by_cases j:(if c<0 then -c else c)<1000000000000000000
 ·rw[bf j];dsimp[kJ,bools,e3,g,f,d];exact⟨_,rfl,⟨_,_,kc,Int.le_refl 0,q _,p _⟩,Kp.refl.lay⟩
 ·rw[bz j];dsimp[kJ,bools,e3,g,f,d];exact⟨_,rfl,⟨_,_,kc,t,q _,p _⟩,Kp.refl.lay⟩
def Q9{S:jV}{g st:Int}(hl:jT S b=some [.int g,.int st])(hs:0<=st)(hs2:st<4294967296):∃d st',oQ [.ref b] S=.ok (.int d) (S.set b<|.lst [.int g,.int st'])/\0<=st'/\st'<4294967296:=by
 have hb:=mh hl;have f:EB 2 1=some 1:=yJ rfl ⋯;have e1:0<=(st * 48271+11) % 2147483647:=i_ _ ⋯;have e2:(st * 48271+11) % 2147483647<2147483647:=gP _ ⋯;refine⟨(st * 48271+11) % 2147483647 * 16807 % 2147483629 / 8,(st * 48271+11) % 2147483647,?_,e1,()⟩;unfold oQ vL vM;rw[xW];simp[hl,xK,Jt,f,Od (show -18446744073709551616<st by lia) (),Fq<|show(0:Int)<2147483647 by decide,qc hb,Rw (show(0:Int)<8 by decide) ⋯,Od (show -18446744073709551616<(st * 48271+11) % 2147483647 by lia) (),Fq<|show(0:Int)<2147483629 by decide]
def digit{m:Int}(h:Bag S b)(h1:1<=m)(h2:m<=1000):∃d S',mZ [.ref b,.int m] S=.ok (.int d) S'/\0<=d/\d<m/\Bag S' b/\Kp (·=b) S S':=by
 obtain⟨g,st,q,hg,hs,p⟩:=h;have hb:=mh q;have G:EB 2 0=some 0:=yJ rfl ⋯;have j:∀d t f:Int,0<=d->d<m->0<=t->0<=f->f<4294967296->mZ [.ref b,.int m] S=.ok (.int d) (S.set b<|.lst [.int t,.int f])->∃d S',mZ [.ref b,.int m] S=.ok (.int d) S'/\0<=d/\d<m/\Bag S' b/\Kp (·=b) S S':=
  λd t f C J F B L e=>⟨d,_,e,C,J,⟨t,f,qc hb,F,B,L⟩,Kp.refl.set<|.inl rfl⟩
 by_cases k:0<g
 ·refine j (g % m) (g / m) st (i_ _ ()) (gP _ ()) (Int.ediv_nonneg hg ()) hs p ?_;unfold mZ sD su;rw[xW];simp[q,xK,Jt,k,Fq<|show 0<m by lia,Rw (show 0<m by lia)<|show m<1073741824 by lia,G]
 ·obtain⟨d,f,e1,D,K⟩:=Q9 q hs p;refine j (d % m) g f (i_ _ ()) (gP _ ()) hg D K ?_;unfold mZ sD su;rw[xW];simp[q,xK,Jt,k,Fq<|show 0<m by lia,e1,show ¬(1000<m)by lia]
open Po (Pl Ok Bd)
def RU{S:jV}{d:Nat}{D:Pl}(hd:mR S d=some (Po.iv D))(hl:D.length<64):∃S',lX [.ref d] S=.ok (.ref<|S.length+1) S'/\jT S' (S.length+1)=some (Po.pl<|Po.LX D)/\lG S S':=by
 obtain⟨S',e,h1,h2⟩:=Su.TV hd hl;refine⟨S',?_,h1,h2⟩;unfold lX qE qz;dsimp[kJ,bools,m8,Nat.reduceAdd,Nat.reduceSub];rw[show kL [none,some 0] _ _ _ _ _ _=_ from e];rfl
def U_{S:jV}{n:Nat}{a b:Pl}(hn:jT S n=some (Po.pl a))(hm:jT S m=some (Po.pl b))(ha:Ok a)(hl:a.length+b.length<64) :
  ∃(L:Nat) (S':jV),Aa [.ref n,.ref m] S=.ok (.ref L) S'/\jT S' L=some (Po.pl<|Po.rW a b)/\S.length<=L/\lG S S':=by
 have g:mR (S++[.qv<|Po.iv a]) S.length=some (Po.iv a):=Hr;obtain⟨p,k,T,e,f,kp⟩:=UR (S:=S++[.qv<|Po.iv a]) (S1:=S++[.qv<|Po.iv a]) (x0:=.ref n) (x1:=.ref m) (x3:=.unb) (x4:=.unb) (src:=ye) (l:=b) (show ye _ _=_ from mF (by dsimp[kJ,bools])<|k_ hm) (k_ hm) g ();have j:=Po.vE b a;obtain⟨S',e2,h1,h2⟩:=RU f ();have d:lG S T:=(Kp.refl.lay (o:=.qv<|Po.iv a)).old kp λq hq _ z=>()
 refine⟨T.length+1,S',?_,by rw[h1,<- Po.TM ha];rfl,by have:=d.len;lia,d.trans h2⟩;unfold Aa HG Ho;dsimp[kJ,bools,m8,Nat.reduceAdd,Nat.reduceSub,CF,hn,Po.Pd,Po.JY,Po.JC ha];rw[show mX ye _ Gk _ _=_ from e];dsimp[kJ,bools,e2]
def yR(f:Int×Int->A)(hf:∀p τ S,SG (f p) τ S=SG (Po.pA p) τ S){S:jV}{n:Nat}{a b:Pl}(hn:jT S n=some (a.map f))(hm:jT S m=some (Po.pl b))(hl:a.length * b.length<64)(ha:∀p∈a,p.2.natAbs<big)(hb:∀p∈b,p.2.natAbs<big) :
  ∃(L:Nat) (S':jV),sC [.ref n,.ref m] S=.ok (.ref L) S'/\jT S' L=some (Po.pl<|Po.times a b)/\S.length<=L/\lG S S':=by
 have k:mR (S++[.qv []]) S.length=some []:=Hr;obtain⟨D,C,t,B,T,e,j,kp⟩:=GO f hf (S:=S++[.qv []]) (x3:=.unb) (x4:=.unb) (x5:=.unb) (x6:=.unb) (k_ hn) (k_ hm) k () ha hb;have g:=Po.vE (Po.KY a b) [];rw[Po.Kz,ez,cz]at g;obtain⟨S',e2,h1,h2⟩:=RU j ();have d:lG S T:=(Kp.refl.lay (o:=.qv [])).old kp λq hq _ z=>()
 refine⟨T.length+1,S',?_,h1,by have:=d.len;lia,d.trans h2⟩;unfold sC D7 DO;dsimp[kJ,bools,m8,Nat.reduceAdd,Nat.reduceSub,Mi];rw[show mX CG _ Cv _ _=_ from e];dsimp[kJ,bools,e2]
def A3{S:jV}{n:Nat}{a b:Pl}(hn:jT S n=some (Po.pl a))(hm:jT S m=some (Po.pl b))(hl:a.length * b.length<64)(ha:∀p∈a,p.2.natAbs<big)(hb:∀p∈b,p.2.natAbs<big) :
  ∃(L:Nat) (S':jV),sC [.ref n,.ref m] S=.ok (.ref L) S'/\jT S' L=some (Po.pl<|Po.times a b)/\S.length<=L/\lG S S':=yR Po.pA (λ_ _ _=>rfl) hn hm hl ha hb
end K67
namespace K67
open PySem L2 Am
open Po (Pl Ok Bd)
open Su (Es At Vl)
def Xg{S:jV}{d r:Nat}{D:Es}{o:ag}{p:Pl}{k:Nat}(hd:ki S d=some (D.map Su.kv))(hA:At S D)(hv:Vl k b D)(hr:jT S r=some (Po.pl p))(hl:D.length<64)(hk:k+p.length<64) :
  ∃(L:Nat) (S':jV),lB [.ref d,.tup<|o.map .int,.ref r] S=.ok .non S'/\ki S' d=some ((Su.sd D o L<|Po.rW (Su.vS (Su.sm D) o) p).map Su.kv)/\At S' (Su.sd D o L<|Po.rW (Su.vS (Su.sm D) o) p)/\S.length<=L/\Kp (·=d) S S':=by
 obtain⟨x,ex,q⟩:=Su.get_or (o:=o) hd hA;have vo:=hv.v o;obtain⟨L,S2,e2,h1,h2,B⟩:=U_ q (k_ (o:=.lst []) hr) vo.1 ();have j:lG S S2:=(Kp.refl.lay).trans B;have f:=j.dct _ _ (λz=>z) hd;have g:ki (S++[.lst []]) d=some (D.map Su.kv):=Su.DA hd;refine⟨L,S2.set d<|.dct<|(Su.sd D o L<|Po.rW (Su.vS (Su.sm D) o) p).map Su.kv,?_,Su.IG<|Su.uo f,?_,by simp at h2;lia,j.of0.qi<|.inl rfl⟩
 ·unfold lB uB t8;have t:newL [] S=.ok (.ref S.length) (S++[.lst []]):=mW (show 0<=16777216 by decide);dsimp[kJ,bools,m8,Nat.reduceAdd,Nat.reduceSub,Su.To,Su.U9,hd,fS,t,Su.U8,g,ex,e2,Su.zz,Su.ve,f,pN<|show(D.map Su.kv).length<16777216 by rw[aH];lia,Su.Pw (p:=Po.rW (Su.vS (Su.sm D) o) p)]
 ·refine(Su.At.put (hA.wu j) h1).kp (Kp.refl.qi<|.inl rfl) λe C z=>?_
  rcases Su.uz C with y|y
  ·exact Su.oA hd (hA e y) z
  ·rw[y]at z;exact Su.oA f h1 z
def HH{S:jV}{d:Nat}{D:Es}(hd:ki S d=some (D.map Su.kv))(hA:At S D)(hne:∀e∈D,e.1≠[])(hl:D.length<64) :
  ∃(n:Nat) (S':jV),pI [.ref d] S=.ok (.ref n) S'/\jT S' n=some ((Su.xm D λp=>!p.isEmpty).map Su.ent)/\At S' (Su.xm D λp=>!p.isEmpty)/\S.length<n/\lG S S':=by
 have B:=Su.SS hd hne hl;obtain⟨n,S',e,h1,h2,h3,j⟩:=Su.NZ (cap:=[some 0]) (τ:=[.ref d]) (src:=lJ<|kj (f1 zA)<|jS (jR 0)<|j0) (t:=rO<|j6 uJ (jR 1)<|jR 0) (e:=pK<|jS (jR 0)<|jS (j6 uJ (jR 1)<|jR 0)<|j0) hd hA (mF (by dsimp[kJ,bools,B]) kc) (λp=>!p.isEmpty)
  (λo r q T g f k=>⟨T,by
   have C:A.WH (.ref r) T=some (!q.isEmpty):=by
    show(jT T r).map _=_;rw[k]
    cases q<;>rfl
   dsimp[kJ,bools,Su.BB,Su.zF,g,f,C],Kp.refl⟩)
  (λo r T g f=>by
   dsimp[kJ,bools,Su.BB,Su.zF,g,f];exact pG<|show 2<=16777216 by decide) ()
 refine⟨n,S',?_,h1,h2,h3,j⟩;unfold pI Bj Bb;dsimp[kJ,bools,m8,Nat.reduceAdd,Nat.reduceSub,e]
def xQ:Su.ES lB:=λh1 h2 h3 d g f=>Xg h1 h2 h3 d g f
open Po (Pl Ok Bd)
open Su (Es At Vl)
structure Sm (S:jV)(n:Nat)(es:Es):Prop where
 l:jT S n=some (es.map Su.ent)
 a:At S es
def Sm.kp{n:Nat}(h:Sm S n es)(k:lG S S'):Sm S' n es:=⟨k.lst _ _ (λz=>z) h.l,h.a.wu k⟩
def DY{a b:ag}(h:a.length=b.length):qg [.tup<|a.map .int,.tup<|b.map .int] S=.ok .non S:=by
 unfold qg vq u5;have:((a.length:Int) == (b.length:Int))=true:=by rw[h];exact cZ _
 dsimp[kJ,mH,bools,m8,Nat.reduceAdd,Nat.reduceSub,aH,this,bY]
def BY{n:Nat}{xs:ae}(h:jT S n=some xs):A.WH (.ref n) S=some (!xs.isEmpty):=by
 show(jT S n).map _=_;rw[h];rfl
def Ej{n N:Nat}{es fs:Es}(h:Sm S n es)(h':Sm S m fs)(h1:∀e∈es,e.1.length=N)(h2:∀e∈fs,e.1.length=N):qp [.ref n,.ref m] S=.ok .non S:=by
 unfold qp vP vN;dsimp[kJ,mH,bools,m8,Nat.reduceAdd,Nat.reduceSub,BY h.l,BY h'.l]
 cases es with
 | nil=>dsimp[kJ,mH,bools,fN,jC,bY]
 | cons e es=>cases fs with
  | nil=>dsimp[kJ,mH,bools,fN,jC,bY,bC,ju,dg,BY h'.l]
  | cons f fs=>
   have q:=DY (S:=S)<|(h1 e<|aL ..).trans (h2 f<|aL ..).symm;have g:=h.l;have d:=h'.l;rw[bC]at g d;dsimp[kJ,mH,bools,bC,ju,dg,BY d,g,d,xK,Su.ent,q]
def ixD{l:ag}{k:Nat}{i:Int}(h:i=k)(hk:k<l.length):uZ (l.map A.int) i=some (.int<|l.getD k 0):=Ep h<|by rw[aK,aI hk];rfl
def UZ{l:ag}{k:Nat}:((l.map A.int).set (k-1)<|.int<|l.getD k 0).set k (.int<|l.getD (k-1) 0)=(Wd.ex l k).map A.int:=by
 unfold Wd.ex;rw[jJ,jJ]
def acF{f g:A->A->jV->R A}{ca cb cc:Ex}{a c:A}(h1:ca τ S=.ok a S)(h2:cb τ S=.ok b S)(h3:f a b S=.ok (.bl true) S)(h4:cc τ S=.ok c S):eCh f g ca cb cc τ S=g b c S:=by
 unfold eCh;rw[h1,R.ny,h2,R.ny,h3,R.ny];unfold kCh;show(cc τ S).bind _=_;rw[h4];rfl
def Qi{i:Int}:oK [.int i] S=.ok (.bl true) S:=by
 unfold oK wV wQ;dsimp[kJ,bools,m8,Nat.reduceAdd,Nat.reduceSub,show Me .int "int" = some true from rfl,show Me .int "bool" = some false from rfl,dg]
def adq{n k:Int}(h1:1<=k)(h2:k<n):nW [.int n,.int k] S=.ok (.bl true) S:=by
 unfold nW sL sP;have c:eCh aLe Zr (eC<|.int 1) (jR 1) (jR 0) [.int n,.int k] S=.ok (.bl true) S:=by
  rw[acF (a:=.int 1) (b:=.int k) (c:=.int n) rfl rfl (by dsimp[kJ,bf h1]) rfl];dsimp[kJ,bf h2]
 dsimp[kJ,bools,m8,Nat.reduceAdd,Nat.reduceSub,Qi,c]
def Jq{xs:ag}{k:Nat}(h1:1<=k)(h2:k<xs.length)(hl:xs.length<=1000):∃S',nG [.tup<|xs.map .int,.int k] S=.ok (.tup<|(Wd.ex xs k).map .int) S'/\lG S S':=by
 have e1:=adq (S:=S) (n:=(xs.length:Int)) (k:=(k:Int)) () ();have q:uZ (xs.map A.int) (k:Int)=some (.int<|xs.getD k 0):=ixD rfl ();have j:uZ (xs.map A.int) ((k:Int)-1)=some (.int<|xs.getD (k-1) 0):=ixD (k:=k-1) () ();have d:EB xs.length ((k:Int)-1)=some (k-1):=yJ () ();have f:EB xs.length (k:Int)=some k:=yJ rfl ();have g:jT (S++[O.lst<|xs.map .int]) S.length=some (xs.map .int):=kc;have p:∀ys,jT ((S++[O.lst<|xs.map .int]).set S.length<|.lst ys) S.length=some ys:=λys=>qc (by simp);have e2:mD [.tup<|xs.map .int,.int k,.int<|(k:Int)+1] S=.ok (.tup<|(Wd.ex xs k).map .int) (((S++[O.lst<|xs.map .int]).set S.length<|.lst<|(xs.map A.int).set (k-1)<|.int<|xs.getD k 0).set S.length<|.lst<|(Wd.ex xs k).map .int):=by
  unfold mD oG oz;dsimp[kJ,bools,m8,Nat.reduceAdd,Nat.reduceSub,g,show(k:Int)+1-1=k by lia,q,j,oO<|show 2<=sizeLine by decide,oO<|show 2=2 from rfl,aH,d,p,bX,f,UZ];rw[qc<|by simp];dsimp[kJ,bools]
 unfold nG u9 u7;dsimp[kJ,mH,bools,m8,Nat.reduceAdd,Nat.reduceSub,aH,e1,bY,e2];exact⟨_,rfl,((Kp.refl.lay).set<|.inr<|aN _).set<|.inr<|aN _⟩
def ixG{xs:ag}{i:Int}(h1:0<=i)(h2:i<xs.length):uZ (xs.map A.int) i=some (.int<|xs.getD i.toNat 0):=ixD (k:=i.toNat) () ()
abbrev fl (xs:ag)(n:Nat):ag:=(l8 1 (n:Int)).filter λk=>decide<|xs.getD (k-1).toNat 0>xs.getD k.toNat 0
def vF{S:jV}{n:Nat}{xs:ag}(hlen:xs.length=n)(h2:n<=20):mU [.tup<|xs.map .int] S=.ok (.ref S.length) (S++[.lst<|(fl xs n).map .int]):=by
 have g:=yj (lo:=1) (hi:=(n:Int)) (cap:=[some 0]) (src:=uU (eC<|.int 1)<|kj (f1 tP)<|jS (jR 0)<|j0) (t:=sG<|j6 MW (j6 pP (jR 1)<|j6 aSub (jR 0)<|eC<|.int 1)<|j6 pP (jR 1)<|jR 0) (e:=jR 0) (τ:=[.tup<|xs.map .int]) (S:=S) (S1:=S)
  (xJ (S1:=S) (by dsimp[kJ,bools]) (by dsimp[kJ,bools,aH,hlen]) (rJ () ())<|rJ () ())
  (λk=>decide<|xs.getD (k-1).toNat 0>xs.getD k.toNat 0) (λk=>.int k) (λk h1 h2=>by
   have d:uZ (xs.map A.int) (k-1)=some (.int<|xs.getD (k-1).toNat 0):=ixG () ();have f:uZ (xs.map A.int) k=some (.int<|xs.getD k.toNat 0):=ixG () ();dsimp[kJ,bools,d,f]) (λk _ _ _=>by dsimp[kJ,bools]) ()
 unfold mU CO DX;dsimp[kJ,bools,m8,Nat.reduceAdd,Nat.reduceSub,g];rfl
theorem xH{t:Int}:∀(p:ag),inA S (.int t) (p.map .int)=some (decide<|t∈p)
 | []=>rfl
 | x::p=>by
  show(zd S 12 (.int x)<|.int t).bind (λa=>(inA S (.int t)<|p.map .int).map λb=>a || b)=_;rw[xH p];show some ((x == t) || decide (t∈p))=_;by_cases c:x=t
  ·subst c;rw[cZ,bf (show x∈x::p from aL ..)];rfl
  ·rw[c5.mpr c];congr 1;rw[gG,gB];constructor
   ·exact λz=>aO _ z
   ·intro z
    rcases bG.mp z with z|z
    ·exact absurd z.symm c
    ·exact z
open Po (Pl Ok Bd)
open Su (Es At Vl AF)
def JE{o:ag}{N k:Nat}(hl:o.length=N)(h1:1<=k)(h2:k<N):decide ((k:Int)∈fl o N)=Su.tZ o k:=by
 unfold fl Su.tZ;rw[gB,cj,qh,iC,show((k:Int)-1).toNat=k-1 by lia,cR];constructor
 ·exact λh=>h.2
 ·exact λh=>⟨⟨(),()⟩,h⟩
def UD{S:jV}{n N k P:Nat}{es:Es}(h:Sm S n es)(h1:∀e∈es,e.1.length=N/\(e.2.2.length<=2 * P+1/\Su.RB P e.2.2)/\∀p∈e.2.2,p.2.natAbs<big)(k1:1<=k)(k2:k<N)(hN:N<=20)(hl:P<=14)(hl':es.length<=24) :
  ∃(L:Nat) (S':jV) (rs:Es),nk [.ref n,.int k] S=.ok (.ref L) S'/\Sm S' L rs/\Su.sm rs=Su.bx k (Su.sm es)/\(∀e∈rs,Ok e.2.2/\e.2.2≠[]/\S.length<=e.2.1/\e.2.1<L)/\Su.Ap rs/\rs.length<=2 * es.length/\S.length<=L/\lG S S':=by
 have k0:lG S (S++[.dct []]):=Kp.refl.lay;have M:Su.RB 1 AF:=λp hp=>by
  rcases bG.mp hp with z|z
  ·rw[z];exact aN _
  ·rw[aS.mp z];exact aN _
 obtain⟨y3,y4,D,T,e1,f,kp⟩:=Su.A4 (w:=2) (j:=1+P) (b:=S.length) (i0:=0) (S:=S++[.dct []]) (S1:=S++[.dct []]) (d:=S.length) (n:=n) (es:=es) (src:=n8) (c:=ng) (g:=Bv 2<|tB (kG 3)<|tB (kG 4)<|Bw) (λy z=>[.ref n,.int k,.ref S.length,y,z]) (Su.gX k) (λ_ _ _ _=>rfl) (x3:=.unb) (x4:=.unb)
  (show n8 _ _=_ from mF (by dsimp[kJ,bools])<|k_ h.l) (k_ h.l) (Su.Fil3.new Su.pD) λi e T Q D hi G J f=>by
   obtain⟨V,b2,b3⟩:=h1 e G;have tl:=J.len;rw[bh]at tl;obtain⟨T0,e0,W⟩:=Jq (S:=T) (xs:=e.1) (k:=k) k1 () ();have aT:=((h.a.wu k0).Ma J Su.pD).wu W;have f0:=f.wu W;have qtl:=W.len;rw[cz]at f0;have ne1:Wd.ex e.1 k≠[]:=λz=>by have:=Wd.G7 e.1 k;rw[z]at this;simp at this;lia
   obtain⟨D1,T1,e1,f1,C⟩:=f0.add xQ (o:=Wd.ex e.1 k) (aT e G) (b2.2.mono ()) () ne1 () () ();have k1l:=C.len;have fo:=vF (S:=T1) (xs:=e.1) (n:=N) V hN;have t:LN false (.int k) (.ref T1.length) (T1++[.lst<|(fl e.1 N).map .int])=.ok (.bl<|Su.tZ e.1 k) (T1++[.lst<|(fl e.1 N).map .int]):=by
    show opt (jT _ _) _=_;rw[kc,j_,xH,JE V k1 k2];rfl
   have F:lG T1 (T1++[.lst<|(fl e.1 N).map .int]):=Kp.refl.lay;obtain⟨U,hU⟩:∃U,U=T1++[O.lst<|(fl e.1 N).map .int]:=⟨_,rfl⟩;rw[<- hU]at t F fo;have fU:=f1.wu F;have K:Kp (·=S.length) T U:=(W.of0.trans C).trans F.of0
   cases hf:Su.tZ e.1 k with
   | false=>
    refine⟨D1,U,?_,?_,K⟩
    ·rw[hf]at t;unfold ng;dsimp[kJ,mH,bools,e0,e1,fo,t]
    ·rw[cz];unfold Su.gX;rw[hf,aV<|by simp];exact fU.mono ()
   | true=>
    have aU:=(aT.Ma C f0.dd).wu F;have n0:jT (U++[.lst<|AF.map kA]) U.length=some (AF.map kA):=kc;obtain⟨L,T2,e2,l1,l2,Y⟩:=yR kA (λ_ _ _=>rfl) n0 (k_ (o:=.lst<|AF.map kA)<|aU e G) (show 2 * e.2.2.length<64 by lia) (λp hp=>by
     rw[zQ]
     rcases bG.mp hp with z|z
     ·rw[z];exact show 1<2 ^ 4096 by decide +kernel
     ·rw[aS.mp z];exact show 1<2 ^ 4096 by decide +kernel) b3
    have B:lG U T2:=(Kp.refl.lay).trans Y;have tl2:=B.len;have tle:=F.len;obtain⟨D2,T3,e3,f3,Z⟩:=(fU.wu B).add xQ (o:=e.1) l1 (Su.RB.times M b2.2) (Su.RB.len (Po.A3 _ _)<|Su.RB.times M b2.2) (λz=>by rw[z]at V;simp at V;lia) () () ();refine⟨D2,T3,?_,?_,(K.trans B.of0).trans Z⟩
    ·rw[hf]at t;unfold ng;dsimp[kJ,mH,bools,e0,e1,fo,t];rw[show[((-1:Int),(1:Int)),((1:Int),(-1:Int))].map kA=AF.map kA from rfl];dsimp[kJ,mH,bools,e2,e3]
    ·rw[cz];unfold Su.gX;rw[hf,aW rfl];exact f3
 have J:lG S T:=k0.old kp λq hq _ z=>()
 have fl:=f.ll;rw[cz]at fl;obtain⟨L,S',e2,r1,r2,r3,r4⟩:=HH f.dd f.aa f.kk ();have tl:=J.len;have fs:=f.ss;rw[Su.Ka]at fs;refine⟨L,S',_,?_,⟨r1,r2⟩,by rw[Su.Dp,fs];rfl,λe G=>?_,f.pw.out _,?_,(),J.trans r4⟩
 ·unfold nk sQ sS;dsimp[kJ,mH,bools,m8,Nat.reduceAdd,Nat.reduceSub,Su.xS];rw[show mX n8 _ ng _ _=_ from e1];dsimp[kJ,mH,bools,e2]
 ·obtain⟨m1,m2⟩:=Su.C2 G;obtain⟨v1,v2,v3⟩:=f.vv e m1;have lt:=mh<|f.aa e m1;exact⟨v1,λz=>(by rw[z]at m2;cases m2),v3,()⟩
 ·unfold Su.xm;rw[aH];refine bK (c8 _ _) ?_;rw[(kN _).length_eq,aH];exact fl
end K67
namespace K67
open PySem L2 Am
open Po (Pl Ok Bd)
open Su (Es At Vl AF)
open He (Sz)
open Fw (rg)
def Sm.Ma{n d:Nat}(h:Sm S n es)(k:Kp (·=d) S S')(hd:ki S d=some kvs):Sm S' n es:=⟨k.lst _ _ (λz=>Su.oA hd h.l z.symm) h.l,h.a.Ma k hd⟩
def p6{N:Nat}{o:ag}(h:o.Perm<|rg N):o.length=N:=by rw[h.length_eq,Wd.mG]
def nQ{es:Es}{l:Su.Ps}(h:Su.sm es=l){e:Su.En}(he:e∈es):(e.1,e.2.2)∈l:=by rw[<- h];exact bq.mpr ⟨e,he,rfl⟩
structure Kn (N:Nat)(Φ:ag->Su.Ps)(T:jV)(d:Nat)(K:Es):Prop where
 dd:ki T d=some (K.map Su.kv)
 gd:Su.Gd (Su.sm K)
 pm:∀e∈K,e.1.Perm (rg N)
 at_:∀e∈K,∃es:Es,Sm T e.2.1 es/\Su.sm es=Φ e.1
def Kn.wu{N d:Nat}{Φ:ag->Su.Ps}{K:Es}(h:Kn N Φ T d K)(k:lG T T'):Kn N Φ T' d K:=⟨k.dct _ _ (λz=>z) h.dd,h.gd,h.pm,λe f=>by obtain⟨es,a,b⟩:=h.at_ e f;exact⟨es,a.kp k,b⟩⟩
def Kn.many{N d:Nat}{Φ:ag->Su.Ps}{K:Es}(hN:N<6)(h:Kn N Φ T d K):K.length<=120:=by
 have:=He.many hN h.gd.nd λo j=>by
  obtain⟨e,g,rfl⟩:=bq.mp j;obtain⟨f,hf,rfl⟩:=bq.mp g;exact h.pm f hf
 rwa [aH,Su.Bp]at this
def Zs:Ok []:=⟨List.Pairwise.nil,nofun⟩
def Kn.put{N d r:Nat}{Φ:ag->Su.Ps}{K:Es}{o:ag}(hN:N<6)(h:Kn N Φ T d K)(po:o.Perm<|rg N)(hr:Sm T r es)(he:Su.sm es=Φ o) :
  ∃T' K',qP (.ref d) (.tup<|o.map .int) (.ref r) T=.ok Unit.unit T'/\Kn N Φ T' d K'/\uJ (.ref d) (.tup<|o.map .int) T'=.ok (.ref r) T'/\Sm T' r es/\Kp (·=d) T T':=by
 have k:Kp (·=d) T (T.set d<|.dct<|(Su.sd K o r []).map Su.kv):=Kp.refl.qi<|.inl rfl;have dd:ki (T.set d<|.dct<|(Su.sd K o r []).map Su.kv) d=some ((Su.sd K o r []).map Su.kv):=Su.IG<|Su.uo h.dd;obtain⟨e,e1,e2⟩:=Su.LI (D:=K) (o:=o) (r:=r) (p:=[]);have g:=h.many hN;refine⟨_,Su.sd K o r [],?_,⟨dd,?_,λe he=>?_,λe f=>?_⟩,?_,hr.Ma k h.dd,k⟩
 ·rw[Su.ve,h.dd,j_,Su.Pw (p:=[])];exact pN (show(K.map Su.kv).length<16777216 by rw[aH];lia)
 ·rw[Su.QY];exact h.gd.put Zs
 ·rcases Su.uz he with z|z
  ·exact h.pm e z
  ·rw[z];exact po
 ·rcases Su.uz f with z|z
  ·obtain⟨fs,a,b⟩:=h.at_ e z;exact⟨fs,a.Ma k h.dd,b⟩
  ·rw[z];exact⟨es,hr.Ma k h.dd,he⟩
 ·rw[Su.zF,dd,j_,Su.vZ,e1,fS,j_,e2]
def Px{d:Nat}{o:ag}:Mf true (.tup<|o.map .int) (.ref d) S=opt (ki S d) λkvs=>.ok (.bl<|!(lC kvs o).isSome) S:=by
 show opt (ki S d) (λkvs=>opt (A.ints<|o.map .int) λns=>_)=_;rw[ints_map];rfl
open Po (Pl Ok Bd)
open Su (Es At Vl)
open He (Sz)
structure Nw (b L:Nat)(rs:Es):Prop where
 ap:Su.Ap rs
 nw:∀e∈rs,b<=e.2.1/\e.2.1<L
def Z7{S:jV}{n N P c:Nat}{fs:Es}(hN:N<5)(h0:1<=N)(h:Sm S n es)(h':Sm S m fs)(hz:Sz N P C<|Su.sm es)(hz':Sz N P c<|Su.sm fs)(hP:P<=15) :
  ∃(L:Nat) (S':jV) (rs:Es),uh [.ref n,.ref m] S=.ok (.ref L) S'/\Sm S' L rs/\Su.sm rs=He.Bf (Su.sm es) (Su.sm fs)/\Nw S.length L rs/\S.length<=L/\lG S S':=by
 have nl:=Ej h h' (λe k=>p6<|hz.pm _<|nQ rfl k) λe k=>p6<|hz'.pm _<|nQ rfl k;have t:=hz.m24 hN;have F:=hz'.m24 hN;rw[Su.Bp]at t F;have O:(es++fs).length=es.length+fs.length:=bh ..;have n1:jT (S++[.dct []]) n=some (es.map Su.ent):=k_ h.l;have V:jT (S++[.dct []]) m=some (fs.map Su.ent):=k_ h'.l;have G:=WG n1 V (by rw[aH,aH];lia);rw[<- bE]at G;have B:lG S (S++[.dct []]++[.lst<|(es++fs).map Su.ent]):=Kp.refl.lay.lay;have hj:∀e∈es++fs,(Su.RB P e.2.2/\e.2.2.length<=2 * P+1)/\e.1≠[]:=λe k=>by
  have:e.1.length=N/\Su.RB P e.2.2/\e.2.2.length<=2 * P+1:=(bH.mp k).elim (λz=>⟨p6<|hz.pm _<|nQ rfl z,hz.rb<|nQ rfl z,(hz.pb<|nQ rfl z).2⟩) λz=>⟨p6<|hz'.pm _<|nQ rfl z,hz'.rb<|nQ rfl z,(hz'.pb<|nQ rfl z).2⟩;exact⟨this.2,λz=>by rw[z]at this;have:=this.1;simp at this;lia⟩
 obtain⟨y3,y4,D,T,e1,f,kp⟩:=Su.A4 (w:=1) (j:=P) (b:=S.length) (i0:=0) (S:=S++[.dct []]) (S1:=S++[.dct []]++[.lst<|(es++fs).map Su.ent]) (d:=S.length) (src:=v9) (c:=vX) (g:=Bv 2<|tB (kG 3)<|tB (kG 4) Bw) (es:=es++fs) (λy z=>[.ref n,.ref m,.ref S.length,y,z]) (λe Q=>Su.AU Q e.1 e.2.2) (λ_ _ _ _=>rfl) (x3:=.unb) (x4:=.unb)
  (show v9 _ _=_ from mF (by dsimp[kJ,bools,G]) kc) kc (Su.Fil3.new<|Su.DA Su.pD) λi e T Q D hi k p f=>by
   have aT:=((h.a.app h'.a).wu B).Ma p<|Su.DA Su.pD;have tl:=p.len;have U:=B.len;rw[cz,fK]at f;rw[cz,fK];obtain⟨J,W⟩:=hj e k;obtain⟨D',M,x1,K,Y⟩:=f.add xQ (o:=e.1) (aT e k) J.1 J.2 W () hP ();exact⟨D',M,by unfold vX;dsimp[kJ,mH,bools,x1],K,Y⟩
 rw[cz,fK,Su.L4]at f;have p:lG S T:=B.old kp λq hq _ z=>()
 have fl:=f.ll;obtain⟨L,S',e2,r1,r2,r3,Z⟩:=HH f.dd f.aa f.kk ();have tl:=p.len;refine⟨L,S',_,?_,⟨r1,r2⟩,by rw[Su.Dp,f.ss,Su.Ht];rfl,⟨f.pw.out _,λe k=>?_⟩,(),p.trans Z⟩
 ·unfold uh CH CZ;dsimp[kJ,mH,bools,m8,Nat.reduceAdd,Nat.reduceSub,nl,Su.xS];rw[show mX v9 _ vX _ _=_ from e1];dsimp[kJ,mH,bools,e2]
 ·obtain⟨t,F⟩:=Su.C2 k;obtain⟨v1,v2,v3⟩:=f.vv e t;have lt:=mh<|f.aa e t;exact⟨v3,()⟩
abbrev Sn (N P C:Nat)(S:jV)(n:Nat)(l:Su.Ps):Prop:=Sz N P C l/\∃es,Sm S n es/\Su.sm es=l
def Sn.kp{N P n:Nat}{l:Su.Ps}(h:Sn N P C S n l)(k:lG S S'):Sn N P C S' n l:=by
 obtain⟨a,es,b,c⟩:=h;exact⟨a,es,b.kp k,c⟩
def Sn.add{N P c n:Nat}{l k:Su.Ps}(h:Sn N P C S n l)(h':Sn N P c S m k)(hN:N<5)(h0:1<=N)(hP:P<=15) :
  ∃(L:Nat) (S':jV),uh [.ref n,.ref m] S=.ok (.ref L) S'/\Sn N P (C+c) S' L (He.Bf l k)/\lG S S':=by
 obtain⟨a,es,b,rfl⟩:=h;obtain⟨d,fs,f,rfl⟩:=h';obtain⟨L,S',g,e1,p,q,_,_,j⟩:=Z7 hN h0 b f a d hP;exact⟨L,S',e1,⟨a.sum d,g,p,q⟩,j⟩
def Sn.mono{N P n:Nat}{l:Su.Ps}(h:Sn N P C S n l)(hp:P<=P')(hc:C<=C'):Sn N P' C' S n l:=⟨h.1.mono hp hc,h.2⟩
end K67
namespace K67
open PySem L2 Am
open Po (Pl Ok Bd)
open Su (Es At Vl AF)
open He (Sz PB)
open Fw (rg)
def UP{S:jV}{n N P c:Nat}{q:Pl}(f:Int×Int->A)(hf:∀p τ S,SG (f p) τ S=SG (Po.pA p) τ S)(hN:N<5)(h0:1<=N)(h:Sm S n es)(hz:Sz N P C<|Su.sm es)(hq:jT S m=some (q.map f))(pq:PB Q c q)(lq:q.length<=2)(hP:P+Q<=15)(hC:C<big)(hc:c<big) :
  ∃(L:Nat) (S':jV) (rs:Es),rD [.ref m,.ref n] S=.ok (.ref L) S'/\Sm S' L rs/\Su.sm rs=He.GG q (Su.sm es)/\S.length<=L/\lG S S':=by
 have O:lG S (S++[.dct []]):=Kp.refl.lay;have m1:=hz.m24 hN;rw[Su.Bp]at m1;obtain⟨y3,y4,D,T,e1,t,kp⟩:=Su.A4 (w:=1) (j:=Q+P) (b:=S.length) (i0:=0) (S:=S++[.dct []]) (S1:=S++[.dct []]) (d:=S.length) (n:=n) (es:=es) (src:=uL) (c:=uK) (g:=Bv 2<|tB (kG 3)<|tB (kG 4) Bw) (λy z=>[.ref m,.ref n,.ref S.length,y,z]) (λe Q=>Su.AU Q e.1<|Po.times q e.2.2) (λ_ _ _ _=>rfl) (x3:=.unb) (x4:=.unb)
  (show uL _ _=_ from mF (by dsimp[kJ,bools])<|k_ h.l) (k_ h.l) (Su.Fil3.new Su.pD) λi e T Q1 D hi B k K=>by
   have b:=hz.pb<|nQ rfl B;have M:=k.len;rw[bh]at M;rw[cz,fK]at K;rw[cz,fK];have W:e.2.2.length<=2 * P+1:=b.2;have ll:q.length * e.2.2.length<=2 * (2 * P+1):=jP lq W;have J:Su.RB (Q+P) (Po.times q e.2.2):=Su.RB.times pq.p<|hz.rb<|nQ rfl B;obtain⟨L,T1,x1,Z,l2,G⟩:=yR f hf (k.lst _ _ (λz=>Su.oA (Su.pD (S:=S) (xs:=[])) (k_ (o:=.dct []) hq) z.symm)<|k_ hq) (((h.a.wu O).Ma k Su.pD) e B) () (λp F=>e_ (pq.c p F) hc) λp F=>e_ (b.1.c p F) hC;have k1l:=G.len;obtain⟨D',Y,U,V,k'⟩:=(K.wu G).add xQ (o:=e.1) Z J (Su.RB.len (Po.A3 _ _) J) (λz=>by
    have:=p6<|hz.pm _<|nQ rfl B;rw[show((e.1,e.2.2):ag×Pl).1=e.1 from rfl,z]at this;simp at this;lia) () () ()
   exact⟨D',Y,by unfold uK;dsimp[kJ,bools,x1,U],V,G.of0.trans k'⟩
 rw[cz,fK,Su.MB]at t;have k:lG S T:=O.old kp λq hq _ z=>()
 have fl:=t.ll;obtain⟨L,S',e2,r1,r2,r3,r4⟩:=HH t.dd t.aa t.kk ();have M:=k.len;refine⟨L,S',_,?_,⟨r1,r2⟩,by rw[Su.Dp,t.ss];rfl,(),k.trans r4⟩;unfold rD Ah AD;dsimp[kJ,bools,m8,Nat.reduceAdd,Nat.reduceSub,Su.xS];rw[show mX uL _ uK _ _=_ from e1];dsimp[kJ,bools,e2]
def Sn.ZX{N P c n:Nat}{l:Su.Ps}{q:Pl}(h:Sn N P C S n l)(f:Int×Int->A)(hf:∀p τ S,SG (f p) τ S=SG (Po.pA p) τ S)(hN:N<5)(h0:1<=N)(hq:jT S m=some (q.map f))(pq:PB Q c q)(lq:q.length<=2)(hP:P+Q<=15)(hC:C<big)(hc:c<big) :
  ∃(L:Nat) (S':jV),rD [.ref m,.ref n] S=.ok (.ref L) S'/\Sn N (P+Q) (q.length * (c * C)) S' L (He.GG q l)/\lG S S':=by
 obtain⟨z,es,s,rfl⟩:=h;obtain⟨L,S',d,e1,j,k,_,g⟩:=UP f hf hN h0 s z hq pq lq hP hC hc;exact⟨L,S',e1,⟨z.GG pq,d,j,k⟩,g⟩
end K67
namespace Kl
open Su Po He
open Fw (rg)
def Yd{n k:Nat}{o:ag}(p:o.Perm<|rg n)(h0:1<=k)(h1:k<n):tZ (Wd.ex o k) k=!tZ o k:=by
 have lo:o.length=n:=by rw[p.length_eq,Wd.mG]
 have ne:=Fw.T_ p h0 ();unfold Su.tZ;rw[Fw.WO h0 (),Fw.Wa h0 (),<- decide_not];exact gB.mpr ⟨λz=>(),λz=>()⟩
theorem IB:∀(l:ag),2 * Iv.inv l<=l.length * (l.length-1)
 | []=>aN _
 | x::l=>by
  have h1:l.countP (λy=>decide<|y<x)<=l.length:=List.countP_le_length;have h2:=IB l;show 2 * (l.countP (λy=>decide<|y<x)+Iv.inv l)<=(l.length+1) * l.length
  cases d:l.length with
  | zero=>rw[d]at h1 h2;lia
  | succ m=>
   rw[d]at h1 h2;have:(m+1) * (m+1-1)+2 * (m+1)=(m+1+1) * (m+1):=by
    rw[Nat.add_sub_cancel,add_mul (m+1) 1<|m+1,fK,Nat.mul_add (m+1) m 1];lia
   lia
abbrev step (k:Nat)(low:ag->Ps)(told:Ps)(e:ag×Pl):Ps:=if val e.2 1≠0/\tZ e.1 k=true then Bf told (GG [(0,-val e.2 1)]<|low e.1)else told
abbrev first (k:Nat)(less:Ps):Ps:=Bf (Su.bx k less)<|GG [(1,1)] less
abbrev kp:Nat->ag->Ps
 | 0,_=>[]
 | f+1,w=>match ff w with
  | none=>[(w,[(0,1)])]
  | some k=>(kp f<|Wd.ex w k).foldl (step k<|kp f)<|first k (kp f<|Wd.ex w k)
abbrev Lo (n:Nat)(w o:ag):Prop:=o.Perm (rg n)/\(o=w\/Iv.inv o<Iv.inv w)
def Lo.le{n:Nat}{w:ag}(h:Lo n w o):Iv.inv o<=Iv.inv w:=by
 rcases h.2 with z|z
 ·rw[z];exact aN _
 ·exact dX z
def Cf{P:ag->Prop}{l m:Ps}(h:∀e∈l,P e.1)(h':∀e∈m,P e.1):∀e∈Bf l m,P e.1:=
 tW (rj (P:=P) _ (nofun) λx d=>(bH.mp d).elim (h x)<|h' x)
def Fp{P:ag->Prop}{p:Pl}{l:Ps}(h:∀e∈l,P e.1):∀e∈GG p l,P e.1:=
 tW (rj (P:=P) _ (nofun) λx d=>by
  obtain⟨e,f,rfl⟩:=bq.mp d;exact h e f)
def SM{P:ag->Prop}{k:Nat}{l:Ps}(h:∀e∈l,P e.1/\P (Wd.ex e.1 k)):∀e∈Su.bx k l,P e.1:=
 tW (rj (P:=P) _ (nofun) λx d=>by
  obtain⟨e,f,d⟩:=gA.mp d
  rcases bG.mp d with z|z
  ·rw[z];exact(h e f).2
  ·split at z
   ·rw[aS.mp z];exact(h e f).1
   ·exact nomatch z)
theorem BU{P:ag->Prop}{k:Nat}{low:ag->Ps}:∀{less told:Ps},(∀e∈told,P e.1)->(∀e∈less,∀g∈low e.1,P g.1)->∀e∈less.foldl (step k low) told,P e.1
 | [],_,h,_=>h
 | x::xs,told,h,h'=>BU (less:=xs) (by
   unfold step;split
   ·exact Cf h (Fp λg hg=>h' x (aL ..) g hg)
   ·exact h) λe d=>h' e<|aO _ d
structure Dn (n:Nat)(w:ag)(k:Nat):Prop where
 h0:1<=k
 h1:k<n
 fw:tZ w k=true
 pe:(Wd.ex w k).Perm (rg n)
 iv:Iv.inv w=Iv.inv (Wd.ex w k)+1
 ee:Wd.ex (Wd.ex w k) k=w
 fe:tZ (Wd.ex w k) k=false
def ER{n:Nat}{w:ag}{k:Nat}(pw:w.Perm<|rg n)(h:ff w=some k):Dn n w k:=by
 obtain⟨a,b,c⟩:=Th h;have d:w.length=n:=by rw[pw.length_eq,Wd.mG]
 refine⟨a,(),c,EW pw a (),Fw.SA a b (by have:=bV c;lia),Fw.NU a b,?_⟩;rw[Yd pw a (),c];rfl
def P7{n k:Nat}{w:ag}(d:Dn n w k)(h:Lo n (Wd.ex w k) o):Lo n w o:=⟨h.1,.inr (by have:=h.le;have:=d.iv;lia)⟩
def abG{n k:Nat}{w:ag}(d:Dn n w k)(h:Lo n (Wd.ex w k) o):Lo n w (Wd.ex o k):=by
 refine⟨EW h.1 d.h0 d.h1,?_⟩;have lo:o.length=n:=by rw[h.1.length_eq,Wd.mG]
 rcases h.2 with z|z
 ·exact .inl (by rw[z];exact d.ee)
 ·have:=Fw.TQ (l:=o) d.h0 (by have:=d.h1;lia);have:=d.iv;exact .inr ()
def aa5{n:Nat}{w:ag}(h:Lo n w o)(h':Lo n o u):Lo n w u:=⟨h'.1,by
 rcases h'.2 with z|z
 ·rw[z];exact h.2
 ·exact .inr (by have:=h.le;lia)⟩
theorem yi{n:Nat}:∀(f:Nat) {w:ag},w.Perm (rg n)->∀e∈kp f w,Lo n w e.1
 | 0,_,_,e,j=>nomatch j
 | f+1,w,pw,e,j=>by
  revert e;unfold kp;split
  ·intro e j;rw[aS.mp j];exact⟨pw,.inl rfl⟩
  ·rename_i k q;have d:=ER pw q;have p:=yi f d.pe;exact BU (Cf (SM λe j=>⟨P7 d<|p e j,abG d<|p e j⟩)<|Fp λe j=>P7 d<|p e j) λe j g hg=>aa5 (P7 d<|p e j)<|yi f (p e j).1 g hg
theorem fold_congr{k:Nat}{low low':ag->Ps}:∀{less told:Ps},(∀e∈less,low e.1=low' e.1)->less.foldl (step k low) told=less.foldl (step k low') told
 | [],_,_=>rfl
 | x::xs,told,h=>by
  rw[fm,fm,show step k low told x=step k low' told x from by unfold step;rw[h x<|aL ..]];exact fold_congr λe d=>h e<|aO _ d
theorem P5{n:Nat}:∀(f g:Nat) {w:ag},w.Perm (rg n)->Iv.inv w<f->Iv.inv w<g->kp f w=kp g w
 | 0,_,_,_,h,_=>absurd h (eB _)
 | f+1,0,_,_,_,h=>absurd h (eB _)
 | f+1,g+1,w,pw,h,h'=>by
  unfold kp;split
  ·rfl
  ·rename_i k j;have d:=ER pw j;have iv:=d.iv;rw[P5 f g d.pe () ()];exact fold_congr λe p=>by
    have l:=yi g d.pe e p;have:=l.le;exact P5 f g l.1 () ()
abbrev K (w:ag):Ps:=kp (Iv.inv w+1) w
def NC{w:ag}(h:ff w=none):K w=[(w,[(0,1)])]:=by
 unfold K kp;rw[h]
def NF{n k:Nat}{w:ag}(pw:w.Perm<|rg n)(h:ff w=some k):K w=(K<|Wd.ex w k).foldl (step k K) (first k (K<|Wd.ex w k)):=by
 have d:=ER pw h;have iv:=d.iv;show kp (Iv.inv w+1) w=_;unfold kp;rw[h];show(kp (Iv.inv w)<|Wd.ex w k).foldl (step k<|kp<|Iv.inv w) _=_;rw[show kp (Iv.inv w) (Wd.ex w k)=K (Wd.ex w k)from by unfold K;rw[iv]];exact fold_congr λe f=>by
  have l:=yi _ d.pe e f;have:=l.le;exact P5 _ _ l.1 () ()
def PL{n:Nat}{w:ag}(pw:w.Perm<|rg n):∀e∈K w,Lo n w e.1:=yi _ pw
abbrev Cb:Nat->Nat
 | 0=>1
 | 1=>124
 | i+2=>4 * Cb (i+1)+120 * (Cb (i+1) * Cb i)
def Km:∀i,4 * Cb i+120 * (Cb i * Cb (i-1))<=Cb (i+1)
 | 0=>by decide
 | i+1=>aN _
theorem zG:∀{j:Nat},i<=j->Cb i<=Cb j
 | 0,h=>by rw[Nat.le_zero.mp h];exact aN _
 | j+1,h=>by
  rcases lt_or_ge j i with z|z
  ·rw[show i=j+1 by lia];exact aN _
  ·have:=zG z;have:=Km j
   lia
def Wg{P:Nat}{p:Pl}(h:PB P C p)(t:Int):(val p t).natAbs<=C:=by
 unfold val
 cases hf:p.find? λq=>decide (q.1=t)with
 | none=>exact bF _
 | some q=>exact h.c q<|cF hf
def VL{n P A B L k:Nat}{low:ag->Ps}{e:ag×Pl}(h:Sz n P A told)(hl:tZ e.1 k=true->Sz n P L (low e.1))(hb:(val e.2 1).natAbs<=B):Sz n P (A+B * L) (step k low told e):=by
 unfold step;split
 ·rename_i z;have:=(hl z.2).GG (p:=[(0,-val e.2 1)]) (Q:=0) (c:=B) ⟨λq hq=>by rw[aS.mp hq];show(-val e.2 1).natAbs<=B;rw[Int.natAbs_neg];exact hb,λq hq=>by rw[aS.mp hq];exact aN _⟩;exact(h.sum this).mono (aN _) (by show A+1 * (B * L)<=_;lia)
 ·exact h.mono (aN _)<|jD _ _
theorem JL{n P B L k:Nat}{low:ag->Ps}:∀{less told:Ps}{A:Nat},Sz n P A told->(∀e∈less,tZ e.1 k=true->Sz n P L (low e.1))->(∀e∈less,(val e.2 1).natAbs<=B)->Sz n P (A+less.length * (B * L)) (less.foldl (step k low) told)
 | [],_,_,h,_,_=>h.mono (aN _) (jD _ _)
 | x::xs,told,A,h,hl,hb=>by
  have:=JL (less:=xs) (VL (e:=x) h (hl x<|aL ..)<|hb x<|aL ..) (λe d=>hl e<|aO _ d) λe d=>hb e<|aO _ d;exact this.mono (aN _)<|by rw[bB,jb];lia
def OT{n P k:Nat}{l:Ps}(h:Sz n P C l)(h0:1<=k)(h1:k<n):Sz n (P+1) (4 * C) (first k l):=by
 have:=h.GG (p:=[(1,1)]) (Q:=1) (c:=1) ⟨λq hq=>by rw[aS.mp hq];exact aN _,λq hq=>by rw[aS.mp hq];exact aN _⟩;exact((h.bx h0 h1).sum this).mono (aN _) (by show 3 * C+1 * (1 * C)<=_;lia)
def Xi{n:Nat}{w:ag}(pw:w.Perm<|rg n):Sz n 0 1 [(w,[(0,1)])]:=by
 refine Sz.of (Yx w Xh λz=>nomatch z) (λx d=>by rw[aS.mp d];exact pw) λe f=>by
  rw[aS.mp f];exact⟨λq hq=>by rw[aS.mp hq];exact aN _,λq hq=>by rw[aS.mp hq];exact aN _⟩
def acH{n:Nat}(hn:n<6)(i:Nat):∀{w:ag},w.Perm (rg n)->Iv.inv w=i->Sz n i (Cb i) (K w):=by
 induction i using Nat.strongRecOn with
 | ind i p=>
  intro w f C
  cases hf:ff w with
  | none=>rw[NC hf];exact(Xi f).mono (bF _) (zG (i:=0)<|bF _)
  | some k=>
   have d:=ER f hf;have iv:=d.iv;obtain⟨j,rfl⟩:∃j,i=j+1:=⟨Iv.inv<|Wd.ex w k,()⟩;have t:Iv.inv (Wd.ex w k)=j:=()
   have z:=p j () d.pe t;have m:=z.many hn;rw[NF f hf];refine(JL (OT z d.h0 d.h1) (L:=Cb<|j-1) (B:=Cb j) (λe g fe=>?_) λe g=>Wg (z.pb g).1 1).mono (aN _) (bK ?_<|Km j)
   ·have l:=PL d.pe e g;have:Iv.inv e.1<j:=by
     rcases l.2 with q|q
     ·rw[q,d.fe]at fe;exact nomatch fe
     ·lia
    exact(p (Iv.inv e.1) () l.1 rfl).mono () (zG ())
   ·exact Nat.add_le_add_left (iY _ m) _
def Zx{n:Nat}(hn:n<6){w:ag}(pw:w.Perm<|rg n):Sz n 10 (Cb 10) (K w):=by
 have:=IB w;have d:w.length=n:=by rw[pw.length_eq,Wd.mG]
 have:Iv.inv w<=10:=by
  rw[d]at this;have:n * (n-1)<=5 * 4:=jP () ()
  lia
 exact(acH hn _ pw rfl).mono this (zG this)
end Kl
namespace K67
open PySem L2 Am
def Sn.bx{N P n k:Nat}{l:Su.Ps}(h:Sn N P C S n l)(hN:N<5)(k1:1<=k)(k2:k<N)(hP:P<=14)(hC:C<big) :
  ∃(L:Nat) (S':jV),nk [.ref n,.int k] S=.ok (.ref L) S'/\Sn N (P+1) (3 * C) S' L (Su.bx k l)/\lG S S':=by
 obtain⟨z,es,s,rfl⟩:=h;have q:=z.m24 hN;rw[Su.Bp]at q;obtain⟨L,F,d,j,D,t,_,_,_,_,B⟩:=UD (P:=P) s (k:=k) (N:=N) (λe f=>by
  have b:=z.pb<|nQ rfl f;exact⟨p6<|z.pm _<|nQ rfl f,⟨b.2,z.rb<|nQ rfl f⟩,λp g=>e_ (b.1.c p g) hC⟩) k1 k2 () hP ()
 exact⟨L,F,j,⟨z.bx k1 k2,d,D,t⟩,B⟩
open Po (Pl Ok)
open Su (Es)
open He (Sz PB)
open Fw (rg)
def Rg{n:Nat}{p:Pl}(h:jT S n=some (Po.pl p))(hp:Ok p):lZ [.ref n] S=.ok (.int<|Po.val p 1) (S++[.qv<|Po.iv p]):=by
 unfold lZ qG qB;dsimp[kJ,mH,bools,m8,Nat.reduceAdd,Nat.reduceSub,C5,CF,h,Po.Pd,Po.JY,Po.JC hp,Hj,Hr,fS,AR,Po.Ie]
def DR:Kl.Cb 10<big:=by rw[zQ];decide +kernel
def Sn.Ma{N P n d:Nat}{l:Su.Ps}(h:Sn N P C S n l)(k:Kp (·=d) S S')(hd:ki S d=some kvs):Sn N P C S' n l:=by
 obtain⟨a,es,b,c⟩:=h;exact⟨a,es,b.Ma k hd,c⟩
def VR{N n:Nat}{o:ag}(hN:N<6)(po:o.Perm<|rg N)(h:Sm S n es)(e:Su.sm es=Kl.K o):Sn N 10 (Kl.Cb 10) S n (Kl.K o):=⟨Kl.Zx hN po,es,h,e⟩
def zh(x y:A):gd (([x,y]:ae).length<=sizeLine)=λr:Am.R A=>r:=by funext r;exact pG<|show 2<=16777216 by decide
def Jz(x:A)(S:jV):newL [x] S=.ok (.ref S.length) (S++[.lst [x]]):=pG<|show 1<=16777216 by decide
abbrev Fnd (N d f:Nat)(Fs:ae->jV->R A):Prop:=∀(T:jV) (K:Es) (o:ag),Iv.inv o<f->o.Perm (rg N)->Kn N Kl.K T d K ->
  ∃(r:Nat) (g:jV) (k j:Es),Fs [.tup<|o.map .int,.ref d] T=.ok (.ref r) g/\Kn N Kl.K g d k/\Sm g r j/\Su.sm j=Kl.K o/\Kp (·=d) T g
def Up{Fs:ae->jV->R A}{N d f n L k:Nat}{K:Es}{e:Su.En}{x:A}(h5:N<5)(ih:Fnd N d f Fs)(hk:Kn N Kl.K T d K)(ht:Sn N 11 A' T L told)(pe:e.1.Perm<|rg N)(he:Iv.inv e.1<f)(le:jT T e.2.1=some (Po.pl e.2.2))(oe:Ok e.2.2)(be:(Po.val e.2.2 1).natAbs<big)(k1:1<=k)(k2:k<N) :
  ∃(v:A) (L' A'':Nat) (T':jV) (K':Es),nK Fs [x,.int k,.ref d,.ref n,.ref L,.tup<|e.1.map .int,.ref e.2.1,y] T=.nx [x,.int k,.ref d,.ref n,.ref L',.tup<|e.1.map .int,.ref e.2.1,v] T'/\Kn N Kl.K T' d K'/\Sn N 11 A'' T' L' (Kl.step k Kl.K told (e.1,e.2.2))/\Kp (·=d) T T':=by
 have hN:N<6:=()
 have h1:=Rg le oe;have lo:=p6 pe;obtain⟨T1,B⟩:∃T1,T1=T++[O.qv<|Po.iv e.2.2]:=⟨_,rfl⟩;have F:lG T T1:=by rw[B];kcj_m
 rw[<- B]at h1;unfold nK;by_cases h0:Po.val e.2.2 1=0
 ·have D:(Po.val e.2.2 1 == 0)=true:=beq_iff_eq.mpr h0;refine⟨.int<|Po.val e.2.2 1,L,A',T1,K,?_,hk.wu F,?_,F.of0⟩
  ·dsimp[kJ,mH,bools,h1,D,bY]
  ·unfold Kl.step;rw[aV λz=>z.1 h0];exact ht.kp F
 ·have D:(Po.val e.2.2 1 == 0)=false:=c5.mpr h0;have J:=vF (S:=T1) (xs:=e.1) (n:=N) lo ();have g:LN false (.int k) (.ref T1.length) (T1++[.lst<|(fl e.1 N).map .int])=.ok (.bl<|Su.tZ e.1 k) (T1++[.lst<|(fl e.1 N).map .int]):=by
   show opt (jT _ _) _=_;rw[kc,j_,xH,JE lo k1 k2];rfl
  obtain⟨T2,C⟩:∃T2,T2=T1++[O.lst<|(fl e.1 N).map .int]:=⟨_,rfl⟩;have q2:lG T1 T2:=by rw[C];kcj_m
  rw[<- C]at g J;have j:=F.trans q2
  cases hf:Su.tZ e.1 k with
  | false=>
   rw[hf]at g;refine⟨.int<|Po.val e.2.2 1,L,A',T2,K,?_,hk.wu j,?_,j.of0⟩
   ·dsimp[kJ,mH,bools,h1,D,dg,J,g]
   ·unfold Kl.step;rw[aV λz=>by rw[hf]at z;exact nomatch z.2];exact ht.kp j
  | true=>
   rw[hf]at g;obtain⟨T3,t⟩:∃T3,T3=T2++[O.lst [.tup [.int 0,.int<|-Po.val e.2.2 1]]]:=⟨_,rfl⟩;have q3:lG T2 T3:=by rw[t];kcj_m
   have U:jT T3 T2.length=some (([(0,-Po.val e.2.2 1)]:Pl).map Po.pA):=by rw[t];exact kc
   have p:=j.trans q3;obtain⟨r,T4,K4,rs,Z,n4,s4,e4,P⟩:=ih T3 K e.1 he pe<|hk.wu p;have V:=(hk.wu p).dd;have l4:=P.lst _ _ (λz=>Su.oA V U z.symm) U;obtain⟨L5,T5,x5,s5,G⟩:=(VR hN pe s4 e4).ZX Po.pA (λ_ _ _=>rfl) h5 () l4 (Q:=0) (c:=(Po.val e.2.2 1).natAbs) ⟨λq hq=>by rw[aS.mp hq];show(-_:Int).natAbs<=_;rw[Int.natAbs_neg];exact aN _,λq hq=>by rw[aS.mp hq];exact aN _⟩ (show 1<=2 by decide) ⋯ DR be;obtain⟨L6,T6,x6,W,Y⟩:=(((ht.kp p).Ma P V).kp G).add (s5.mono ⋯ (aN _)) h5 () ⋯;have st:Kl.step k Kl.K told (e.1,e.2.2)=He.Bf told (He.GG [(0,-Po.val e.2.2 1)]<|Kl.K e.1):=by unfold Kl.step;rw[aW ⟨h0,hf⟩]
   rw[<- st]at W;refine⟨.int<|Po.val e.2.2 1,L6,_,T6,K4,?_,(n4.wu G).wu Y,W,((p.of0.trans P).trans G.of0).trans Y.of0⟩;have M:N4 (.int<|Po.val e.2.2 1) T2=.ok (.int<|-Po.val e.2.2 1) T2:=rfl;dsimp[kJ,mH,bools,h1,D,dg,J,g,M,zh,Jz,<- t,Z,x5,x6]
end K67
namespace K67
open PySem L2 Am
open Po (Pl Ok)
open Su (Es)
open He (Sz PB)
open Fw (rg)
def Qv:gd (2<=sizeLine)=λr:Am.R A=>r:=by funext r;exact pG<|show 2<=16777216 by decide
def Ui{Fs:ae->jV->R A}{N d f n k:Nat}{x:A}{wl:ag}(h5:N<5)(ih:Fnd N d f Fs)(hk:Kn N Kl.K S d K0)(ht:Sn N 11 A0 S L0 told)(pw:wl.Perm<|rg N)(iw:Iv.inv wl<f)(hs:Sm S n es)(hse:Su.sm es=Kl.K wl)(k1:1<=k)(k2:k<N) :
  ∃(y5 y6 y7:A) (L' A'':Nat) (S':jV) (K':Es),mX (p8 Fs) (Bv 2<|tB (kG 5)<|tB (kG 6) Bw) (nK Fs) [x,.int k,.ref d,.ref n,.ref L0,.unb,.unb,.unb] S=.nx [x,.int k,.ref d,.ref n,.ref L',y5,y6,y7] S'/\Kn N Kl.K S' d K'/\Sn N 11 A'' S' L' ((Kl.K wl).foldl (Kl.step k Kl.K) told)/\Kp (·=d) S S':=by
 have j:(es.map Su.ent).length=es.length:=aH ..;have J:N<6:=()
 have t:=Kl.Zx J pw;refine o9 (n:=n) (xs:=es.map Su.ent) (S1:=S) (show p8 Fs _ _=_ from mF (by dsimp[kJ,bools]) hs.l)
  (λi τ T=>∃(y5 y6 y7:A) (L' A'':Nat) (K':Es),τ=[x,.int k,.ref d,.ref n,.ref L',y5,y6,y7]/\Kn N Kl.K T d K'/\Sn N 11 A'' T L' ((Su.sm<|es.take i).foldl (Kl.step k Kl.K) told)/\Kp (·=d) S T)
  (λr=>∃(y5 y6 y7:A) (L' A'':Nat) (S':jV) (K':Es),r=.nx [x,.int k,.ref d,.ref n,.ref L',y5,y6,y7] S'/\Kn N Kl.K S' d K'/\Sn N 11 A'' S' L' ((Kl.K wl).foldl (Kl.step k Kl.K) told)/\Kp (·=d) S S')
  ⟨_,_,_,L0,A0,K0,rfl,hk,ht,Kp.refl⟩ (λi τ T h=>?_) ?_ ?_
 ·obtain⟨_,_,_,_,_,_,_,_,_,kp⟩:=h;exact kp.lst _ _ (λz=>Su.oA hk.dd hs.l z.symm) hs.l
 ·rintro i z τ T C ⟨y5,y6,y7,L',A'',K',rfl,q,g,kp⟩;rw[aR]at C;obtain⟨e,D,rfl⟩:=aP.mp C;have B:=aZ D;have p:(e.1,e.2.2)∈Kl.K wl:=nQ hse B;have lo:=Kl.PL pw _ p;have pb:=t.pb p;obtain⟨v,L,F,T1,O,e1,M,G,P⟩:=Up (Fs:=Fs) (n:=n) (x:=x) (y:=y7) h5 ih q g (e:=e) lo.1 (e_ lo.le iw) ((hs.Ma kp hk.dd).a e B) (t.cn.gd.ok _ p) (e_ (Kl.Wg pb.1 1) DR) k1 k2;refine⟨[x,.int k,.ref d,.ref n,.ref L',.tup<|e.1.map .int,.ref e.2.1,y7],T,rfl,.inl ⟨_,T1,e1,_,_,_,L,F,O,rfl,M,?_,kp.trans P⟩⟩;rw[b7,D,Su.Ht,eg];exact G
 ·rintro τ T ⟨y5,y6,y7,L',A'',K',rfl,q,g,kp⟩;rw[j,cg,hse]at g;exact⟨y5,y6,y7,L',A'',T,K',rfl,q,g,kp⟩
def VD{Fs:ae->jV->R A}{N d f k:Nat}{w:ag}(h5:N<5)(ih:Fnd N d f Fs)(hk:Kn N Kl.K S d K0)(pw:w.Perm<|rg N)(hf:He.ff w=some k)(iw:Iv.inv w<f+1) :
  ∃(r:Nat) (S':jV) (K' rs:Es),lY lK (lN Fs) [.tup<|w.map .int,.int k,.ref d] S=.ok (.ref r) S'/\Kn N Kl.K S' d K'/\Sm S' r rs/\Su.sm rs=Kl.K w/\Kp (·=d) S S':=by
 have hN:N<6:=()
 have g:=Kl.ER pw hf;have iv:=g.iv;obtain⟨S1,x1,L⟩:=Jq (S:=S) (xs:=w) (k:=k) g.h0 (by rw[p6 pw];exact g.h1) (by rw[p6 pw];lia);obtain⟨r2,S2,K2,rs2,U,n2,G,e2,k2⟩:=ih S1 K0 (Wd.ex w k) () g.pe<|hk.wu L;have F:=VR hN g.pe G e2;obtain⟨L3,S3,x3,T,M⟩:=F.bx h5 g.h0 g.h1 ⋯ DR;obtain⟨B,j⟩:∃B,B=S3++[O.lst [.tup [.int 1,.int 1]]]:=⟨_,rfl⟩;have P:lG S3 B:=by rw[j];kcj_m
 have l4:jT B S3.length=some (([(1,1)]:Pl).map Po.pA):=by rw[j];exact kc
 have D:=M.trans P;obtain⟨L5,S5,x5,s5,Y⟩:=(F.kp D).ZX Po.pA (λ_ _ _=>rfl) h5 (by have:=g.h1;lia) l4 (Q:=1) (c:=1) ⟨λq hq=>by rw[aS.mp hq];exact aN _,λq hq=>by rw[aS.mp hq];exact aN _⟩ ⋯ ⋯ DR (by rw[zQ];decide +kernel);have t:=P.trans Y;obtain⟨L6,S6,x6,s6,k6⟩:=(T.kp t).add s5 h5 (by have:=g.h1;lia) ⋯;have p:=(M.trans t).trans k6;obtain⟨y5,y6,y7,V,A7,W,K7,x7,n7,J,k7⟩:=Ui (x:=.tup<|w.map .int) h5 ih (n2.wu p) s6 g.pe () (G.kp p) e2 g.h0 g.h1;have eq:(Kl.K<|Wd.ex w k).foldl (Kl.step k Kl.K) (He.Bf (Su.bx k<|Kl.K<|Wd.ex w k)<|He.GG [(1,1)]<|Kl.K<|Wd.ex w k)=Kl.K w:=(Kl.NF pw hf).symm;rw[eq]at J;obtain⟨_,C,m7,Z⟩:=J;refine⟨V,W,K7,C,?_,n7,m7,Z,((L.of0.trans k2).trans p.of0).trans k7⟩;unfold lN lK;dsimp[kJ,mH,bools,m8,Nat.reduceAdd,Nat.reduceSub,x1,U,x3,Qv,zh,Jz,<- j,x5,x6,↓x7]
theorem Im{N d:Nat}(h5:N<5):∀(f:Nat),Fnd N d f (nu f)
 | 0=>λ_ _ _ h _ _=>absurd h (eB _)
 | f+1=>λS K o hf T hK=>by
  have hN:N<6:=()
  have lo:=p6 T;show ∃(r:Nat) (S':jV) (L rs:Es),lY o6 (o_<|nu f) [.tup<|o.map .int,.ref d] S=.ok (.ref r) S'/\_;have D:Mf true (.tup<|o.map .int) (.ref d) S=.ok (.bl<|!(lC (K.map Su.kv) o).isSome) S:=by rw[Px,hK.dd,j_]
  unfold o_ o6
  cases hL:Su.fE K o with
  | some e=>
   obtain⟨m1,rfl⟩:=Su.ud hL;obtain⟨rs,r1,r2⟩:=hK.at_ e m1;have F:lC (K.map Su.kv) e.1=some (.ref e.2.1):=by rw[Su.vZ,hL];rfl
   have C:uJ (.ref d) (.tup<|e.1.map .int) S=.ok (.ref e.2.1) S:=by rw[Su.zF,hK.dd,j_,F,j_]
   rw[F]at D;refine⟨e.2.1,S,K,rs,?_,hK,r1,r2,Kp.refl⟩;dsimp[kJ,mH,bools,m8,Nat.reduceAdd,Nat.reduceSub,D,jh,bY,C]
  | none=>
   have F:lC (K.map Su.kv) o=none:=by rw[Su.vZ,hL];rfl
   rw[F]at D;have V:=vF (S:=S) (xs:=o) (n:=N) lo ();have M:(fl o N).head?=(He.ff o).map λk:Nat=>(k:Int):=by
    have:=He.Vw (o:=o);rw[lo]at this;exact this
   obtain⟨S1,p⟩:∃S1,S1=S++[O.lst<|(fl o N).map .int]:=⟨_,rfl⟩;have Y:lG S S1:=by rw[p];kcj_m
   have G:jT S1 S.length=some ((fl o N).map .int):=by rw[p];exact kc
   rw[<- p]at V;have J:=BY G
   cases g:He.ff o with
   | none=>
    have fe:fl o N=[]:=by
     rw[g]at M;exact List.head?_eq_none_iff.mp M
    obtain⟨S2,q⟩:∃S2,S2=S1++[O.lst [.tup [.int 0,.int 1]]]:=⟨_,rfl⟩;have k2:lG S1 S2:=by rw[q];kcj_m
    have l2:jT S2 S1.length=some (Po.pl [(0,1)]):=by rw[q];exact kc
    obtain⟨S3,j⟩:∃S3,S3=S2++[O.lst [.tup [.tup<|o.map .int,.ref S1.length]]]:=⟨_,rfl⟩;have P:lG S2 S3:=by rw[j];kcj_m
    have l3:jT S3 S2.length=some (([(o,S1.length,[(0,1)])]:Es).map Su.ent):=by rw[j];exact kc
    have sm:Sm S3 S2.length [(o,S1.length,[(0,1)])]:=⟨l3,λe he=>by rw[aS.mp he];exact P.lst _ _ (λz=>z) l2⟩;have kq:Su.sm [(o,S1.length,[((0:Int),(1:Int))])]=Kl.K o:=by rw[Kl.NC g];rfl
    have B:=(Y.trans k2).trans P;obtain⟨U,L,e1,n1,C,Z,kp⟩:=(hK.wu B).put hN T sm kq;refine⟨S2.length,U,L,_,?_,n1,Z,kq,B.of0.trans kp⟩;rw[fe]at J;dsimp[kJ,mH,bools,m8,Nat.reduceAdd,Nat.reduceSub,D,isSome_none,dg,V,J,fN,jC,bY,Qv,zh,Jz,<- q,<- j,Su.zz,e1,C]
   | some k=>
    obtain⟨t,ft⟩:∃t,fl o N=(k:Int)::t:=by
     rw[g]at M;exact List.head?_eq_some_iff.mp M
    rw[ft]at J G;obtain⟨r3,S3,K3,W,x3,n3,s3,q3,P⟩:=VD h5 (Im h5 f) (hK.wu Y) T g hf;obtain⟨U,L,e1,n1,C,Z,kp⟩:=n3.put hN T s3 q3;refine⟨r3,U,L,W,?_,n1,Z,q3,(Y.of0.trans P).trans kp⟩;dsimp[kJ,mH,bools,m8,Nat.reduceAdd,Nat.reduceSub,D,isSome_none,dg,V,J,bC,ju,bY];rw[bC]at G;dsimp[kJ,mH,bools,G,xK,↓x3,Su.zz,e1,C]
end K67
namespace K67
open PySem L2 Am
def WU{n:Nat}{d:List<|ni×A}(h:qL S n=some d)(h':jT S m=some xs):n≠m:=λz=>by
 subst z;have e1:=qo h;rw[j8 h']at e1
 cases e1
def ZQ{n:Nat}{d:List<|ni×A}(h:qL S n=some d)(h':ki S m=some xs):n≠m:=λz=>by
 subst z;have e1:=qo h;rw[mC h']at e1
 cases e1
def Kp.u0{b:Nat->Prop}(h:Kp b S S')(n:Nat)(d:List<|ni×A)(hb:¬b n)(e:qL S n=some d):qL S' n=some d:=Bc<|h.obj n _ hb<|qo e
def Ju(x w:ag):F1 (.tup [.tup<|x.map .int,.tup<|w.map .int])=some (x,w):=by
 unfold F1;dsimp only;rw[ints_map,ints_map];rfl
def Zf{d:Nat}{x w:ag}:Bx false (.tup [.tup<|x.map .int,.tup<|w.map .int]) (.ref d) S=opt (qL S d) λkvs=>.ok (.bl (sy kvs (x,w)).isSome) S:=by
 show opt (qL S d) (λkvs=>opt (F1 _) _)=_;rw[Ju];rfl
def UJ{d:Nat}{S:jV}{x w:ag}{v:A}:EL (.ref d) (.tup [.tup<|x.map .int,.tup<|w.map .int]) v S=opt (qL S d) λkvs=>gd (kvs.length<sizeLine) (.ok Unit.unit<|S.set d<|.u0<|zp kvs (x,w) v):=by
 show opt (qL S d) (λkvs=>opt (F1 _) _)=_;rw[Ju];rfl
def UL{co ci:Ex}{a:A}:UY co ci a τ S=(co τ S).bind λo S1=>(ci τ S1).bind λi S2=>(EL o i a S2).bind λ_ S3=>.ok τ S3:=rfl
def My{S:jV}:HV τ S=.ok (.ref S.length) (S++[.u0 []]):=rfl
def OX{k:ni}{v:A}{kvs:List<|ni×A}:(zp kvs k v).length<=kvs.length+1:=by
 unfold zp;split
 ·rw[aH];lia
 ·rw[bh];exact aN _
def isQ{kvs:List<|ni×A}{k:ni}:(sy kvs k).isSome=decide (k∈kvs.map (·.1)):=by
 unfold sy;rw[dB]
 cases h:kvs.find? λkv=>decide (kv.1=k)with
 | none=>
  refine(bz λz=>?_).symm;obtain⟨p,d,e⟩:=bq.mp z;have:=fP.mp h p d;exact this<|bf e
 | some p=>
  refine(bf ?_).symm;have h1:=cF h;have h2:=fV h;have h2:=bV h2;exact bq.mpr ⟨p,h1,h2⟩
def MH{kvs:List<|ni×A}{k q:ni}{v:A}:q∈(zp kvs k v).map (·.1) ↔ q∈kvs.map (·.1)\/q=k:=by
 unfold zp;split
 ·rename_i h;rw[isQ]at h;have h:=bV h;have:(kvs.map λp=>if p.1=k then(p.1,v)else p).map (·.1)=kvs.map (·.1):=by
   rw[aY];refine bO λp _=>?_;show(if p.1=k then(p.1,v)else p).1=p.1;split<;>rfl
  rw[this];constructor
  ·exact .inl
  ·rintro(z|z)
   ·exact z
   ·rw[z];exact h
 ·rw[bE,bH,bC,fN,aS]
structure Ks (S:jV)(d m:Nat)(ps:List ni):Prop where
 ex:∃kvs,qL S d=some kvs/\kvs.length<=m/\∀q,q∈kvs.map (·.1) ↔ q∈ps
def Ks.put{d:Nat}{x w:ag}{v:A}(h:Ks S d m ps)(hm:m<16777216):∃S',EL (.ref d) (.tup [.tup<|x.map .int,.tup<|w.map .int]) v S=.ok Unit.unit S'/\Ks S' d (m+1) (ps++[(x,w)])/\Kp (·=d) S S':=by
 obtain⟨kvs,h1,h2,h3⟩:=h.ex;have f:d<S.length:=(aJ.mp<|qo h1).1;refine⟨S.set d<|.u0<|zp kvs (x,w) v,?_,⟨zp kvs (x,w) v,Bc<|by rw[bA f],bK OX (),λq=>?_⟩,Kp.refl.qi<|.inl rfl⟩
 ·rw[UJ,h1,j_];exact pN ()
 ·rw[MH,h3,bH,aS]
def Ks.inq{d:Nat}{ps:List ni}{x w:ag}(h:Ks S d m ps):Bx false (.tup [.tup<|x.map .int,.tup<|w.map .int]) (.ref d) S=.ok (.bl<|decide<|(x,w)∈ps) S:=by
 obtain⟨kvs,h1,h2,h3⟩:=h.ex;rw[Zf,h1,j_,isQ,gB.mpr<|h3 (x,w)]
def Ks.kp{d:Nat}{b:Nat->Prop}(h:Ks S d m ps)(k:Kp b S S')(hb:¬b d):Ks S' d m ps:=by
 obtain⟨kvs,h1,h2⟩:=h.ex;exact⟨kvs,Kp.u0 k _ _ hb h1,h2⟩
def Ks.mono{d:Nat}(h:Ks S d m ps)(hm:m<=m'):Ks S d m' ps:=by
 obtain⟨kvs,h1,h2,h3⟩:=h.ex;exact⟨kvs,h1,bK h2 hm,h3⟩
def Ks.ne{d n:Nat}(h:Ks S d m ps)(h':jT S n=some xs):d≠n:=by
 obtain⟨kvs,h1,_⟩:=h.ex;exact WU h1 h'
def Ks.nd{d n:Nat}(h:Ks S d m ps)(h':ki S n=some xs):d≠n:=by
 obtain⟨kvs,h1,_⟩:=h.ex;exact ZQ h1 h'
open Po (Pl Ok)
open Su (Es)
open He (Sz PB)
open Fw (rg)
abbrev Xa (u:ag)(e:ag×Pl):List ni:=if Po.val e.2 1=0 then[]else[(e.1,u),(u,e.1)]
abbrev ldK (u:ag):List ni:=(Kl.K u).flatMap<|Xa u
abbrev Ld (os:List<|ag):List ni:=os.flatMap ldK
def Kn.kpq{N d L:Nat}{Φ:ag->Su.Ps}{K:Es}(h:Kn N Φ T d K)(k:Kp (·=L) T T')(hL:Ks T L m ps):Kn N Φ T' d K:=⟨k.dct _ _ (λz=>hL.nd h.dd z.symm) h.dd,h.gd,h.pm,λe f=>by
 obtain⟨es,a,b⟩:=h.at_ e f;exact⟨es,⟨k.lst _ _ (λz=>hL.ne a.l z.symm) a.l,λe f=>k.lst _ _ (λz=>hL.ne (a.a e f) z.symm)<|a.a e f⟩,b⟩⟩
def Sm.kpq{n L:Nat}(a:Sm T n es)(k:Kp (·=L) T T')(hL:Ks T L m ps):Sm T' n es:=⟨k.lst _ _ (λz=>hL.ne a.l z.symm) a.l,λe d=>k.lst _ _ (λz=>hL.ne (a.a e d) z.symm)<|a.a e d⟩
def QD{N d L n c:Nat}{K:Es}{u:ag}{e:Su.En}(hk:Kn N Kl.K T d K)(hL:Ks T L m ps)(le:jT T e.2.1=some (Po.pl e.2.2))(oe:Ok e.2.2)(hm:m+2<16777216) :
  ∃(v:A) (T':jV),qH [.ref n,.ref d,.ref L,.tup<|u.map .int,.tup<|e.1.map .int,.ref e.2.1,y] T=.nx [.ref n,.ref d,.ref L,.tup<|u.map .int,.tup<|e.1.map .int,.ref e.2.1,v] T'/\Ks T' L (m+2) (ps++Xa u (e.1,e.2.2))/\Kp (·=L) T T':=by
 have h1:=Rg le oe;obtain⟨T1,f⟩:∃T1,T1=T++[O.qv<|Po.iv e.2.2]:=⟨_,rfl⟩;have g:lG T T1:=by rw[f];kcj_m
 rw[<- f]at h1;unfold qH;by_cases h0:Po.val e.2.2 1=0
 ·have j:(Po.val e.2.2 1 == 0)=true:=beq_iff_eq.mpr h0;refine⟨.int<|Po.val e.2.2 1,T1,?_,?_,g.of0⟩
  ·dsimp[kJ,mH,bools,h1,j,bY]
  ·unfold Xa;rw[aW h0,cu];exact(hL.kp g λz=>z).mono ()
 ·have j:(Po.val e.2.2 1 == 0)=false:=c5.mpr h0;obtain⟨T2,t,B,q⟩:=(hL.kp g λz=>z).put (x:=e.1) (w:=u) (v:=.int<|Po.val e.2.2 1) ();obtain⟨T3,p,k,C⟩:=B.put (x:=u) (w:=e.1) (v:=.int<|Po.val e.2.2 1) ();refine⟨.int<|Po.val e.2.2 1,T3,?_,?_,(g.of0.trans q).trans C⟩
  ·dsimp[kJ,mH,bools,h1,j,dg,UL,zh,t,p]
  ·unfold Xa;rw[aV h0];rw[cQ]at k;exact k
end K67
namespace K67
open PySem L2 Am
open Po (Pl Ok)
open Su (Es)
open He (Sz PB)
open Fw (rg)
def Nb{N d L n r:Nat}{K:Es}{u:ag}{rs:Es}(hN:N<6)(pu:u.Perm<|rg N)(hs:qK [.ref n,.ref d,.ref L,.tup<|u.map .int,y4,y5,y6] S=.ok (l_ r (rs.map Su.ent).length) S1)(hk:Kn N Kl.K S1 d K)(hL:Ks S1 L m ps)(hr:Sm S1 r rs)(he:Su.sm rs=Kl.K u)(hm:m+240<16777216) :
  ∃(z4 z5 z6:A) (S':jV),n5 [.ref n,.ref d,.ref L,.tup<|u.map .int,y4,y5,y6] S=.nx [.ref n,.ref d,.ref L,.tup<|u.map .int,z4,z5,z6] S'/\Ks S' L (m+240) (ps++ldK u)/\Kp (·=L) S1 S':=by
 have j:(rs.map Su.ent).length=rs.length:=aH ..;have p:=Kl.Zx hN pu;have k:rs.length<=120:=by have:=p.many hN;rwa [<- he,Su.Bp]at this
 unfold n5;refine o9 (n:=r) (xs:=rs.map Su.ent) (S1:=S1) hs
  (λi τ T=>∃(z4 z5 z6:A),τ=[.ref n,.ref d,.ref L,.tup<|u.map .int,z4,z5,z6]/\i<=rs.length/\Ks T L (m+2 * i) (ps++(Su.sm<|rs.take i).flatMap (Xa u))/\Kp (·=L) S1 T)
  (λR=>∃(z4 z5 z6:A) (S':jV),R=.nx [.ref n,.ref d,.ref L,.tup<|u.map .int,z4,z5,z6] S'/\Ks S' L (m+240) (ps++ldK u)/\Kp (·=L) S1 S')
  ⟨_,_,_,rfl,bF _,by rw[gr];show Ks S1 L m (ps++[]);rw[cu];exact hL,Kp.refl⟩ (λi τ T h=>?_) ?_ ?_
 ·obtain⟨_,_,_,_,_,_,kp⟩:=h;exact kp.lst _ _ (λz=>hL.ne hr.l z.symm) hr.l
 ·rintro i z τ T t ⟨z4,z5,z6,rfl,_,g,kp⟩;rw[aR]at t;obtain⟨e,f,rfl⟩:=aP.mp t;have q:=aZ f;have C:(e.1,e.2.2)∈Kl.K u:=nQ he q;have B:=(aJ.mp f).1;obtain⟨v,T1,e1,D,F⟩:=QD (n:=n) (u:=u) (e:=e) (y:=z6) (c:=0) (hk.kpq kp hL) g ((hr.kpq kp hL).a e q) (p.cn.gd.ok _ C) ();refine⟨[.ref n,.ref d,.ref L,.tup<|u.map .int,.tup<|e.1.map .int,.ref e.2.1,z6],T,rfl,.inl ⟨_,T1,e1,_,_,_,rfl,B,?_,kp.trans F⟩⟩;rw[b7,f,Su.Ht,gE,<- cQ];have:((Su.sm (some e).toList).flatMap<|Xa u)=Xa u (e.1,e.2.2):=cu _;rw[this];exact D
 ·rintro τ T ⟨z4,z5,z6,rfl,_,g,kp⟩;rw[j,cg,he]at g;exact⟨z4,z5,z6,T,rfl,g.mono (),kp⟩
def PN{N n:Nat}{os:List<|ag}(h5:N<5)(hi:∀o∈os,o.Perm (rg N)/\Iv.inv o<8)(hn:jT S n=some (os.map λo=>.tup<|o.map .int))(hl:os.length<=120) :
  ∃(L:Nat) (S':jV),nS [.ref n] S=.ok (.ref L) S'/\Ks S' L 30000 (Ld os)/\lG S S':=by
 have hN:N<6:=()
 obtain⟨S1,f⟩:∃S1,S1=S++[O.dct []]:=⟨_,rfl⟩;have P:lG S S1:=by rw[f];kcj_m
 obtain⟨S2,j⟩:∃S2,S2=S1++[O.u0 []]:=⟨_,rfl⟩;have G:lG S1 S2:=by rw[j];kcj_m
 have d1:ki S1 S.length=some []:=by rw[f];exact Su.pD
 have d2:=G.dct _ _ (λz=>z) d1;have p2:qL S2 S1.length=some []:=Bc (by rw[j];exact Be);have l1:S1.length=S.length+1:=by rw[f,bh];rfl
 have h0:Kn N Kl.K S2 S.length []:=⟨d2,Su.Gd.nil,(nofun),(nofun)⟩;have C:Ks S2 S1.length 0 []:=⟨[],p2,aN _,λq=>Iff.rfl⟩;have t:=(P.trans G).lst _ _ (λz=>z) hn;have k:∃(g y4 y5 y6:A) (S':jV),mX qy (kG 3) n5 [.ref n,.ref S.length,.ref S1.length,.unb,.unb,.unb,.unb] S2=.nx [.ref n,.ref S.length,.ref S1.length,g,y4,y5,y6] S'/\Ks S' S1.length 30000 (Ld os)/\Kp (λx=>x=S.length\/x=S1.length) S2 S':=by
  refine o9 (n:=n) (xs:=os.map λo=>.tup<|o.map .int) (S1:=S2) (show qy _ _=_ from mF (by dsimp[kJ,bools]) t)
   (λi τ T=>∃(g y4 y5 y6:A) (K:Es),τ=[.ref n,.ref S.length,.ref S1.length,g,y4,y5,y6]/\i<=os.length/\Kn N Kl.K T S.length K/\Ks T S1.length (240 * i) (Ld<|os.take i)/\Kp (λx=>x=S.length\/x=S1.length) S2 T)
   (λR=>∃(g y4 y5 y6:A) (S':jV),R=.nx [.ref n,.ref S.length,.ref S1.length,g,y4,y5,y6] S'/\Ks S' S1.length 30000 (Ld os)/\Kp (λx=>x=S.length\/x=S1.length) S2 S')
   ⟨_,_,_,_,[],rfl,bF _,h0,by rw[gr];exact C,Kp.refl⟩ (λi τ T h=>?_) ?_ ?_
  ·obtain⟨_,_,_,_,_,_,_,_,_,kp⟩:=h;have:=mh hn;exact kp.lst _ _ (λz=>()) t
  ·rintro i z τ T hz ⟨g,y4,y5,y6,K,rfl,_,M,B,kp⟩;rw[aR]at hz;obtain⟨o,D,rfl⟩:=aP.mp hz;have om:=aZ D;obtain⟨Y,io⟩:=hi o om;have F:=(aJ.mp D).1;obtain⟨r,T1,K1,rs,x1,W,U,e1,Z⟩:=Im (d:=S.length) h5 8 T K o io Y M;have p:Ks T1 S1.length (240 * i) (Ld<|os.take i):=B.kp Z λz=>()
   obtain⟨z4,z5,z6,T2,x2,V,J⟩:=Nb (S:=T) (S1:=T1) (n:=n) (y4:=y4) (y5:=y5) (y6:=y6) hN Y (show qK _ _=_ from mF (by dsimp[kJ,mH,bools,show uE=nu 8 from rfl,x1]) U.l) W p U e1 ();refine⟨_,T,rfl,.inl ⟨_,T2,x2,_,_,_,_,K1,rfl,F,W.kpq J p,?_,(kp.trans<|Z.mono λ_ _ z=>.inl z).trans<|J.mono λ_ _ z=>.inr z⟩⟩;unfold Ld at V ⊢;rw[b7,D,gE];have:(some o).toList.flatMap ldK=ldK o:=cu _;rw[this];exact V.mono ()
  ·rintro τ T ⟨g,y4,y5,y6,K,rfl,_,M,B,kp⟩;rw[aH,cg]at B;exact⟨g,y4,y5,y6,T,rfl,B.mono (),kp⟩
 obtain⟨g,y4,y5,y6,S',x3,s3,k3⟩:=k;refine⟨S1.length,S',?_,s3,((P.trans G)).old k3 λq hq _ z=>()⟩;unfold nS sY sR;dsimp[kJ,mH,bools,m8,Nat.reduceAdd,Nat.reduceSub,Su.xS,My,<- f,<- j,↓x3]
end K67
namespace K67
open PySem L2 Am
def zC{s:Src}{xs:ae}{src:Ic}{t:Te}{e:Ex}(hs:src τ S=.ok s S1)(hk:s.k=xs.length)(b:Nat->Prop)(hg:∀T,Kp b S1 T->∀i:Nat,i<xs.length->s.get i T=xs[i]?)(hfin:∀T,Kp b S1 T->s.fin T=true)(p:A->Bool)(f:A->A)
  (step:∀x∈xs,∀T,Kp b S1 T->∃T1,t (x::l7 cap τ) T=.ok (p x) T1/\Kp b T T1/\(p x=true->∃T2,e (x::l7 cap τ) T1=.ok (f x) T2/\Kp b T1 T2)) (hl:xs.length<=16777216) :
  ∃S',kL (none::cap) src (kG 0) t e τ S=.ok (.ref S'.length) (S'++[.lst<|(xs.filter p).map f])/\Kp b S1 S':=by
 have F:∀i,i<xs.length->xs.getD i .unb∈xs:=λi d=>by
  rw[aK,aI d];exact di d
 obtain⟨S',h1,h2⟩:=xZ (s:=s) (g:=kG 0) (t:=t) (e:=e) (P:=λT=>Kp b S1 T) (T:=λj=>∃y,j=y::l7 cap τ) (λi=>xs.getD i .unb) (λi=>p<|xs.getD i .unb) (λi=>f<|xs.getD i .unb) (λi T d h=>by
   rw[hk]at d;rw[hg T h i d,aK,aI d];rfl) hfin
  (λi j T d hy h=>by
   obtain⟨y,rfl⟩:=hy;rw[hk]at d;obtain⟨T1,e1,B,q⟩:=step _ (F i d) T h;refine⟨xs.getD i .unb::l7 cap τ,T,T1,rfl,e1,⟨_,rfl⟩,λ_=>h.trans B,λC=>?_⟩;obtain⟨T2,e2,D⟩:=q C;exact⟨T2,e2,(h.trans B).trans D⟩) s.k 0 (l7 (none::cap) τ) S1 rfl ⟨_,rfl⟩ Kp.refl
 refine⟨S',?_,h2⟩;unfold kL;rw[hs,R.ny,h1,R.kX,hk,<- f_,nO xs p f .unb];refine mW ?_;rw[aH];exact bK (c8 _ _) hl
def zK{n:Nat}{xs:ae}{src:Ic}{t:Te}{e:Ex}(hs:src τ S=.ok (l_ n xs.length) S1)(hx:jT S1 n=some xs)(p:A->Bool)(f:A->A)
  (step:∀x∈xs,∀T,lG S1 T->∃T1,t (x::l7 cap τ) T=.ok (p x) T1/\lG T T1/\(p x=true->∃T2,e (x::l7 cap τ) T1=.ok (f x) T2/\lG T1 T2)) (hl:xs.length<=16777216) :
  ∃S',kL (none::cap) src (kG 0) t e τ S=.ok (.ref S'.length) (S'++[.lst<|(xs.filter p).map f])/\lG S1 S':=
 zC hs rfl _ (λT k i _=>by show(jT T n).bind _=_;rw[k.lst _ _ (λz=>z) hx];rfl) (λT k=>by
  show(match jT T n with
   | some ys=>decide (ys.length<=xs.length)
   | none=>false)=true
  rw[k.lst _ _ (λz=>z) hx];exact bf<|aN _) p f step hl
theorem P6{st:A->A->A->jV->R Unit}{s:Src}{g:Tg}{ek ev:Ex}{n:Nat}(P:Nat->jV->Prop)(Q:ae->Prop)(step:∀i τ S,i<s.k->Q τ->P i S->∃x τ1 S1 y S3 z S4 S5,s.get i S=some x/\g x τ S=.ok τ1 S1/\Q τ1/\ek τ1 S1=.ok y S3/\ev τ1 S3=.ok z S4/\st (.ref n) y z S4=.ok Unit.unit S5/\P (i+1) S5)(hfin:∀S,P s.k S->s.fin S=true) :
  ∀k i τ S,k+i=s.k->Q τ->P i S->∃τ' S',zq st s g nM ek ev n k i τ S=.ok τ' S'/\P s.k S'
 | 0,i,τ,S,hk,hT,hP=>by
  have:i=s.k:=()
  subst this;exact⟨τ,S,by unfold zq;rw[aW<|hfin S hP],hP⟩
 | k+1,i,τ,S,hk,hT,hP=>by
  obtain⟨x,τ1,S1,y,S3,z,S4,S5,e1,e2,p,e3,f,j,d⟩:=step i τ S () hT hP;obtain⟨τ',S',h1,h2⟩:=P6 P Q step hfin k (i+1) τ1 S5 () p d;refine⟨τ',S',?_,h2⟩;unfold zq;rw[e1,j_,e2,R.kX];show((ek τ1 S1).nV _)=_;rw[e3,R.kX,f,R.kX,j,R.kX,h1]
def XU{n:Nat}{bs:List Bool}(h:jT S n=some xs)(hb:A.HP xs=some bs):W_ (.ref n) S=.ok (.bl<|bs.any λb=>b) S:=by
 show opt (jT S n) _=_;rw[h];show opt (A.HP xs) _=_;rw[hb];rfl
def aaw(b:Bool)(xs:ae):A.HP (.bl b::xs)=(A.HP xs).map (b::·):=rfl
theorem OE{α:Type}(f:α->Bool):∀(xs:List α),A.HP (xs.map λx=>.bl<|f x)=some (xs.map f)
 | []=>rfl
 | x::xs=>by rw[bC,aaw,OE f xs];rfl
abbrev hof (N:Nat)(a b:ag):Bool:=(fl a N).any λk=>!decide (k∈fl b N)
abbrev isI:A->Int
 | .int k=>k
 | _=>0
def YJ(o:ag)(N:Nat)(hN:N<6):(fl o N).length<=6:=by
 unfold fl;refine bK (c8 _ _) ?_;unfold l8;rw[aH,bR];lia
def ZN{a b:ag}{N:Nat}(hN:N<6)(la:a.length=N)(lb:b.length=N):∃S',kH [.tup<|a.map .int,.tup<|b.map .int] S=.ok (.bl<|hof N a b) S'/\lG S S':=by
 have fa:=vF (S:=S) (xs:=a) (n:=N) la ();obtain⟨S1,d⟩:∃S1,S1=S++[O.lst<|(fl a N).map .int]:=⟨_,rfl⟩;have q:lG S S1:=by rw[d];kcj_m
 have g:jT S1 S.length=some ((fl a N).map .int):=by rw[d];exact kc
 rw[<- d]at fa;have J:=YJ a N hN;obtain⟨S2,f,C⟩:=zK (cap:=[some 1]) (t:=nM) (e:=j6 (LN true) (jR 0)<|eFn mU<|jS (jR 1) j0) (τ:=[.tup<|a.map .int,.tup<|b.map .int]) (S:=S) (S1:=S1) (src:=lJ<|eFn mU<|jS (jR 0) j0) (mF (by dsimp[kJ,mH,bools,fa]) g) g (λ_=>true) (λx=>.bl<|!decide (isI x∈fl b N)) (λx p T G=>⟨T,rfl,Kp.refl,λ_=>by
  obtain⟨k,F,rfl⟩:=bq.mp p;have B:=vF (S:=T) (xs:=b) (n:=N) lb ();refine⟨T++[.lst<|(fl b N).map .int],?_,Kp.refl.lay⟩;have D:LN true (.int k) (.ref T.length) (T++[.lst<|(fl b N).map .int])=.ok (.bl<|!decide (k∈fl b N)) (T++[.lst<|(fl b N).map .int]):=by
   show opt (jT _ _) _=_;rw[kc,j_,xH];rfl
  show j6 (LN true) (jR 0) (eFn mU<|jS (jR 1) j0) [.int k,.tup<|b.map .int] T=_;dsimp[kJ,mH,bools,B,D];rfl⟩)<|by rw[aH];lia
 refine⟨S2++[O.lst<|(fl a N).map λk=>.bl<|!decide (k∈fl b N)],?_,(q.trans C).lay⟩;unfold kH pW pX;have hf:((List.map A.int<|fl a N).filter λ_=>true).map (λx=>A.bl<|!decide (isI x∈fl b N))=(fl a N).map λk=>.bl (!decide (k∈fl b N)):=by
  rw[eL.mpr λ_ _=>rfl,aY];rfl
 rw[hf]at f;have j:=XU (S:=S2++[O.lst<|(fl a N).map λk=>.bl<|!decide (k∈fl b N)]) kc<|OE (λk=>!decide (k∈fl b N))<|fl a N;rw[any_map]at j;dsimp[kJ,mH,bools,m8,Nat.reduceAdd,Nat.reduceSub,↓f,j];rfl
end K67
namespace K67
open PySem L2 Am
abbrev tq (o:ag):A:=.tup<|o.map .int
def uq(o:ag)(T:jV):uV (tq o) T=.ok (tq o) T:=rfl
def isD{kvs:List<|ag×A}{k:ag}:(lC kvs k).isSome=decide (k∈kvs.map (·.1)):=by
 unfold lC;rw[dB]
 cases h:kvs.find? λkv=>decide (kv.1=k)with
 | none=>
  refine(bz λz=>?_).symm;obtain⟨p,d,e⟩:=bq.mp z;have:=fP.mp h p d;exact this<|bf e
 | some p=>
  refine(bf ?_).symm;have h1:=cF h;have h2:=fV h;have h2:=bV h2;exact bq.mpr ⟨p,h1,h2⟩
def C9{kvs:List<|ag×A}{k:ag}{v:A}(h:k∉kvs.map (·.1)):putD kvs k v=kvs++[(k,v)]:=by
 unfold putD;rw[isD,aV<|by rw[iC];exact h]
def ZR{d:Nat}:Q5 (.ref d) (tq o) S=opt (mj S d) λkvs=>opt (lC kvs o) λv=>.ok v S:=by
 show opt (mj S d) (λkvs=>opt (A.ints<|o.map .int) λns=>_)=_;rw[ints_map];rfl
def Sq{d:Nat}:uJ (.ref d) (tq o) S=opt (ki S d) λkvs=>opt (lC kvs o) λv=>.ok v S:=by
 show opt (ki S d) (λkvs=>opt (A.ints<|o.map .int) λns=>_)=_;rw[ints_map];rfl
def X7{d:Nat}:Mt false (tq o) (.ref d) S=opt (mj S d) λkvs=>.ok (.bl (lC kvs o).isSome) S:=by
 show opt (mj S d) (λkvs=>opt (A.ints<|o.map .int) λns=>_)=_;rw[ints_map];rfl
def ZZ{d:Nat}(h:ki S d=some kvs):mj S d=some kvs:=by
 unfold mj;rw[mC h]
def YD{d:Nat}{S:jV}(h:S[d]?=some (.dcf kvs)):mj S d=some kvs:=by
 unfold mj;rw[h]
def vA{b:Nat->Prop}{d:Nat}(h:mj S d=some kvs)(k:Kp b S S')(hb:¬b d):mj S' d=some kvs:=by
 unfold mj at h;split at h
 ·rename_i e;cases h;unfold mj;rw[k.obj _ _ hb e]
 ·rename_i e;cases h;unfold mj;rw[k.obj _ _ hb e]
 ·cases h
def G_{n:Nat}{d:List<|ag×A}(h:mj S n=some d)(h':jT S m=some xs):n≠m:=λz=>by
 subst z;unfold mj at h;rw[j8 h']at h
 cases h
structure Nx (S:jV)(d L:Nat)(os:List (ag))(nx:ag->List (ag)):Prop where
 ex:∃rs:List<|ag×Nat,mj S d=some (rs.map λe=>(e.1,.ref e.2))/\rs.map (·.1)=os/\∀e∈rs,jT S e.2=some ((nx e.1).map tq)/\e.2<L
 lt:d<L
def Nx.kp{d L:Nat}{os:List<|ag}{nx:ag->List (ag)}{b:Nat->Prop}(h:Nx S d L os nx)(k:Kp b S S')(hb:∀n,n<L->¬b n):Nx S' d L os nx:=by
 obtain⟨g,h1,h2,h3⟩:=h.ex;exact⟨⟨g,vA h1 k<|hb _ h.lt,h2,λe f=>⟨k.lst _ _ (hb _ (h3 e f).2) (h3 e f).1,(h3 e f).2⟩⟩,h.lt⟩
def I_{rs:List<|ag×Nat}{o:ag}(h:o∈rs.map (·.1)):∃e∈rs,e.1=o/\lC (rs.map λe=>(e.1,A.ref e.2)) o=some (.ref e.2):=by
 induction rs with
 | nil=>cases h
 | cons e rs d=>
  by_cases c:e.1=o
  ·exact⟨e,aL ..,c,Cu (p:=(e.1,A.ref e.2)) c⟩
  ·rw[bC]at h;have h:=(bG.mp h).resolve_left λz=>c z.symm;obtain⟨f,g,e1,e2⟩:=d h;exact⟨f,aO _ g,e1,by rw[bC,Ca (p:=(e.1,A.ref e.2)) c];exact e2⟩
def Nx.ix{d L:Nat}{os:List<|ag}{nx:ag->List (ag)}(h:Nx S d L os nx){o:ag}(ho:o∈os):∃r,Q5 (.ref d) (tq o) S=.ok (.ref r) S/\jT S r=some ((nx o).map tq)/\r<L:=by
 obtain⟨g,h1,h2,h3⟩:=h.ex;rw[<- h2]at ho;obtain⟨e,f,rfl,e2⟩:=I_ ho;exact⟨e.2,by rw[ZR,h1,j_,e2,j_],(h3 e f).1,(h3 e f).2⟩
meta abbrev Os:=List<|ag
abbrev Jl (s:Os×Os)(o:ag):Os×Os:=if o∈s.1 then s else(s.1++[o],s.2++[o])
abbrev rZ (s:Os×Os)(l:Os):Os×Os:=l.foldl Jl s
abbrev rf (os:Os)(nx:ag->Os):Nat->Os->Os->Option Os
 | 0,_,_=>none
 | f+1,R,W=>if R.length<1000/\W.length<1000/\∀o∈W,o∈os/\(nx o).length<1000 then match W.getLast? with
   | none=>some R
   | some h=>rf os nx f (rZ (R,W.dropLast)<|nx h).1 (rZ (R,W.dropLast)<|nx h).2
  else none
abbrev mk (R:Os):List (ag×A):=R.map λo=>(o,.bl true)
def CP(R:Os):(mk R).map (·.1)=R:=by
 unfold mk;rw[aY];exact jt _
def N_(l:Os):∀(s:Os×Os),(rZ s l).1.length<=s.1.length+l.length/\(rZ s l).2.length<=s.2.length+l.length:=by
 induction l with
 | nil=>exact λs=>⟨aN _,aN _⟩
 | cons o l d=>
  intro s;have h:=d<|Jl s o;have h1:(Jl s o).1.length<=s.1.length+1/\(Jl s o).2.length<=s.2.length+1:=by
   unfold Jl;split
   ·exact⟨(),()⟩
   ·exact⟨by rw[bh];exact aN _,by rw[bh];exact aN _⟩
  show(rZ (Jl s o) l).1.length<=_/\(rZ (Jl s o) l).2.length<=_;rw[bB];exact⟨(),()⟩
abbrev Bq (r q:Nat)(n:Nat):Prop:=n=r\/n=q
def YK{d r q:Nat}{l R W:Os}{x:A}(hs:nL [x,.ref d,.ref r,.ref q,h,y] S=.ok (l_ m (l.map tq).length) S)(hm:jT S m=some (l.map tq))(mr:m≠q)(hr:ki S r=some (mk R))(hq:jT S q=some (W.map tq))(h1:R.length<1000)(h2:W.length<1000)(h3:l.length<1000) :
  ∃(y':A) (S':jV),mX nL (kG 5) pY [x,.ref d,.ref r,.ref q,h,y] S=.nx [x,.ref d,.ref r,.ref q,h,y'] S'/\ki S' r=some (mk (rZ (R,W) l).1)/\jT S' q=some ((rZ (R,W) l).2.map tq)/\Kp (Bq r q) S S':=by
 have F:r≠q:=Su.oA hr hq;have K:r≠m:=Su.oA hr hm;refine o9 (n:=m) (xs:=l.map tq) (S1:=S) hs
  (λi τ T=>∃y',τ=[x,.ref d,.ref r,.ref q,h,y']/\i<=l.length/\ki T r=some (mk (rZ (R,W)<|l.take i).1)/\jT T q=some ((rZ (R,W)<|l.take i).2.map tq)/\Kp (Bq r q) S T)
  (λZ=>∃(y':A) (S':jV),Z=.nx [x,.ref d,.ref r,.ref q,h,y'] S'/\ki S' r=some (mk (rZ (R,W) l).1)/\jT S' q=some ((rZ (R,W) l).2.map tq)/\Kp (Bq r q) S S')
  ⟨_,rfl,bF _,by rw[gr];exact hr,by rw[gr];exact hq,Kp.refl⟩ (λi τ T z=>?_) ?_ ?_
 ·obtain⟨_,_,_,_,_,kp⟩:=z;exact kp.lst _ _ (λz=>z.elim (λz=>K z.symm) mr) hm
 ·rintro i z τ T J ⟨y',rfl,_,dT,g,kp⟩;rw[aR]at J;obtain⟨o,D,rfl⟩:=aP.mp J;have C:=(aJ.mp D).1;have bl:=N_ (l.take i) (R,W);rw[b9]at bl;have t:(rZ (R,W)<|l.take i).1.length<=R.length+min i l.length:=bl.1;have B:(rZ (R,W)<|l.take i).2.length<=W.length+min i l.length:=bl.2;have st:rZ (R,W) (l.take<|i+1)=Jl (rZ (R,W)<|l.take i) o:=by
   unfold rZ;rw[b7,D,eg];rfl
  have p:Mf true (tq o) (.ref r) T=.ok (.bl<|!decide (o∈(rZ (R,W)<|l.take i).1)) T:=by
   have:=Px (d:=r) (S:=T) (o:=o);rw[dT,j_,isD,CP]at this;exact this
  refine⟨[x,.ref d,.ref r,.ref q,h,tq o],T,rfl,.inl ?_⟩;unfold pY;by_cases c:o∈(rZ (R,W)<|l.take i).1
  ·rw[bf c]at p;refine⟨[x,.ref d,.ref r,.ref q,h,tq o],T,?_,_,rfl,C,?_,?_,kp⟩
   ·dsimp[kJ,mH,bools,uq,p,bY]
   ·rw[st];unfold Jl;rw[aW c];exact dT
   ·rw[st];unfold Jl;rw[aW c];exact g
  ·rw[bz c]at p;obtain⟨f,k⟩:∃f,f=(rZ (R,W)<|l.take i).1:=⟨_,rfl⟩;obtain⟨j,G⟩:∃j,j=(rZ (R,W)<|l.take i).2:=⟨_,rfl⟩;rw[<- k]at dT c t;rw[<- G]at g B;have e1:qP (.ref r) (tq o) (.bl true) T=.ok Unit.unit (T.set r<|.dct<|mk<|f++[o]):=by
    have:=Su.ve (n:=r) (o:=o) (v:=.bl true) (S:=T);rw[dT,j_,C9<|by rw[CP];exact c]at this;refine this.trans ?_;rw[pN<|by unfold mk;rw[aH];lia];unfold mk;rw[bE];rfl
   have M:jT (T.set r<|.dct<|mk<|f++[o]) q=some (j.map tq):=by
    refine nj ?_;rw[bJ F];exact j8 g
   have lt:r<T.length:=Su.uo dT;have L:q<(T.set r<|.dct<|mk<|f++[o]).length:=by rw[bX];exact mh g
   refine⟨[x,.ref d,.ref r,.ref q,h,tq o],(T.set r<|.dct<|mk<|f++[o]).set q<|.lst<|(j++[o]).map tq,?_,_,rfl,C,?_,?_,(kp.qi<|.inl<|.inl rfl).qi<|.inl<|.inr rfl⟩
   ·rw[bE];dsimp[kJ,mH,bools,uq,p,dg,Su.zz,e1,M,pN<|show(j.map tq).length<16777216 by rw[aH];lia];rfl
   ·rw[st];have:(Jl (rZ (R,W)<|l.take i) o).1=f++[o]:=by unfold Jl;rw[aV<|by rw[<- k];exact c,k]
    rw[this];refine rz ?_;rw[bJ<|cO F,bA lt]
   ·have:(Jl (rZ (R,W)<|l.take i) o).2=j++[o]:=by unfold Jl;rw[aV<|by rw[<- k];exact c,G]
    rw[st,this];refine nj ?_;rw[bA L]
 ·rintro τ T ⟨y',rfl,_,dT,g,kp⟩;rw[aH,cg]at dT g;exact⟨y',T,rfl,dT,g,kp⟩
end K67
namespace K67
open PySem L2 Am
def XZ{S:jV}{q:Nat}{W:Os}(hq:jT S q=some (W.map tq))(hl:W.getLast?=some h):Xc (.ref q) [] S=.ok (tq h) (S.set q<|.lst<|W.dropLast.map tq):=by
 show opt (jT S q) _=_;rw[hq,j_];show opt ((W.map tq)[(W.map tq).length-1]?) _=_;rw[<- List.getLast?_eq_getElem?,List.getLast?_map,hl];show R.ok (tq h) (S.set q<|.lst (W.map tq).dropLast)=_;rw[List.map_dropLast]
theorem QO{d r q L:Nat}{os:Os}{nx:ag->Os}{x:A}(hrL:L<=r)(hqL:L<=q):∀(f n:Nat) {S:jV}{R W:Os}{y4 y5:A},f<=n->rf os nx f R W=some res->Nx S d L os nx->ki S r=some (mk R)->jT S q=some (W.map tq) ->
  ∃(y4' y5':A) (S':jV),lD kW lI n [x,.ref d,.ref r,.ref q,y4,y5] S=.nx [x,.ref d,.ref r,.ref q,y4',y5'] S'/\ki S' r=some (mk res)/\Kp (Bq r q) S S'
 | 0,_,_,_,_,_,_,_,h,_,_,_=>nomatch h
 | f+1,0,_,_,_,_,_,hn,_,_,_,_=>absurd hn (Nat.not_succ_le_zero _)
 | f+1,n+1,S,R,W,y4,y5,hn,h,hN,hr,hq=>by
  unfold rf at h;split at h
  case isFalse=>cases h
  rename_i g;obtain⟨g1,g2,g3⟩:=g;have K:=BY hq
  cases C:W.getLast? with
  | none=>
   rw[C]at h
   cases h
   have:W=[]:=List.getLast?_eq_none_iff.mp C;subst this;refine⟨y4,y5,S,?_,hr,Kp.refl⟩;unfold lD;have t0:kW [x,.ref d,.ref r,.ref q,y4,y5] S=.ok false S:=by
    unfold kW;dsimp[kJ,mH,bools,K];rfl
   rw[t0];rfl
  | some t=>
   rw[C]at h;have k:t∈W:=List.mem_of_getLast? C;obtain⟨T,P⟩:=g3 t k;have G:W≠[]:=λz=>by rw[z]at k;cases k
   have V:r≠q:=Su.oA hr hq;have e1:=XZ hq C;obtain⟨S1,p⟩:∃S1,S1=S.set q (O.lst<|W.dropLast.map tq):=⟨_,rfl⟩;rw[<- p]at e1;have k1:Kp (Bq r q) S S1:=by rw[p];exact Kp.refl.qi (.inl<|.inr rfl)
   have D:Kp (·=q) S S1:=by rw[p];exact Kp.refl.qi (.inl rfl)
   have q1:jT S1 q=some (W.dropLast.map tq):=nj (by rw[p,bA<|mh hq]);have r1:=D.dct _ _ V hr;have N1:=hN.kp D λn hn z=>()
   obtain⟨m,F,J,mL⟩:=N1.ix T;obtain⟨M,S2,N,d2,l2,k2⟩:=YK (x:=x) (h:=tq t) (y:=y5) (show nL [x,.ref d,.ref r,.ref q,tq t,y5] S1=.ok (l_ m ((nx t).map tq).length) S1 from mF (by dsimp[kJ,mH,bools,uq,F]) J) J () r1 q1 g1 (by rw[List.length_dropLast];lia) P;have B:=k1.trans k2;obtain⟨y4',y5',S3,x3,U,k3⟩:=QO hrL hqL f n (x:=x) (y4:=tq t) (y5:=M) () h (hN.kp B λn hn z=>z.elim (λz=>()) λz=>()) d2 l2;refine⟨y4',y5',S3,?_,U,B.trans k3⟩;unfold lD;have t0:kW [x,.ref d,.ref r,.ref q,y4,y5] S=.ok true S:=by
    unfold kW;dsimp[kJ,mH,bools,K]
    cases W with
    | nil=>exact absurd rfl G
    | cons _ _=>rfl
   have Z:lI [x,.ref d,.ref r,.ref q,y4,y5] S=.nx [x,.ref d,.ref r,.ref q,tq t,M] S2:=by
    unfold lI;have Y:(A.ref q).lst? S=some (W.map tq):=hq;dsimp[kJ,mH,bools,Y,e1,↓N]
   rw[t0];show(match lI _ S with
    | .nx j S'=>lD kW lI n j S'
    | .ct j S'=>lD kW lI n j S'
    | .bk j S'=>.nx j S'
    | r=>r)=_
   rw[Z];exact x3
def Nk{ck cv:Ex}{S2:jV}{v:A}(h1:ck τ S=.ok (tq o) S1)(h2:cv τ S1=.ok v S2):J9 ck cv τ S=.ok (.ref S2.length) (S2++[.dct [(o,v)]]):=by
 unfold J9;rw[h1,R.ny,h2,R.ny];show opt (A.ints<|o.map .int) _=_;rw[ints_map];rfl
def HW{d L:Nat}{os:Os}{nx:ag->Os}{f:Nat}{S:jV}{o:ag}(hf:f<=1000000)(h:rf os nx f [o] [o]=some res)(hN:Nx S d L os nx)(hL:L<=S.length) :
  ∃(r:Nat) (S':jV),mE [tq o,.ref d] S=.ok (.ref r) S'/\ki S' r=some (mk res)/\S.length<=r/\lG S S':=by
 obtain⟨S1,g⟩:∃S1,S1=S++[O.dct [(o,.bl true)]]:=⟨_,rfl⟩;have F:lG S S1:=by rw[g];kcj_m
 have J:ki S1 S.length=some (mk [o]):=by rw[g];exact Su.pD
 have K:S1.length=S.length+1:=by rw[g,bh];rfl
 obtain⟨S2,j⟩:∃S2,S2=S1++[O.lst [tq o]]:=⟨_,rfl⟩;have p:lG S1 S2:=by rw[j];kcj_m
 have C:jT S2 S1.length=some ([o].map tq):=by rw[j];exact kc
 have B:=p.dct _ _ (λz=>z) J;have k:=F.trans p;obtain⟨y4,y5,S3,D,t,G⟩:=QO (r:=S.length) (q:=S1.length) (x:=tq o) (y4:=.unb) (y5:=.unb) hL () f 1000000 hf h (hN.kp k λ_ _ z=>z) B C;refine⟨S.length,S3,?_,t,aN _,k.old G λn hn _ z=>z.elim (λz=>()) λz=>()⟩;unfold mE r9 r8;have e0:=Nk (ck:=jR 0) (cv:=eC<|.bl true) (τ:=[tq o,.ref d,.unb,.unb,.unb,.unb]) (S:=S) (S1:=S) (S2:=S) (o:=o) (v:=.bl true) (by dsimp[kJ,mH,uq]) rfl;rw[<- g]at e0;dsimp[kJ,mH,bools,m8,Nat.reduceAdd,Nat.reduceSub,e0,uq,Jz,<- j,↓D]
end K67
namespace K67
open PySem L2 Am
def abN{x w:ag}:yc false (tq x) (tq w) S=.ok (.bl<|decide<|x=w) S:=Qs (by
 show tR (zd S 11) (x.map .int) (w.map .int)=_;exact yI x w)
theorem JU:∀{ls:List<|ag},(∀l∈ls,l≠[])->XG (ls.map tq)=some ls
 | [],_=>rfl
 | l::ls,h=>by
  have g:=h l<|aL ..;have d:=JU λk f=>h k<|aO _ f;show XG (.tup (l.map .int)::ls.map tq)=_;unfold XG;rw[ints_map]
  cases l with
  | nil=>exact absurd rfl g
  | cons k ks=>dsimp only;rw[d];rfl
def Ke{S:jV}{n:Nat}{ls:List<|ag}(h:jT S n=some (ls.map tq))(hne:∀l∈ls,l≠[])(hl:ls.length<64):sX (.ref n) S=.ok (.ref S.length) (S++[.lst<|(kQ ls).map tq]):=by
 show opt (jT S n) _=_;rw[h,j_,JU hne,j_,D5 hl];rfl
abbrev ev (es:List<|ag×Nat):List (ag×A):=es.map λe=>(e.1,.ref e.2)
def zR(es:List<|ag×Nat):(ev es).map (·.1)=es.map (·.1):=by unfold ev;rw[aY];rfl
def G0{S:jV}{d:Nat}(h:ki S d=some kvs):mj (S.set d<|.dcf kvs) d=some kvs:=YD<|by rw[bA<|Su.uo h]
def Nx.fz{S:jV}{d L:Nat}{os:Os}{nx:ag->Os}{rs:List<|ag×Nat}(h:ki S d=some (ev rs))(h2:rs.map (·.1)=os)(h3:∀e∈rs,jT S e.2=some ((nx e.1).map tq)/\e.2<L)(hd:d<L):Nx (S.set d<|.dcf<|ev rs) d L os nx:=
 ⟨⟨rs,G0 h,h2,λe f=>⟨nj<|by rw[bJ<|Su.oA h (h3 e f).1];exact j8 (h3 e f).1,(h3 e f).2⟩⟩,hd⟩
def aat{S:jV}{d f:Nat}{os:Os}{nx rc:ag->Os}{rs:List<|ag×Nat}(h:ki S d=some (ev rs))(h2:rs.map (·.1)=os)(h3:∀e∈rs,jT S e.2=some ((nx e.1).map tq))(nd:os.Nodup)(ln:os.length<=1000)(hf:f<=1000000)(hrc:∀o∈os,rf os nx f [o] [o]=some (rc o)) :
  ∃(S':jV) (es:List<|ag×Nat),Wj (.dct []) qP [none,some 0] (Gy<|jR 0) (kG 0) nM (jR 0) (eFn mE<|jS (jR 0)<|jS (jR 1) j0) [.ref d,x1,x2,x3,x4] S=.ok (.ref S.length) S'/\ki S' S.length=some (ev es)/\es.map (·.1)=os/\(∀e∈es,ki S' e.2=some (mk<|rc e.1)/\S.length<e.2)/\(es.map (·.2)).Nodup/\mj S' d=some (ev rs)/\Kp (·=d) S S':=by
 have hd:=Su.uo h;have N:=Nx.fz h h2 (λe C=>⟨h3 e C,mh<|h3 e C⟩) hd;obtain⟨S1,p⟩:∃S1,S1=S.set d (O.dcf<|ev rs):=⟨_,rfl⟩;rw[<- p]at N;have G:S1.length=S.length:=by rw[p,bX]
 have Y:Kp (·=d) S S1:=by rw[p];exact Kp.refl.qi (.inl rfl)
 have J:mj S1 d=some (ev rs):=by rw[p];exact G0 h
 have hs:Gy (jR 0) [.ref d,x1,x2,x3,x4] S=.ok (qD<|os.map tq) S1:=by
  unfold Gy;show opt (ki S d) _=_;rw[h,j_,<- p];have:(ev rs).map keA=os.map tq:=by rw[<- h2];unfold ev;rw[aY,aY];rfl
  rw[this]
 obtain⟨S2,q⟩:∃S2,S2=S1++[O.dct []]:=⟨_,rfl⟩;have L:lG S1 S2:=by rw[q];kcj_m
 have l2:S2.length=S.length+1:=by rw[q,bh,G];rfl
 have U:ki S2 S.length=some (ev []):=by rw[q,<- G];exact Su.pD
 obtain⟨V,S',e1,es,p1,p2,p3,K,B⟩:=P6 (st:=qP) (s:=qD<|os.map tq) (g:=kG 0) (ek:=jR 0) (ev:=eFn mE<|jS (jR 0)<|jS (jR 1) j0) (n:=S.length)
  (λi T=>∃es:List<|ag×Nat,ki T S.length=some (ev es)/\es.map (·.1)=os.take i/\(∀e∈es,ki T e.2=some (mk<|rc e.1)/\S.length<e.2)/\(es.map (·.2)).Nodup/\Kp (·=S.length) S2 T) (λτ=>∃y,τ=[y,.ref d]) (λi τ T t hq hP=>by
   obtain⟨y,rfl⟩:=hq;obtain⟨es,p1,p2,p3,K,B⟩:=hP;have t:i<(os.map tq).length:=t;rw[aH]at t;have P:os[i]∈os:=di t;have Z:Nx T d S.length os nx:=(N.kp L λ_ _ z=>z).kp B λn hn z=>()
   have tl:=B.len;obtain⟨r,T1,x1,q1,q2,M⟩:=HW hf (hrc _ P) Z ();have D:=M.dct _ _ (λz=>z) p1;have new:os[i]∉(ev es).map (·.1):=by
    rw[zR,p2];intro z;obtain⟨j,W,e⟩:=cA.mp z;rw[List.getElem_take]at e;have lj:j<i:=by rw[b9]at W;lia
    have:=(cG nd).mp e
    lia
   have e5:qP (.ref S.length) (tq os[i]) (.ref r) T1=.ok Unit.unit (T1.set S.length<|.dct<|ev<|es++[(os[i],r)]):=by
    have:=Su.ve (n:=S.length) (o:=os[i]) (v:=.ref r) (S:=T1);rw[D,j_,C9 new]at this;refine this.trans ?_;have le:es.length=i:=by have:=cV List.length p2;rw[aH,b9]at this;lia
    rw[pN<|by unfold ev;rw[aH];lia];unfold ev;rw[bE];rfl
   have F:Kp (·=S.length) T1 (T1.set S.length<|.dct<|ev<|es++[(os[i],r)]):=Kp.refl.qi<|.inl rfl;refine⟨tq os[i],[tq os[i],.ref d],T,tq os[i],T,.ref r,T1,_,?_,rfl,⟨_,rfl⟩,rfl,?_,e5,es++[(os[i],r)],?_,?_,λe C=>?_,?_,(B.trans M.of0).trans F⟩
   ·show(os.map tq)[i]?=_;rw[aR,aI t];rfl
   ·dsimp[kJ,mH,bools,uq,x1]
   ·exact rz (by rw[bA<|Su.uo D])
   ·rw[bE,p2,b7,aI t];rfl
   ·rcases bH.mp C with z|z
    ·have:=p3 e z;exact⟨F.dct _ _ ()<|M.dct _ _ (λz=>z) this.1,this.2⟩
    ·rw[aS.mp z];exact⟨F.dct _ _ (by show ¬r=S.length;lia) q1,by show S.length<r;lia⟩
   ·rw[bE,b_];refine⟨K,bT.mpr ⟨(λz=>nomatch z),dc⟩,λa ha b hb z=>?_⟩;obtain⟨e,C,rfl⟩:=bq.mp ha;rw[aS.mp hb]at z;have:=Su.uo (p3 e C).1;have z:e.2=r:=z
    lia) (λ_ _=>rfl) (os.map tq).length 0 (l7 [none,some 0] [.ref d,x1,x2,x3,x4]) S2 rfl ⟨_,rfl⟩ ⟨[],U,rfl,(nofun),dc,Kp.refl⟩
 refine⟨S',es,?_,p1,?_,p3,K,vA (vA J L λz=>z) B (),(Y.trans L.of0).old B λn hn _ z=>()⟩
 ·unfold Wj;rw[hs,R.ny,<- q,G];show(zq _ _ _ _ _ _ _ (os.map tq).length 0 _ _).nV _=_;rw[e1];rfl
 ·have:(qD<|os.map tq).k=os.length:=aH ..;rw[this,cg]at p2;exact p2
end K67
namespace K67
open PySem L2 Am
structure Hs (S:jV)(n L:Nat)(gs:List Os):Prop where
 ex:∃hs:List<|Os×Nat,jT S n=some (hs.map λh=>.ref h.2)/\hs.map (·.1)=gs/\∀h∈hs,jT S h.2=some (h.1.map tq)/\L<h.2
abbrev un:A->ag
 | .tup xs=>xs.map isI
 | _=>[]
def Cz(o:ag):un (tq o)=o:=by
 show(o.map A.int).map isI=o;rw[aY];exact jt _
abbrev EA (rc:ag->Os)(o:ag):Os:=kQ<|(rc o).filter λp=>decide<|o∈rc p
abbrev hq (rc:ag->Os)(o:ag):Bool:=decide<|(EA rc o).head?=some o
def aaQ{T:jV}{d D H:Nat}{es:List<|ag×Nat}{os:Os}{rc:ag->Os}{xs:ae}{e:ag×Nat}(h1:ki T D=some (ev es))(h2:es.map (·.1)=os)(h3:∀e∈es,mj T e.2=some (mk<|rc e.1))(he:e∈es)(nd:os.Nodup)(h4:ki T e.2=some (mk<|rc e.1))(h5:jT T H=some xs)(lx:xs.length<1000)(sub:∀p∈rc e.1,p∈os/\p≠[])(lr:(rc e.1).length<=63)(ne:EA rc e.1≠[])(De:D≠e.2) :
  ∃(r:Nat) (T':jV),o5 [.ref d,.ref D,.ref H,tq e.1,y] T=.nx [.ref d,.ref D,.ref H,tq e.1,.ref r] T'/\jT T' r=some ((EA rc e.1).map tq)/\T.length<=r/\jT T' H=some (xs++if hq rc e.1=true then[.ref r]else[])/\mj T' e.2=some (mk<|rc e.1)/\Kp (λn=>n=e.2\/n=H) T T':=by
 have look:∀p∈os,∃f∈es,f.1=p/\lC (ev es) p=some (.ref f.2):=λp M=>I_ (by rw[h2];exact M);have ee:lC (ev es) e.1=some (.ref e.2):=by
  obtain⟨f,F,U,W⟩:=look e.1 (by rw[<- h2];exact bq.mpr ⟨e,he,rfl⟩);have:f=e:=by
   rw[<- h2]at nd;unfold List.Nodup at nd;rw[cI]at nd;obtain⟨i,hi,rfl⟩:=cA.mp F;obtain⟨j,hj,rfl⟩:=cA.mp he
   rcases Nat.lt_trichotomy i j with c|c|c
   ·exact absurd U (bZ.mp nd i j hi hj c)
   ·subst c;rfl
   ·exact absurd U.symm<|bZ.mp nd j i hj hi c
  rw[W,this]
 obtain⟨T1,g⟩:∃T1,T1=T.set e.2 (O.dcf<|mk<|rc e.1):=⟨_,rfl⟩;have P:Kp (·=e.2) T T1:=by rw[g];exact Kp.refl.qi (.inl rfl)
 have l1:T1.length=T.length:=by rw[g,bX]
 have d1:=P.dct _ _ De h1;have He:H≠e.2:=λz=>Su.oA h4 h5 z.symm;have c1:∀f∈es,mj T1 f.2=some (mk<|rc f.1):=λf F=>by
  by_cases c:f.2=e.2
  ·have:mk (rc f.1)=mk (rc e.1):=by
    have a:=h3 f F;rw[c,h3 e he]at a;exact(bg a).symm
   rw[c,this,g];exact G0 h4
  ·exact vA (h3 f F) P c
 have Z:uJ (.ref D) (tq e.1) T=.ok (.ref e.2) T:=by rw[Sq,h1,j_,ee,j_]
 have hs:Gy (j6 uJ (jR 1)<|jR 3) [.ref d,.ref D,.ref H,tq e.1,y] T=.ok (qD<|(rc e.1).map tq) T1:=by
  unfold Gy;have:j6 uJ (jR 1) (jR 3) [.ref d,.ref D,.ref H,tq e.1,y] T=.ok (.ref e.2) T:=by dsimp[kJ,mH,uq,Z]
  rw[this,R.ny];show opt (ki T e.2) _=_;rw[h4,j_,<- g];have:(mk<|rc e.1).map keA=(rc e.1).map tq:=by unfold mk;rw[aY];rfl
  rw[this]
 have cf:=Sf (cap:=[some 3,some 1]) (t:=sG<|j6 (Mt false) (jR 1)<|j6 uJ (jR 2)<|jR 0) (e:=jR 0) hs (λx=>decide<|e.1∈rc (un x)) (λx=>x) (λx V=>by
  obtain⟨p,M,rfl⟩:=bq.mp V;obtain⟨f,F,U,W⟩:=look p (sub p M).1;subst U;have i1:uJ (.ref D) (tq f.1) T1=.ok (.ref f.2) T1:=by rw[Sq,d1,j_,W,j_]
  have i2:Mt false (tq e.1) (.ref f.2) T1=.ok (.bl<|decide<|e.1∈rc f.1) T1:=by rw[X7,c1 f F,j_,isD,CP]
  rw[Cz];show sG (j6 (Mt false) (jR 1)<|j6 uJ (jR 2)<|jR 0) [tq f.1,tq e.1,.ref D] T1=_;dsimp[kJ,mH,bools,uq,i1,i2]) (λx V _=>by
  obtain⟨p,M,rfl⟩:=bq.mp V;show jR 0 (tq p::_) T1=_;dsimp[kJ,mH,uq])<|by rw[aH];lia
 have el:((((rc e.1).map tq).filter λx=>decide<|e.1∈rc (un x)).map λx=>x)=((rc e.1).filter λp=>decide<|e.1∈rc p).map tq:=by
  rw[map_id',gK];congr 1;refine List.filter_congr λp _=>?_;show decide (e.1∈rc (un<|tq p))=_;rw[Cz]
 rw[el]at cf;obtain⟨T2,q⟩:∃T2,T2=T1++[O.lst<|((rc e.1).filter λp=>decide<|e.1∈rc p).map tq]:=⟨_,rfl⟩;have k2:lG T1 T2:=by rw[q];kcj_m
 have N:=Ke (S:=T2) (n:=T1.length) (ls:=(rc e.1).filter λp=>decide<|e.1∈rc p) (by rw[q];exact kc) (λl hl=>(sub l (cj.mp hl).1).2)<|e_ (c8 _ _) ();rw[<- q]at cf;obtain⟨T3,B⟩:∃T3,T3=T2++[O.lst<|(EA rc e.1).map tq]:=⟨_,rfl⟩;have N:sX (.ref T1.length) T2=.ok (.ref T2.length) T3:=by rw[B];exact N
 have k3:lG T2 T3:=by rw[B];kcj_m
 have Y:jT T3 T2.length=some ((EA rc e.1).map tq):=by rw[B];exact kc
 have C:=k2.trans k3;have H3:jT T3 H=some xs:=C.lst _ _ (λz=>z)<|P.lst _ _ He h5;have c3:mj T3 e.2=some (mk<|rc e.1):=vA (c1 e he) C λz=>z;have J:Kp (λn=>n=e.2\/n=H) T T3:=(P.mono λ_ _ z=>.inl z).trans C.of0;have G:T.length<=T2.length:=by have:=k2.len;lia
 have lH:=mh h5;obtain⟨a,t,ha⟩:∃a t,EA rc e.1=a::t:=by
  cases c:EA rc e.1 with
  | nil=>exact absurd c ne
  | cons a t=>exact⟨a,t,rfl⟩
 have K:jT T3 T2.length=some (tq a::t.map tq):=by rw[Y,ha];rfl
 have k:=abN (S:=T3) (x:=a) (w:=e.1);have L:hq rc e.1=decide (a=e.1):=by
  unfold hq;rw[ha];exact gB.mpr ⟨λz=>bg z,λz=>by rw[z];rfl⟩
 by_cases c:a=e.1
 ·have k4:Kp (λn=>n=e.2\/n=H) T3 (T3.set H<|.lst<|xs++[.ref T2.length]):=Kp.refl.qi<|.inl<|.inr rfl;refine⟨T2.length,T3.set H<|.lst<|xs++[.ref T2.length],?_,nj<|by rw[bJ ()];exact j8 Y,G,?_,vA c3 (show Kp (·=H) T3 _ from Kp.refl.qi<|.inl rfl)<|cO He,J.trans k4⟩
  ·unfold o5;rw[bf c]at k;dsimp[kJ,mH,bools,↓cf,N,K,xK,uq,k,H3,pN<|show xs.length<16777216 by lia]
  ·rw[L,aW<|bf c];exact nj<|by rw[bA<|mh H3]
 ·refine⟨T2.length,T3,?_,Y,G,?_,c3,J⟩
  ·unfold o5;rw[bz c]at k;dsimp[kJ,mH,bools,↓cf,N,K,xK,uq,k]
  ·rw[L,aV<|by rw[iC];exact c,cu];exact H3
end K67
namespace K67
open PySem L2 Am
abbrev We (os:Os)(rc:ag->Os):List Os:=((kQ os).filter<|hq rc).map<|EA rc
def RM{S:jV}{d:Nat}{kvs:List<|ag×A}(h:mj S d=some kvs)(hne:∀k∈kvs.map (·.1),k≠[])(hl:kvs.length<64):D9 (.ref d) S=.ok (.ref S.length) (S++[.lst<|(kQ<|kvs.map (·.1)).map tq]):=by
 show opt (mj S d) _=_;rw[h,j_,D5<|Oo hne<|by rw[aH];exact hl];rfl
def FY{S:jV}{d f:Nat}{os:Os}{nx rc:ag->Os}{rs:List<|ag×Nat}(h:ki S d=some (ev rs))(h2:rs.map (·.1)=os)(h3:∀e∈rs,jT S e.2=some ((nx e.1).map tq))(nd:os.Nodup)(ln:os.length<=63)(hf:f<=1000000)(hrc:∀o∈os,rf os nx f [o] [o]=some (rc o))(hne:∀o∈os,o≠[])
  (sub:∀o∈os,(∀p∈rc o,p∈os)/\(rc o).length<=63/\EA rc o≠[]) :
  ∃(r:Nat) (S':jV),rH [.ref d] S=.ok (.ref r) S'/\Hs S' r r (We os rc)/\S.length<=r/\Kp (·=d) S S':=by
 obtain⟨S1,es,x1,d1,e1,e2,e3,e4,k1⟩:=aat (x1:=.unb) (x2:=.unb) (x3:=.unb) (x4:=.unb) h h2 h3 nd () hf hrc;have sl1:S.length<S1.length:=Su.uo d1;obtain⟨S2,D⟩:∃S2,S2=S1++[O.lst []]:=⟨_,rfl⟩;have k2:lG S1 S2:=by rw[D];kcj_m
 have l2:jT S2 S1.length=some []:=by rw[D];exact kc
 have sl2:S2.length=S1.length+1:=by rw[D,bh];rfl
 have c2:=vA e4 k2 λz=>z;have sf:=RM c2 (by rw[zR,h2];exact hne) (by rw[show(ev rs).length=os.length from by rw[<- h2,aH];exact aH ..];lia);rw[zR,h2]at sf;obtain⟨S3,M⟩:∃S3,S3=S2++[O.lst<|(kQ os).map tq]:=⟨_,rfl⟩;rw[<- M]at sf;have k3:lG S2 S3:=by rw[M];kcj_m
 have m3:jT S3 S2.length=some ((kQ os).map tq):=by rw[M];exact kc
 have F:=k2.trans k3;have ps:=kN os;have nds:(kQ os).Nodup:=ps.nodup_iff.mpr nd;have lso:(kQ os).length=os.length:=ps.length_eq;have V:∃(K B:A) (S':jV),mX uw (kG 3) o5 [.ref d,.ref S.length,.ref S1.length,.unb,.unb] S2=.nx [.ref d,.ref S.length,.ref S1.length,K,B] S'/\Hs S' S1.length S1.length (We os rc)/\Kp (λn=>S.length<=n) S3 S':=by
  refine o9 (n:=S2.length) (xs:=(kQ os).map tq) (S1:=S3) (show uw _ _=_ from mF (by dsimp[kJ,mH,bools,sf]) m3)
   (λi τ T=>∃(K B:A) (hs:List<|Os×Nat),τ=[.ref d,.ref S.length,.ref S1.length,K,B]/\i<=(kQ os).length/\ki T S.length=some (ev es)/\(∀e∈es,mj T e.2=some (mk<|rc e.1))/\(∀e∈es,e.1∈(kQ os).drop i->ki T e.2=some (mk<|rc e.1))/\jT T S1.length=some (hs.map λh=>.ref h.2)/\hs.map (·.1)=(((kQ os).take i).filter<|hq rc).map (EA rc)/\hs.length<=i/\(∀h∈hs,jT T h.2=some (h.1.map tq)/\S1.length<h.2)/\jT T S2.length=some ((kQ os).map tq)/\Kp (λn=>S.length<=n) S3 T)
   (λZ=>∃(K B:A) (S':jV),Z=.nx [.ref d,.ref S.length,.ref S1.length,K,B] S'/\Hs S' S1.length S1.length (We os rc)/\Kp (λn=>S.length<=n) S3 S')
   ⟨_,_,[],rfl,bF _,F.dct _ _ (λz=>z) d1,(λe t=>ZZ<|F.dct _ _ (λz=>z) (e2 e t).1),(λe t _=>F.dct _ _ (λz=>z) (e2 e t).1),k3.lst _ _ (λz=>z) l2,by rw[gr];rfl,bF _,(nofun),m3,Kp.refl⟩ (λi τ T z=>?_) ?_ ?_
  ·obtain⟨_,_,_,_,_,_,_,_,_,_,_,_,m,_⟩:=z;exact m
  ·rintro i z τ T hz ⟨K,B,hs,rfl,_,i1,L,i3,i4,i5,i6,i7,i8,kp⟩;rw[aR]at hz;obtain⟨o,P,rfl⟩:=aP.mp hz;have hi:=(aJ.mp P).1;have oso:o∈kQ os:=aZ P;have W:o∈os:=ps.mem_iff.mp oso;have:o∈es.map (·.1):=by rw[e1];exact W
   obtain⟨e,t,rfl⟩:=bq.mp this;have dr:e.1∈(kQ os).drop i:=cA.mpr ⟨0,by rw[List.length_drop];lia,by rw[List.getElem_drop];exact(aJ.mp P).2⟩;have Y:=sub e.1 W;obtain⟨r,T1,b1,b2,b3,b4,b5,b6⟩:=aaQ (d:=d) (y:=B) i1 e1 L t nd (i3 e t dr) i4 (by rw[aH];lia) (λp hp=>⟨Y.1 p hp,hne p<|Y.1 p hp⟩) Y.2.1 Y.2.2 (by have:=(e2 e t).2;lia);have eH:∀k∈es,k.2≠S1.length:=λk G z=>by
    have:=G_ (L k G) i4;exact this z
   have N:Kp (λn=>n=e.2\/n=S1.length) T T1:=b6;have tl:=kp.len;have tl3:S2.length<S3.length:=mh m3;refine⟨[.ref d,.ref S.length,.ref S1.length,tq e.1,B],T,rfl,.inl ⟨_,T1,b1,_,_,hs++(if hq rc e.1=true then[(EA rc e.1,r)]else[]),rfl,hi,?_,?_,?_,?_,?_,?_,?_,?_,?_⟩⟩
   ·exact N.dct _ _ (λz=>z.elim (λz=>by have:=(e2 e t).2;lia) λz=>()) i1
   ·intro k G;by_cases c:k.2=e.2
    ·have a:=L k G;rw[c,L e t]at a;rw[c,b5];exact a
    ·exact vA (L k G) N λz=>z.elim c<|eH k G
   ·intro k G J;have ne:k.2≠e.2:=λc=>by
     have U:k≠e:=λz=>by
      rw[z]at J;obtain⟨j,hj,ej⟩:=cA.mp J;rw[List.getElem_drop,<- (aJ.mp P).2]at ej;have:=(cG nds).mp ej
      lia
     have C:=e3;unfold List.Nodup at C;rw[cI]at C;obtain⟨a,ha,rfl⟩:=cA.mp G;obtain⟨b,hb,rfl⟩:=cA.mp t
     rcases Nat.lt_trichotomy a b with q|q|q
     ·exact absurd c (bZ.mp C a b ha hb q)
     ·subst q;exact U rfl
     ·exact absurd c.symm<|bZ.mp C b a hb ha q
    have dr2:k.1∈(kQ os).drop i:=by
     rw[<- List.drop_drop]at J;exact List.mem_of_mem_drop J
    exact N.dct _ _ (λz=>z.elim ne<|eH k G)<|i3 k G dr2
   ·rw[b4,bE];by_cases c:hq rc e.1=true
    ·rw[aW c,aW c];rfl
    ·rw[aV c,aV c];rfl
   ·rw[bE,i5,b7,P,List.filter_append,bE];congr 1;show _=((([e.1]:Os).filter<|hq rc).map<|EA rc);by_cases c:hq rc e.1=true
    ·rw[aW c,gv,aW c];rfl
    ·rw[aV c,gv,aV c];rfl
   ·rw[bh];split
    ·show hs.length+1<=i+1;lia
    ·show hs.length+0<=i+1;lia
   ·intro g hg
    rcases bH.mp hg with z|z
    ·have:=i7 g z;refine⟨N.lst _ _ (λw=>w.elim (λw=>?_) λw=>()) this.1,this.2⟩;exact G_ (L e t) this.1 w.symm
    ·split at z
     ·rw[aS.mp z];exact⟨b2,by show S1.length<r;lia⟩
     ·cases z
   ·exact N.lst _ _ (λw=>w.elim (λw=>G_ (L e t) i8 w.symm) λw=>()) i8
   ·exact kp.trans<|N.mono λn hn z=>z.elim (λz=>by have:=(e2 e t).2;lia) λz=>()
  ·rintro τ T ⟨K,B,hs,rfl,_,i1,L,i3,i4,i5,i6,i7,i8,kp⟩;rw[aH,cg]at i5;exact⟨K,B,T,rfl,⟨hs,i4,i5,i7⟩,kp⟩
 obtain⟨K,B,S4,x4,h4,k4⟩:=V;refine⟨S1.length,S4,?_,h4,dX sl1,(k1.trans F.of0).old k4 λn hn _ z=>()⟩;unfold rH wK xx;dsimp[kJ,mH,bools,m8,Nat.reduceAdd,Nat.reduceSub,↓x1,<- D,↓x4]
end K67
namespace Nu
open PySem L2
abbrev pM:Nat->Nat
 | 0=>1
 | n+1=>(n+1) * pM n
theorem Eb:∀n,0<pM n
 | 0=>Nat.one_pos
 | n+1=>Nat.mul_pos (Nat.succ_pos _)<|Eb n
def Gp(n:Nat):pM n<=pM (n+1):=Nat.le_mul_of_pos_left _<|Nat.succ_pos _
def F0{a:Nat}(h:a<=b):pM a<=pM b:=by
 induction h with
 | refl=>exact aN _
 | step _ d=>exact bK d<|Gp _
def V1{n:Nat}(h:n<=20):pM n<=2432902008176640000:=bK (F0 h) ⋯
abbrev Uw:Nat->ag->Nat->ag
 | 0,_,_=>[]
 | n+1,l,m=>l.getD (m / pM n) 0::Uw n (l.eraseIdx<|m / pM n) (m % pM n)
def LK{n:Nat}(h:m<pM (n+1)):m / pM n<n+1:=(Nat.div_lt_iff_lt_mul<|Eb n).mpr h
def Uo{l:ag}{q:Nat}(h:q<l.length):l.getD q 0=l[q]:=by rw[aK,aI h];rfl
end Nu
namespace K67
open PySem L2 Am
open Nu in
def Dg{n:Nat}(h:n<=20):mQ [.int n] S=.ok (.int<|pM n) S:=by
 have h1:pM (0+1)=1:=rfl;unfold mQ u_ vO;dsimp[kJ,bools,m8,Nat.reduceAdd,Nat.reduceSub];refine IE (lo:=2) (hi:=(n:Int)+1) (S1:=S) (show wI _ _=_ from xJ (S1:=S) (by dsimp[kJ,bools]) (by dsimp[kJ,bools]) (rJ ⋯ ⋯)<|rJ () ())
  (λi τ S1=>(∃a,τ=[.int n,.int<|pM<|i+1,a])/\S1=S)
  (λr=>RS.end (RS.seq r<|mw<|jR 1)=.ok (.int<|pM n) S) ⟨⟨.unb,by dsimp[h1];rfl⟩,rfl⟩ ?_ ?_
 ·rintro i τ S1 hi ⟨⟨a,rfl⟩,rfl⟩;left;have e:Xk (.int<|pM<|i+1) (.int<|2+(i:Int)) S1=.ok (.int<|pM<|i+2) S1:=by
   show gd (yg _ _) _=_;rw[D5 (show yg ((pM (i+1):Nat):Int) (2+(i:Int))=true by
    unfold yg;rw[Bool.or_eq_true,dU,dU];exact .inr ⟨bf (),bf ()⟩)]
   rw[show pM (i+2)=(i+2) * pM (i+1)from rfl,mul_comm,Int.natCast_mul];rw[show(2:Int)+(i:Int)=((i+2:Nat):Int)by lia]
  unfold wH;dsimp[kJ,bools,e];exact⟨_,_,rfl,⟨_,rfl⟩,rfl⟩
 ·rintro τ S1 ⟨⟨a,rfl⟩,rfl⟩;dsimp[kJ,bools];rw[show pM (((n:Int)+1-2).toNat+1)=pM n by
   by_cases z:n=0
   ·subst z;rfl
   ·rw[show((n:Int)+1-2).toNat+1=n by lia]]
def QL{n:Nat}{xs:ae}(h:jT S n=some xs):A.WH (.ref n) S=some (!xs.isEmpty):=by
 show(jT S n).map _=_;rw[h];rfl
open Nu in
def Yz{n:Nat}(h2:n<=20)(hm:m<pM n):∃S',oJ [.int n,.int m] S=.ok (.tup<|(Uw n (l8 1<|(n:Int)+1) m).map .int) S'/\lG S S':=by
 have W:=V1 h2;unfold oJ wL w_;dsimp[kJ,mH,bools,m8,Nat.reduceAdd,Nat.reduceSub,Qi,bY,bz<|show ¬(m:Int)<0 by lia,Dg h2,bz<|show ¬(pM n:Int)<=(m:Int)by lia,MI<|M4 (show(-1000000:Int)<=1 by decide) ⋯ (show -1000000<=(n:Int)+1 by lia) () ()];have L:(l8 1<|(n:Int)+1).length=n:=by rw[tD];lia
 have D:=z8 (t:=ug) (c:=uc)
  (λτ S1=>∃(k q:Nat) (G:A) (d fs:ag),τ=[.int n,.int q,.ref S.length,.ref<|S.length+1,G]/\jT S1 S.length=some (d.map .int)/\jT S1 (S.length+1)=some (fs.map .int)/\d.length=k/\k<=20/\fs.length<=20-k/\q<pM k/\fs++Uw k d q=Uw n (l8 1<|(n:Int)+1) m/\lG S S1)
  (λτ S1=>((jT S1 S.length).getD []).length)
  (λr=>∃S',RS.end (RS.seq r<|mw<|kj (f1 vf)<|jS (jR 3) j0)=.ok (.tup<|(Uw n (l8 1<|(n:Int)+1) m).map .int) S'/\lG S S') ?_ 1000000
 ·have K:(S++[O.lst<|(l8 1<|(n:Int)+1).map A.int]).length=S.length+1:=by simp
  have M:jT (S++[O.lst<|(l8 1<|(n:Int)+1).map A.int]++[O.lst []]) S.length=some ((l8 1<|(n:Int)+1).map .int):=k_ kc;have V:jT (S++[O.lst<|(l8 1<|(n:Int)+1).map A.int]++[O.lst []]) (S.length+1)=some (([]:ag).map .int):=by rw[<- K];exact kc
  rw[K];refine D _ _ ⟨n,m,.unb,l8 1<|(n:Int)+1,[],rfl,M,V,L,h2,bF _,hm,rfl,Kp.refl.lay.lay⟩ ?_;show((jT _ S.length).getD []).length<_;rw[M,dh,aH,L];lia
 ·rintro τ S1 ⟨k,q,G,d,fs,rfl,B,p,J,T,lf,hq,g,kp⟩;unfold ug;dsimp[kJ,bools,QL B]
  cases k with
  | zero=>
   left;have:d=[]:=List.eq_nil_of_length_eq_zero J;subst this;have g:fs++[]=_:=g;rw[cu]at g;refine⟨S1,rfl,S1,?_,kp⟩;dsimp[kJ,bools,p,g]
  | succ k=>
   right;have ne:(!(d.map A.int).isEmpty)=true:=by
    cases d with
    | nil=>cases J
    | cons _ _=>rfl
   refine⟨S1,by rw[ne],.inl ?_⟩;have Y:=LK hq;have f:q / pM k<d.length:=()
   have fk:=V1 (show k<=20 by lia);have U:=Eb k;have ek:((d.length:Int)-1)=(k:Int):=()
   have Z:(q:Int) / (pM k:Int)=((q / pM k:Nat):Int):=(Int.natCast_ediv _ _).symm;have lL:=mh B;have lF:=mh p;have F:HB (.ref S.length) [.int ((q / pM k:Nat):Int)] S1=.ok (.int<|d.getD (q / pM k) 0) (S1.set S.length<|.lst<|(d.eraseIdx<|q / pM k).map .int):=by
    show opt (jT S1 S.length) _=_;generalize hgj:q / pM k=j at Y f;rw[B,j_,D5 (),PySem.seqIndex_of ()<|by rw[aH];lia,j_,cR,aR,aI f,fS,j_,Uo f];congr 3;rw[iE,iE,bE,List.map_take,List.map_drop]
   have C:jT (S1.set S.length<|.lst<|(d.eraseIdx<|q / pM k).map .int) (S.length+1)=some (fs.map .int):=by rw[nF ()];exact p
   unfold uc;dsimp[kJ,bools,B,aH,ek,Dg<|show k<=20 by lia,p,Zq (show(0:Int)<(pM k:Int)by lia)<|show(pM k:Int)<18446744073709551616 by lia,Z,F,C,pN<|show fs.length<16777216 by lia,mul_r (show(-18446744073709551616:Int)<(pM k:Int)by lia)<|show(pM k:Int)<18446744073709551616 by lia];have P:(q:Int)-((q / pM k:Nat):Int) * (pM k:Int)=((q % pM k:Nat):Int):=by
    have:=Nat.div_add_mod q<|pM k;rw[mul_comm]at this;rw[<- Int.natCast_mul]
    lia
   rw[P];have N:jT ((S1.set S.length<|.lst<|(d.eraseIdx<|q / pM k).map .int).set (S.length+1)<|.lst<|fs.map A.int++[.int<|d.getD (q / pM k) 0]) S.length=some ((d.eraseIdx<|q / pM k).map .int):=by rw[nF ()];exact qc lL
   refine⟨_,_,rfl,⟨k,q % pM k,_,d.eraseIdx<|q / pM k,fs++[d.getD (q / pM k) 0],rfl,N,?_,?_,(),by rw[bh];show fs.length+1<=_;lia,Nat.mod_lt _ U,?_,(kp.set<|.inr<|aN _).set<|.inr ()⟩,?_⟩
   ·rw[qc<|by rw[bX];lia,bE];rfl
   ·rw[List.length_eraseIdx,aW f];lia
   ·rw[<- g,cQ];rfl
   ·rw[N,dh,dh,aH,aH,List.length_eraseIdx,aW f];lia
abbrev ao (n:Nat):Os:=(List.range<|Nu.pM n).map λm=>Nu.Uw n (l8 1<|(n:Int)+1) m
def Yk{n:Nat}(hn:n<=4):∃S',oV [.int n] S=.ok (.ref S'.length) (S'++[.lst<|(ao n).map tq])/\lG S S':=by
 have f4:Nu.pM n<=24:=bK (Nu.F0 hn) ⋯;have j:=Dg (S:=S) (n:=n) ();obtain⟨S',f,k⟩:=zC (cap:=[some 0]) (t:=nM) (e:=eFn oJ<|jS (jR 1)<|jS (jR 0) j0) (τ:=[.int (n:Int)]) (S:=S) (S1:=S) (src:=tH<|eFn mQ<|jS (jR 0) j0) (s:=sJ 0<|Nu.pM n) (xs:=(List.range<|Nu.pM n).map λm:Nat=>A.int (m:Int)) (AZ (by dsimp[kJ,mH,bools,j])<|rJ () ()) (by rw[aH,bR];show((Nu.pM n:Int)-0).toNat=_;lia) (λ_=>False) (λT _ i d=>by
   rw[aH,bR]at d;show(if i<((Nu.pM n:Int)-0).toNat then some (A.int<|0+i)else none)=_;rw[aW (),aR,eK d,dm];rfl) (λ_ _=>rfl) (λ_=>true) (λx=>tq<|Nu.Uw n (l8 1<|(n:Int)+1) (isI x).toNat) (λx g T B=>⟨T,rfl,Kp.refl,λ_=>by
   obtain⟨m,q,rfl⟩:=bq.mp g;obtain⟨T2,e2,p⟩:=Yz (S:=T) (n:=n) (m:=m) ()<|cy.mp q;refine⟨T2,?_,p⟩;show eFn oJ (jS (jR 1)<|jS (jR 0) j0) [.int m,.int n] T=_;dsimp[kJ,mH,bools,e2];rfl⟩)<|by rw[aH,bR];lia
 refine⟨S',?_,k⟩;have el:((((List.range<|Nu.pM n).map λm:Nat=>A.int (m:Int)).filter λ_=>true).map λx=>tq<|Nu.Uw n (l8 1<|(n:Int)+1) (isI x).toNat)=(ao n).map tq:=by
  rw[eL.mpr λ_ _=>rfl,aY];unfold ao;rw[aY];rfl
 rw[el]at f;unfold oV ux t7;dsimp[kJ,mH,bools,m8,Nat.reduceAdd,Nat.reduceSub,bz<|show ¬(n:Int)>4 by lia,↓f]
end K67
namespace K67
open PySem L2 Am
open Fw (rg)
abbrev Zu (n:Nat)(os:Os)(o:ag):Os:=os.filter λp=>decide ((o,p)∈Ld os) && hof n p o
def W3{L N:Nat}{os:Os}{o:ag}(hN:N<6)(hm:jT T m=some (os.map tq))(hL:Ks T L M<|Ld os)(ll:os.length<=1000)(lo:o.length=N)(lp:∀p∈os,p.length=N) :
  ∃T',kL [none,some 2,some 0] (lJ<|jR 1) (kG 0) (An (sG<|j6 (Bx false) (pK<|jS (jR 2)<|jS (jR 0) j0)<|jR 1)<|rO<|eFn kH<|jS (jR 0)<|jS (jR 2) j0) (jR 0) [tq o,.ref m,.ref L] T=.ok (.ref T'.length) (T'++[.lst<|(Zu N os o).map tq])/\lG T T':=by
 obtain⟨T',g,B⟩:=zK (cap:=[some 2,some 0]) (t:=An (sG<|j6 (Bx false) (pK<|jS (jR 2)<|jS (jR 0) j0)<|jR 1)<|rO<|eFn kH<|jS (jR 0)<|jS (jR 2) j0) (e:=jR 0) (τ:=[tq o,.ref m,.ref L]) (S:=T) (S1:=T) (src:=lJ<|jR 1) (xs:=os.map tq) (mF (by dsimp[kJ,mH,bools]) hm) hm (λx=>decide ((o,un x)∈Ld os) && hof N (un x) o) (λx=>x) (λx j T1 q=>by
  obtain⟨p,k,rfl⟩:=bq.mp j;rw[Cz];have f:=hL.kp q λz=>z;have d:Bx false (.tup [tq o,tq p]) (.ref L) T1=.ok (.bl<|decide<|(o,p)∈Ld os) T1:=f.inq;show ∃T2,An (sG<|j6 (Bx false) (pK<|jS (jR 2)<|jS (jR 0) j0)<|jR 1) (rO<|eFn kH<|jS (jR 0)<|jS (jR 2) j0) [tq p,.ref L,tq o] T1=_/\_/\(_->∃T3,jR 0 [tq p,.ref L,tq o] T2=_/\_);by_cases c:(o,p)∈Ld os
  ·obtain⟨T2,e2,C⟩:=ZN (S:=T1) (a:=p) (b:=o) hN (lp p k) lo;have e2:kH [tq p,tq o] T1=.ok (.bl<|hof N p o) T2:=e2;rw[bf c]at d;refine⟨T2,?_,C,λ_=>⟨T2,by dsimp[kJ,mH,uq],Kp.refl⟩⟩;rw[bf c,Bool.true_and];dsimp[kJ,mH,bools,uq,zh,d,e2]
  ·rw[bz c]at d;refine⟨T1,?_,Kp.refl,λ_=>⟨T1,by dsimp[kJ,mH,uq],Kp.refl⟩⟩;rw[bz c,Bool.false_and];dsimp[kJ,mH,bools,uq,zh,d])<|by rw[aH];lia
 refine⟨T',?_,B⟩;have el:(((os.map tq).filter λx=>decide ((o,un x)∈Ld os) && hof N (un x) o).map λx=>x)=(Zu N os o).map tq:=by
  rw[map_id',gK];unfold Zu;congr 1;refine List.filter_congr λp _=>?_;show(decide ((o,un<|tq p)∈Ld os) && hof N (un<|tq p) o)=_;rw[Cz]
 rw[el]at g;exact g
structure Okn (n f:Nat)(os:Os)(rc:ag->Os):Prop where
 n6:n<5
 n1:1<=n
 pm:∀o∈os,o.Perm (rg n)/\Iv.inv o<8
 nd:os.Nodup
 ln:os.length<=63
 ff:f<=1000000
 rr:∀o∈os,rf os (Zu n os) f [o] [o]=some (rc o)
 sub:∀o∈os,(∀p∈rc o,p∈os)/\(rc o).length<=63/\EA rc o≠[]
def Dk{S:jV}{n f:Nat}{rc:ag->Os}(hn:n<=4)(h:Okn n f (ao n) rc):∃(r:Nat) (S':jV),kR [.int n] S=.ok (.ref r) S'/\Hs S' r r (We (ao n) rc)/\S.length<=r/\lG S S':=by
 obtain⟨d,x1,k0⟩:=Yk (S:=S) hn;obtain⟨S1,D⟩:∃S1,S1=d++[O.lst<|(ao n).map tq]:=⟨_,rfl⟩;have k1:lG S S1:=by rw[D];exact k0.lay
 have l1:jT S1 d.length=some ((ao n).map tq):=by rw[D];exact kc
 rw[<- D]at x1;have ll:=h.ln;obtain⟨L,S2,x2,G,P⟩:=PN h.n6 h.pm l1 ();have U:=P.lst _ _ (λz=>z) l1;have Y:=k1.len;have len2:=P.len;obtain⟨S3,q⟩:∃S3,S3=S2++[O.dct []]:=⟨_,rfl⟩;have M:lG S2 S3:=by rw[q];kcj_m
 have d3:ki S3 S2.length=some (ev []):=by rw[q];exact Su.pD
 have lm:d.length<S2.length:=mh U;have lL:L<S2.length:=by
  obtain⟨kvs,z,_⟩:=G.ex;exact(aJ.mp<|qo z).1
 have l3:=M.lst _ _ (λz=>z) U;obtain⟨τ',S4,e4,es,p1,p2,p3,B⟩:=P6 (st:=qP) (s:=l_ d.length ((ao n).map tq).length) (g:=kG 0) (ek:=jR 0) (ev:=kL [none,some 2,some 0] (lJ<|jR 1) (kG 0) (An (sG<|j6 (Bx false) (pK<|jS (jR 2)<|jS (jR 0) j0)<|jR 1)<|rO<|eFn kH<|jS (jR 0)<|jS (jR 2) j0)<|jR 0) (n:=S2.length)
  (λi T=>∃es:List<|ag×Nat,ki T S2.length=some (ev es)/\es.map (·.1)=(ao n).take i/\(∀e∈es,jT T e.2=some ((Zu n (ao n) e.1).map tq))/\Kp (·=S2.length) S3 T) (λτ=>∃y,τ=[y,.ref d.length,.ref L]) (λi τ T F hq hP=>by
   obtain⟨y,rfl⟩:=hq;obtain⟨es,p1,p2,p3,B⟩:=hP;have F:i<((ao n).map tq).length:=F;rw[aH]at F;have N:(ao n)[i]∈ao n:=di F;have J:=B.lst _ _ () l3;have qT:=(G.kp M λz=>z).kp B ();obtain⟨T1,y1,q1⟩:=W3 (o:=(ao n)[i]) (dP h.n6) J qT () (p6 (h.pm _ N).1) λp hp=>p6 (h.pm p hp).1;obtain⟨T2,C⟩:∃T2,T2=T1++[O.lst<|(Zu n (ao n) (ao n)[i]).map tq]:=⟨_,rfl⟩;rw[<- C]at y1;have G:lG T T2:=by rw[C];exact q1.lay
   have Z:jT T2 T1.length=some ((Zu n (ao n) (ao n)[i]).map tq):=by rw[C];exact kc
   have t:=G.dct _ _ (λz=>z) p1;have new:(ao n)[i]∉(ev es).map (·.1):=by
    rw[zR,p2];intro z;obtain⟨j,hj,e⟩:=cA.mp z;rw[List.getElem_take]at e;have lj:j<i:=by rw[b9]at hj;lia
    have:=(cG h.nd).mp e
    lia
   have e5:qP (.ref S2.length) (tq (ao n)[i]) (.ref T1.length) T2=.ok Unit.unit (T2.set S2.length<|.dct<|ev<|es++[((ao n)[i],T1.length)]):=by
    have:=Su.ve (n:=S2.length) (o:=(ao n)[i]) (v:=.ref T1.length) (S:=T2);rw[t,j_,C9 new]at this;refine this.trans ?_;have le:es.length=i:=by have:=cV List.length p2;rw[aH,b9]at this;lia
    rw[pN<|by unfold ev;rw[aH];lia];unfold ev;rw[bE];rfl
   have V:Kp (·=S2.length) T2 (T2.set S2.length<|.dct<|ev<|es++[((ao n)[i],T1.length)]):=Kp.refl.qi<|.inl rfl;refine⟨tq (ao n)[i],[tq (ao n)[i],.ref d.length,.ref L],T,tq (ao n)[i],T,.ref T1.length,T2,_,?_,rfl,⟨_,rfl⟩,rfl,y1,e5,es++[((ao n)[i],T1.length)],?_,?_,λe he=>?_,(B.trans G.of0).trans V⟩
   ·show(jT T d.length).bind _=_;rw[J];show((ao n).map tq)[i]?=_;rw[aR,aI F];rfl
   ·exact rz (by rw[bA<|Su.uo t])
   ·rw[bE,p2,b7,aI F];rfl
   ·rcases bH.mp he with z|z
    ·have a:=G.lst _ _ (λz=>z)<|p3 e z;exact V.lst _ _ (λw=>Su.oA t a w.symm) a
    ·rw[aS.mp z];exact V.lst _ _ (λw=>Su.oA t Z w.symm) Z) (λT hP=>by
   obtain⟨es,p1,p2,p3,B⟩:=hP;have J:=B.lst _ _ () l3;show(match jT T d.length with
    | some ys=>decide (ys.length<=((ao n).map tq).length)
    | none=>false)=true
   rw[J];exact bf<|aN _) ((ao n).map tq).length 0 (l7 [none,some 1,some 2] [.int n,.ref d.length,.ref L]) S3 rfl ⟨_,rfl⟩ ⟨[],d3,rfl,(nofun),Kp.refl⟩
 have K:Wj (.dct []) qP [none,some 1,some 2] (lJ<|jR 1) (kG 0) nM (jR 0) (kL [none,some 2,some 0] (lJ<|jR 1) (kG 0) (An (sG<|j6 (Bx false) (pK<|jS (jR 2)<|jS (jR 0) j0)<|jR 1)<|rO<|eFn kH<|jS (jR 0)<|jS (jR 2) j0)<|jR 0) [.int n,.ref d.length,.ref L] S2=.ok (.ref S2.length) S4:=by
  have hs:lJ (jR 1) [.int n,.ref d.length,.ref L] S2=.ok (l_ d.length ((ao n).map tq).length) S2:=mF (by dsimp[kJ,mH]) U;unfold Wj;rw[hs,R.ny,<- q];show(zq _ _ _ _ _ _ _ ((ao n).map tq).length 0 _ _).nV _=_;rw[e4];rfl
 have p2:es.map (·.1)=ao n:=by
  have:(l_ d.length ((ao n).map tq).length).k=(ao n).length:=aH ..;rw[this,cg]at p2;exact p2
 obtain⟨r,S5,x5,h5,l5,k5⟩:=FY p1 p2 p3 h.nd () h.ff h.rr (λo N z=>by have:=p6 (h.pm o N).1;rw[z]at this;have:=h.n1;simp at *;lia) h.sub;have len3:S3.length=S2.length+1:=by rw[q,bh];rfl
 have W:=B.len;refine⟨r,S5,?_,h5,(),(((k1.trans P).trans M).old B λm hm _ z=>()).old k5 λm hm _ z=>()⟩;unfold kR qF qI;dsimp[kJ,mH,bools,m8,Nat.reduceAdd,Nat.reduceSub,x1,x2,↓K,x5]
end K67
namespace K67
open PySem L2 Am
abbrev lz (os:Os)(t:List Os)(o:ag):Os:=(((os.zip t).find? λe=>decide<|e.1=o).map (·.2)).getD []
abbrev nxl (n:Nat)(L:List ni)(os:Os)(o:ag):Os:=os.filter λp=>decide ((o,p)∈L) && hof n p o
theorem FP{os:Os}{nx nx':ag->Os}(h:∀o∈os,nx o=nx' o):∀(f:Nat) (R W:Os),rf os nx f R W=rf os nx' f R W
 | 0,_,_=>rfl
 | f+1,R,W=>by
  unfold rf;have e:(R.length<1000/\W.length<1000/\∀o∈W,o∈os/\(nx o).length<1000) ↔ (R.length<1000/\W.length<1000/\∀o∈W,o∈os/\(nx' o).length<1000):=
   ⟨λz=>⟨z.1,z.2.1,λo d=>⟨(z.2.2 o d).1,by rw[<- h o (z.2.2 o d).1];exact(z.2.2 o d).2⟩⟩,λz=>⟨z.1,z.2.1,λo d=>⟨(z.2.2 o d).1,by rw[h o (z.2.2 o d).1];exact(z.2.2 o d).2⟩⟩⟩
  by_cases c:R.length<1000/\W.length<1000/\∀o∈W,o∈os/\(nx o).length<1000
  ·rw[aW c,aW<|e.mp c]
   cases j:W.getLast? with
   | none=>rfl
   | some g=>
    have:=h g (c.2.2 g<|List.mem_of_getLast? j).1;dsimp only;rw[this];exact FP h f _ _
  ·rw[aV c,aV λz=>c<|e.mpr z]
def DQ{n:Nat}{L:List ni}{X:List Os}(h4:n<5)(h1:1<=n)(pm:∀o∈ao n,o.Perm (Fw.rg n)/\Iv.inv o<8)(nd:(ao n).Nodup)(ln:(ao n).length<=63)(ld:Ld (ao n)=L)(nx:∀o∈ao n,nxl n L (ao n) o=lz (ao n) X o)(rr:∀o∈ao n,rf (ao n) (lz (ao n) X) 200 [o] [o]=some (lz (ao n) C o))
  (sub:∀o∈ao n,(∀p∈lz (ao n) C o,p∈ao n)/\(lz (ao n) C o).length<=63/\EA (lz (ao n) C) o≠[]):Okn n 200 (ao n) (lz (ao n) C):=⟨h4,h1,pm,nd,ln,by decide,λo f=>by
 rw[FP (nx':=lz (ao n) X) λp d=>by rw[<- nx p d,<- ld];rfl];exact rr o f,sub⟩
abbrev Lq1:List ni:=[]
abbrev Xq1:List Os:=[[]]
abbrev Z_:List Os:=[[[1]]]
abbrev Gq1:List Os:=[[[1]]]
abbrev Lq2:List ni:=[([1,2],[2,1]),([2,1],[1,2])]
abbrev Xq2:List Os:=[[[2,1]],[]]
abbrev Cq2:List Os:=[[[1,2],[2,1]],[[2,1]]]
abbrev Gq2:List Os:=[[[1,2]],[[2,1]]]
abbrev Lq3:List ni:=[([1,2,3],[1,3,2]),([1,3,2],[1,2,3]),([1,2,3],[2,1,3]),([2,1,3],[1,2,3]),([1,3,2],[2,3,1]),([2,3,1],[1,3,2]),([2,1,3],[2,3,1]),([2,3,1],[2,1,3]),([1,3,2],[3,1,2]),([3,1,2],[1,3,2]),([2,1,3],[3,1,2]),([3,1,2],[2,1,3]),([2,3,1],[3,2,1]),([3,2,1],[2,3,1]),([3,1,2],[3,2,1]),([3,2,1],[3,1,2])]
abbrev Xq3:List Os:=[[[1,3,2],[2,1,3]],[[3,1,2]],[[2,3,1]],[[2,1,3],[3,2,1]],[[1,3,2],[3,2,1]],[]]
abbrev Cq3:List Os:=[[[1,2,3],[1,3,2],[2,1,3],[2,3,1],[3,2,1],[3,1,2]],[[1,3,2],[3,1,2],[3,2,1]],[[2,1,3],[2,3,1],[3,2,1]],[[2,3,1],[2,1,3],[3,2,1]],[[3,1,2],[1,3,2],[3,2,1]],[[3,2,1]]]
abbrev Gq3:List Os:=[[[1,2,3]],[[1,3,2],[3,1,2]],[[2,1,3],[2,3,1]],[[3,2,1]]]
abbrev o4 (i:Nat):ag:=([[1,2,3,4],[1,2,4,3],[1,3,2,4],[1,3,4,2],[1,4,2,3],[1,4,3,2],[2,1,3,4],[2,1,4,3],[2,3,1,4],[2,3,4,1],[2,4,1,3],[2,4,3,1],[3,1,2,4],[3,1,4,2],[3,2,1,4],[3,2,4,1],[3,4,1,2],[3,4,2,1],[4,1,2,3],[4,1,3,2],[4,2,1,3],[4,2,3,1],[4,3,1,2],[4,3,2,1]]:Os).getD i []
abbrev u4 (l:List<|am):List Os:=l.map λm=>m.map o4
abbrev t4 (l:List<|Nat×Nat):List ni:=l.map λp=>(o4 p.1,o4 p.2)
abbrev Lq4:List ni:=t4 [(0,1),(1,0),(0,2),(2,0),(1,3),(3,1),(2,3),(3,2),(1,4),(4,1),(2,4),(4,2),(3,5),(5,3),(4,5),(5,4),(0,6),(6,0),(1,7),(7,1),(6,7),(7,6),(2,8),(8,2),(6,8),(8,6),(3,9),(9,3),(7,9),(9,7),(8,9),(9,8),(4,10),(10,4),(7,10),(10,7),(8,10),(10,8),(5,11),(11,5),(9,11),(11,9),(10,11),(11,10),(2,12),(12,2),(6,12),(12,6),(3,13),(13,3),(7,13),(13,7),(12,13),(13,12),(8,14),(14,8),(12,14),(14,12),(9,15),(15,9),(13,15),(15,13),(14,15),(15,14),(2,16),(16,2),(5,16),(16,5),(10,16),(16,10),(13,16),(16,13),(14,16),(16,14),(11,17),(17,11),(15,17),(17,15),(16,17),(17,16),(4,18),(18,4),(7,18),(18,7),(12,18),(18,12),(5,19),(19,5),(13,19),(19,13),(18,19),(19,18),(10,20),(20,10),(14,20),(20,14),(18,20),(20,18),(7,21),(21,7),(11,21),(21,11),(15,21),(21,15),(19,21),(21,19),(20,21),(21,20),(16,22),(22,16),(19,22),(22,19),(20,22),(22,20),(17,23),(23,17),(21,23),(23,21),(22,23),(23,22)]
abbrev Xq4:List Os:=u4 [[1,2,6],[4,7],[3,12],[2,5,13],[1,5,18],[19],[7,8],[10],[6,9,14],[7,8,11,15],[7,11,20],[21],[2,13,14],[16],[15],[14,17],[5,13,14,17,22],[15,23],[4,7,19,20],[5,22],[21],[11,20,23],[19,23],[]]
abbrev Cq4:List Os:=u4 [[0,1,2,6,7,8,9,14,15,17,23,11,21,20,10,3,12,13,16,5,22,19,4,18],[1,4,7,10,11,20,21,23,5,18,19,22],[2,3,12,13,14,15,17,23,16,5,22,19],[3,2,5,13,16,14,17,22,19,23,15,12],[4,1,5,18,7,19,20,21,11,23,22,10],[5,19,22,23],[6,7,8,9,14,15,17,23,11,21,20,10],[7,10,11,20,21,23],[8,6,9,14,15,17,23,7,11,21,20,10],[9,7,8,11,15,14,17,23,21,20,6,10],[10,7,11,20,21,23],[11,21,20,23],[12,2,13,14,15,17,23,16,5,22,19,3],[13,16,5,14,17,22,19,23,15],[14,15,17,23],[15,14,17,23],[16,5,13,14,17,22,19,23,15],[17,15,23,14],[18,4,7,19,20,21,11,23,5,22,10,1],[19,5,22,23],[20,21,11,23],[21,11,20,23],[22,19,23,5],[23]]
abbrev Gq4:List Os:=u4 [[0],[1,4,18],[2,3,12],[5,19,22],[6,8,9],[7,10],[11,20,21],[13,16],[14,15,17],[23]]
def pm1:∀o∈ao 1,o.Perm (Fw.rg 1)/\Iv.inv o<8:=by decide +kernel
def nd1:(ao 1).Nodup:=by decide +kernel
def lq1:Ld (ao 1)=Lq1:=by decide +kernel
def nx1:∀o∈ao 1,nxl 1 Lq1 (ao 1) o=lz (ao 1) Xq1 o:=by decide +kernel
def rr1:∀o∈ao 1,rf (ao 1) (lz (ao 1) Xq1) 200 [o] [o]=some (lz (ao 1) Z_ o):=by decide +kernel
def sb1:∀o∈ao 1,(∀p∈lz (ao 1) Z_ o,p∈ao 1)/\(lz (ao 1) Z_ o).length<=63/\EA (lz (ao 1) Z_) o≠[]:=by decide +kernel
def gt1:We (ao 1) (lz (ao 1) Z_)=Gq1:=by decide +kernel
def on1:Okn 1 200 (ao 1) (lz (ao 1) Z_):=DQ ⋯ ⋯ pm1 nd1 ∅ lq1 nx1 rr1 sb1
def pm2:∀o∈ao 2,o.Perm (Fw.rg 2)/\Iv.inv o<8:=by decide +kernel
def nd2:(ao 2).Nodup:=by decide +kernel
def lq2:Ld (ao 2)=Lq2:=by decide +kernel
def nx2:∀o∈ao 2,nxl 2 Lq2 (ao 2) o=lz (ao 2) Xq2 o:=by decide +kernel
def rr2:∀o∈ao 2,rf (ao 2) (lz (ao 2) Xq2) 200 [o] [o]=some (lz (ao 2) Cq2 o):=by decide +kernel
def sb2:∀o∈ao 2,(∀p∈lz (ao 2) Cq2 o,p∈ao 2)/\(lz (ao 2) Cq2 o).length<=63/\EA (lz (ao 2) Cq2) o≠[]:=by decide +kernel
def gt2:We (ao 2) (lz (ao 2) Cq2)=Gq2:=by decide +kernel
def on2:Okn 2 200 (ao 2) (lz (ao 2) Cq2):=DQ ⋯ ⋯ pm2 nd2 ∅ lq2 nx2 rr2 sb2
def pm3:∀o∈ao 3,o.Perm (Fw.rg 3)/\Iv.inv o<8:=by decide +kernel
def nd3:(ao 3).Nodup:=by decide +kernel
def lq3:Ld (ao 3)=Lq3:=by decide +kernel
def nx3:∀o∈ao 3,nxl 3 Lq3 (ao 3) o=lz (ao 3) Xq3 o:=by decide +kernel
def rr3:∀o∈ao 3,rf (ao 3) (lz (ao 3) Xq3) 200 [o] [o]=some (lz (ao 3) Cq3 o):=by decide +kernel
def sb3:∀o∈ao 3,(∀p∈lz (ao 3) Cq3 o,p∈ao 3)/\(lz (ao 3) Cq3 o).length<=63/\EA (lz (ao 3) Cq3) o≠[]:=by decide +kernel
def gt3:We (ao 3) (lz (ao 3) Cq3)=Gq3:=by decide +kernel
def on3:Okn 3 200 (ao 3) (lz (ao 3) Cq3):=DQ ⋯ ⋯ pm3 nd3 ∅ lq3 nx3 rr3 sb3
def pm4:∀o∈ao 4,o.Perm (Fw.rg 4)/\Iv.inv o<8:=by decide +kernel
def nd4:(ao 4).Nodup:=by decide +kernel
def lq4:Ld (ao 4)=Lq4:=by decide +kernel
def nx4:∀o∈ao 4,nxl 4 Lq4 (ao 4) o=lz (ao 4) Xq4 o:=by decide +kernel
def rr4:∀o∈ao 4,rf (ao 4) (lz (ao 4) Xq4) 200 [o] [o]=some (lz (ao 4) Cq4 o):=by decide +kernel
def sb4:∀o∈ao 4,(∀p∈lz (ao 4) Cq4 o,p∈ao 4)/\(lz (ao 4) Cq4 o).length<=63/\EA (lz (ao 4) Cq4) o≠[]:=by decide +kernel
def gt4:We (ao 4) (lz (ao 4) Cq4)=Gq4:=by decide +kernel
def on4:Okn 4 200 (ao 4) (lz (ao 4) Cq4):=DQ ⋯ ⋯ pm4 nd4 ∅ lq4 nx4 rr4 sb4
end K67
namespace K67
open PySem L2 Am
def Gs{xs:ag}{n:Nat}(px:xs.Perm<|l8 1<|(n:Int)+1):xs.length=n:=by have:=RN px ();lia
def GU{xs:ag}{n:Int}(px:xs.Perm<|l8 1<|n+1):xs.Nodup:=px.nodup_iff.mpr<|rG _ _
def Vt{xs:ag}{n:Nat}(px:xs.Perm<|l8 1<|(n:Int)+1)(h2:n<=1000):∃(ys:ag) (S':jV),xy [.tup<|xs.map .int] S=.ok (.tup<|ys.map .int) S'/\Bl.CI xs ys/\ys.Perm (l8 1<|(n:Int)+1)/\lG S S':=by
 have K:=Gs px;unfold xy G5 HA;dsimp[kJ,bools,m8,Nat.reduceAdd,Nat.reduceSub,aH,K];rw[abu (k:=n) kc ()];dsimp[kJ,bools];have f:(S++[O.lst [.int 0]]).length=S.length+1:=by simp
 rw[f];refine QE (xs:=xs.map .int) (S1:=S++[O.lst [.int 0]]++[O.lst<|List.replicate n<|.int 0]) (Sl<|by dsimp[kJ,bools])
  (λt τ S'=>∃(C B:A) (ps:ag),τ=[.tup<|xs.map .int,.ref<|S.length+1,C,B]/\jT S' (S.length+1)=some (ps.map .int)/\ps.length=n/\(∀(p:Nat) (h:p<xs.length),p<t->ps[(xs[p]-1).toNat]?=some ((p:Int)+1))/\lG S S')
  (λr=>∃(ys:ag) (S':jV),RS.end (RS.seq r _)=.ok (.tup<|ys.map .int) S'/\Bl.CI xs ys/\ys.Perm (l8 1<|(n:Int)+1)/\lG S S') ⟨.unb,.unb,List.replicate n 0,rfl,?_,by simp,λ_ _ h=>absurd h<|eB _,Kp.refl.lay.lay⟩ ?_ ?_
 ·rw[List.map_replicate,<- f];exact kc
 ·rintro t x τ S' D ⟨C,B,ps,rfl,j,F,d,q⟩;rw[aR]at D;obtain⟨v,hv,rfl⟩:=aP.mp D;obtain⟨M,ev⟩:=aJ.mp hv;have mv:=EH px<|aZ hv;refine⟨_,_,by dsimp[kJ,bools,oO<|show([_,_]:ae).length=2 from rfl];rfl,.inl ?_⟩;have G:EB ps.length (v-1)=some (v-1).toNat:=yJ () ();have L:=mh j;unfold Fe;dsimp[kJ,bools,j,aH,G];refine⟨_,_,rfl,_,_,ps.set (v-1).toNat<|(t:Int)+1,rfl,?_,by rw[bX];exact F,λp g J=>?_,q.set<|.inr ()⟩
  ·rw[qc L,jJ]
  ·by_cases e:p=t
   ·subst e;rw[ev,bA ()]
   ·have ne:(xs[p]-1).toNat≠(v-1).toNat:=λz=>by
     have mp:=EH px<|di g;have:xs[p]=xs[t]:=by rw[ev];lia
     exact e<|(cG<|GU px).mp this
    rw[bJ<|cO ne];exact d p g ()
 ·rintro τ S' ⟨C,B,ps,rfl,j,F,d,q⟩;rw[aH]at d;refine⟨ps,S',by dsimp[kJ,bools,j],⟨(),λp h=>d p h h⟩,?_,q⟩;refine(zb (rG _ _) (λv hv=>?_)<|by rw[tD];lia).symm;have:=qh.mp hv;have g:(v-1).toNat<xs.length:=()
  have:=aZ (d (v-1).toNat g g)
  rwa [show(((v-1).toNat:Nat):Int)+1=v by lia]at this
theorem FD{s:Src}{e:Ex}(P:Nat->ae->jV->Prop)(step:∀i acc T,i<s.k->P i acc T->∃x y T2,s.get i T=some x/\e (x::l7 cap τ) T=.ok y T2/\P (i+1) (acc++[y]) T2)(hfin:∀acc T,P s.k acc T->s.fin T=true) :
  ∀k i τ' T acc,k+i=s.k->(∃y,τ'=y::l7 cap τ)->P i acc T->∃zs S',nP s (kG 0) nM e k i τ' T=.ok zs S'/\P s.k (acc++zs) S'/\zs.length=k
 | 0,i,τ',T,acc,hk,_,hP=>by
  have:i=s.k:=()
  subst this;exact⟨[],T,by unfold nP;rw[aW<|hfin _ _ hP],by rw[cu];exact hP,rfl⟩
 | k+1,i,τ',T,acc,hk,hy,hP=>by
  obtain⟨d,rfl⟩:=hy;obtain⟨x,y,T2,e1,e2,p2⟩:=step i acc T () hP;obtain⟨zs,S',h1,h2,h3⟩:=FD P step hfin k (i+1) (x::l7 cap τ) T2 (acc++[y]) () ⟨x,rfl⟩ p2;refine⟨y::zs,S',?_,by rw[cQ]at h2;exact h2,by rw[bB,h3]⟩;unfold nP;rw[e1,j_];rw[YU,R.kX,show nM ((d::l7 cap τ).set 0 x) T=.ok true T from rfl,R.kX];show((e (x::l7 cap τ) T).nV _)=_;rw[e2,R.kX];show(nP s (kG 0) nM e k (i+1) (x::l7 cap τ) T2).nV _=_;rw[h1,R.kX]
def EJ{n:Nat}{xs:ae}{src:Ic}{e:Ex}(hs:src τ S=.ok (l_ n xs.length) S1)(P:Nat->ae->jV->Prop)(hx:∀i acc T,P i acc T->jT T n=some xs)(p0:P 0 [] S1)
  (step:∀(i:Nat) (x:A) acc T,xs[i]?=some x->P i acc T->∃y T2,e (x::l7 cap τ) T=.ok y T2/\P (i+1) (acc++[y]) T2) (hl:xs.length<=16777216) :
  ∃ys S',kL (none::cap) src (kG 0) nM e τ S=.ok (.ref S'.length) (S'++[.lst ys])/\P xs.length ys S'/\ys.length=xs.length:=by
 obtain⟨zs,S',h1,h2,h3⟩:=FD (s:=l_ n xs.length) (cap:=cap) (e:=e) (τ:=τ) P (λi acc T d hP=>by
  have d:i<xs.length:=d;obtain⟨y,T2,e1,p1⟩:=step i xs[i] acc T (aI d) hP;refine⟨xs[i],y,T2,?_,e1,p1⟩;show(jT T n).bind _=_;rw[hx _ _ _ hP];exact aI d) (λacc T hP=>by
  show(match jT T n with
   | some ys=>decide (ys.length<=xs.length)
   | none=>false)=true
  rw[hx _ _ _ hP];exact bf<|aN _) xs.length 0 (l7 (none::cap) τ) S1 [] rfl ⟨_,rfl⟩ p0
 rw[List.nil_append]at h2;refine⟨zs,S',?_,h2,h3⟩;unfold kL;rw[hs,R.ny];show(nP _ _ _ _ xs.length 0 _ S1).nV _=_;rw[h1,R.kX];exact mW ()
abbrev MS (g:Os):Os:=kQ<|g.map He.bk
abbrev sO (g:Os):ag:=g.headD []
abbrev Zm (gs:List Os):List Os:=(Sd<|gs.map λg=>sO<|MS g).map λi=>(gs.map MS).getD i []
def bko{o:ag}{n:Nat}(p:o.Perm<|Fw.rg n)(hn:n<=20):∃S',xy [tq o] S=.ok (tq<|He.bk o) S'/\lG S S':=by
 have lo:o.length=n:=by rw[p.length_eq,Wd.mG]
 obtain⟨ys,S',e,b,d,k⟩:=Vt (S:=S) (xs:=o) (n:=n) p ();have:ys=He.bk o:=He.Mw ⟨p,d,b⟩<|He.Qe p;rw[this]at e;exact⟨S',e,k⟩
def wb1{F:ae->jV->Am.R A}{S:jV}{n:Nat}{g:Os}(hF:∀{S:jV}{o:ag},o.Perm (Fw.rg n)->∃S',F [tq o] S=.ok (tq<|He.bk o) S'/\lG S S')(h:jT S m=some (g.map tq))(hp:∀o∈g,o.Perm<|Fw.rg n)(h1:1<=n)(lg:g.length<=63) :
  ∃R S',kj (f1 sX) (jS (kL [none] (lJ<|jR 0) (kG 0) nM<|eFn F<|jS (jR 0) j0) j0) [.ref m] S=.ok (.ref R) S'/\jT S' R=some ((MS g).map tq)/\S.length<=R/\lG S S':=by
 obtain⟨S1,k,C⟩:=zK (cap:=[]) (t:=nM) (e:=eFn F<|jS (jR 0) j0) (τ:=[.ref m]) (S:=S) (S1:=S) (src:=lJ<|jR 0) (xs:=g.map tq) (mF (by dsimp[kJ,mH,bools]) h) h (λ_=>true) (λx=>tq<|He.bk<|un x) (λx p T G=>⟨T,rfl,Kp.refl,λ_=>by
  obtain⟨o,j,rfl⟩:=bq.mp p;obtain⟨T2,e2,f⟩:=hF (S:=T)<|hp o j;refine⟨T2,?_,f⟩;show eFn F (jS (jR 0) j0) [tq o] T=_;rw[Cz];dsimp[kJ,mH,bools,uq,e2]⟩)<|by rw[aH];lia
 have el:(((g.map tq).filter λ_=>true).map λx=>tq<|He.bk<|un x)=(g.map He.bk).map tq:=by
  rw[eL.mpr λ_ _=>rfl,aY,aY];refine bO λo _=>?_;show tq (He.bk<|un<|tq o)=tq (He.bk o);rw[Cz]
 rw[el]at k;obtain⟨S2,d⟩:∃S2,S2=S1++[O.lst<|(g.map He.bk).map tq]:=⟨_,rfl⟩;rw[<- d]at k;have D:jT S2 S1.length=some ((g.map He.bk).map tq):=by rw[d];exact kc
 have f:lG S S2:=by rw[d];exact C.lay
 have B:=Ke D (λl q=>by
  obtain⟨o,j,rfl⟩:=bq.mp q;intro z;have:=cV List.length z;rw[(He.Qe<|hp o j).lu]at this;have:n=0:=this
  lia)<|by rw[aH];lia
 refine⟨S2.length,S2++[O.lst<|(kQ<|g.map He.bk).map tq],?_,kc,f.len,f.lay⟩;dsimp[kJ,mH,bools,↓k,B]
theorem PK:∀{hs:List<|Os×Nat},(∀h∈hs,jT S h.2=some (h.1.map tq))->(∀h∈hs,h.1≠[])->YM S (hs.map λh=>.ref h.2)=some (hs.map λh=>sO h.1)
 | [],_,_=>rfl
 | h::hs,h1,h2=>by
  have e:=h1 h<|aL ..;have ne:=h2 h<|aL ..;have j:=PK (S:=S) (hs:=hs) (λz d=>h1 z<|aO _ d) λz d=>h2 z<|aO _ d;show((fsH<|jT S h.2).bind λks=>(YM S<|hs.map λh=>.ref h.2).map λg=>ks::g)=_;rw[e,j];obtain⟨f,q⟩:=h
  cases f with
  | nil=>exact absurd rfl ne
  | cons o f=>
   show((A.ints<|o.map .int).bind λks=>some (ks::_))=_;rw[ints_map];rfl
def Q6{S:jV}{L:Nat}{hs:List<|Os×Nat}(h1:∀h∈hs,jT S h.2=some (h.1.map tq)/\L<h.2)(h2:∀h∈hs,h.1≠[])(nd:(hs.map λh=>sO h.1).Nodup)(hl:hs.length<64) :
  ∃S',Mr (hs.map λh=>.ref h.2) S=.ok (.ref S.length) S'/\Hs S' S.length L ((Sd<|hs.map λh=>sO h.1).map λi=>(hs.map (·.1)).getD i [])/\lG S S':=by
 have r:=PK (λh f=>(h1 h f).1) h2;have a:=Vh r nd (by rw[aH];exact hl);have lt:∀i∈Sd (hs.map λh=>sO h.1),i<hs.length:=λi d=>by
  have:=cy.mp ((wc _ _).mem_iff.mp d)
  rwa [aH]at this
 refine⟨_,a,⟨(Sd<|hs.map λh=>sO h.1).map λi=>hs.getD i ([],0),?_,?_,?_⟩,Kp.refl.lay⟩
 ·rw[kc,aY];congr 1;refine bO λi d=>?_;have:=lt i d;show(hs.map λh=>A.ref h.2).getD i .non=.ref (hs.getD i ([],0)).2;rw[aK,aR,aK,aI this];rfl
 ·rw[aY];refine bO λi d=>?_;have:=lt i d;show(hs.getD i ([],0)).1=(hs.map (·.1)).getD i [];rw[aK,aK,aR,aI this];rfl
 ·intro h f;obtain⟨i,d,rfl⟩:=bq.mp f;have:=lt i d;have g:hs.getD i ([],0)∈hs:=by rw[aK,aI this];exact di this
  exact⟨k_ (h1 _ g).1,(h1 _ g).2⟩
def OZ{S:jV}{L:Nat}{hs:List<|Os×Nat}(h0:jT S m=some (hs.map λh=>.ref h.2))(h1:∀h∈hs,jT S h.2=some (h.1.map tq)/\L<h.2)(h2:∀h∈hs,h.1≠[])(nd:(hs.map λh=>sO h.1).Nodup)(hl:hs.length<64) :
  ∃S',yP (.ref m) S=.ok (.ref S.length) S'/\Hs S' S.length L ((Sd<|hs.map λh=>sO h.1).map λi=>(hs.map (·.1)).getD i [])/\lG S S':=by
 obtain⟨S',a,b,c⟩:=Q6 h1 h2 nd hl;exact⟨S',(by show opt (jT S m) _=_;rw[h0,j_];exact a),b,c⟩
def wbG{F:ae->jV->Am.R A}{S:jV}{src:Ic}{r L n:Nat}{gs:List Os}(hF:∀{S:jV}{o:ag},o.Perm (Fw.rg n)->∃S',F [tq o] S=.ok (tq<|He.bk o) S'/\lG S S')(h:Hs S r L gs)(hsr:src τ S0=.ok (l_ r gs.length) S)(hp:∀g∈gs,(∀o∈g,o.Perm<|Fw.rg n)/\g.length<=63/\MS g≠[])(h1:1<=n)(lg:gs.length<=63)(nd:(gs.map λg=>sO<|MS g).Nodup) :
  ∃R S',kj (f1 yP) (jS (kL [none] src (kG 0) nM<|kj (f1 sX)<|jS (kL [none] (lJ<|jR 0) (kG 0) nM<|eFn F<|jS (jR 0) j0) j0) j0) τ S0=.ok (.ref R) S'/\Hs S' R (S.length-1) (Zm gs)/\S.length<=R/\lG S S':=by
 obtain⟨hs,G,B,V⟩:=h.ex;have lr:=mh G;have J:hs.length=gs.length:=by rw[<- B,aH]
 obtain⟨ys,S1,M,⟨bs,b1,d,p,U⟩,ly⟩:=EJ (cap:=[]) (e:=kj (f1 sX)<|jS (kL [none] (lJ<|jR 0) (kG 0) nM<|eFn F<|jS (jR 0) j0) j0) (τ:=τ) (S:=S0) (S1:=S) (src:=src) (xs:=hs.map λh=>.ref h.2) (by rw[aH,J];exact hsr)
  (λi acc T=>∃bs:List<|Os×Nat,acc=bs.map (λh=>.ref h.2)/\bs.map (·.1)=(gs.take i).map MS/\(∀h∈bs,jT T h.2=some (h.1.map tq)/\S.length-1<h.2)/\lG S T) (λi acc T z=>by
   obtain⟨_,_,_,_,k⟩:=z;exact k.lst _ _ (λz=>z) G) ⟨[],rfl,rfl,(nofun),Kp.refl⟩ (λi x acc T D z=>by
   obtain⟨bs,rfl,d,p,k⟩:=z;rw[aR]at D;obtain⟨q,hq,rfl⟩:=aP.mp D;have K:=aZ hq;have Z:=k.lst _ _ (λz=>z) (V q K).1;have mg:q.1∈gs:=by rw[<- B];exact cL K
   have hg:gs[i]?=some q.1:=by rw[<- B,aR,hq];rfl
   obtain⟨R,T2,e2,C,r2,j⟩:=wb1 hF Z (hp _ mg).1 h1 (hp _ mg).2.1;have P:=k.len;refine⟨.ref R,T2,e2,bs++[(MS q.1,R)],by rw[bE];rfl,?_,λz hz=>?_,k.trans j⟩
   ·rw[bE,d,b7,hg,bE];rfl
   ·rcases bH.mp hz with w|w
    ·exact⟨j.lst _ _ (λz=>z) (p z w).1,(p z w).2⟩
    ·rw[aS.mp w];exact⟨C,by show S.length-1<R;lia⟩) (by rw[aH];lia)
 rw[aH,J,cg]at d;obtain⟨S2,f⟩:∃S2,S2=S1++[O.lst ys]:=⟨_,rfl⟩;rw[<- f]at M;have j:lG S1 S2:=by rw[f];kcj_m
 have C:jT S2 S1.length=some (bs.map λh=>.ref h.2):=by rw[f,<- b1];exact kc
 have N:(bs.map λh=>sO h.1)=gs.map λg=>sO (MS g):=by
  rw[show(bs.map λh=>sO h.1)=(bs.map (·.1)).map sO from by rw[aY];rfl,d,aY];rfl
 obtain⟨S3,W,h3,Y⟩:=OZ (L:=S.length-1) C (λh t=>⟨j.lst _ _ (λz=>z) (p h t).1,(p h t).2⟩) (λh t=>by
  have:h.1∈gs.map MS:=by rw[<- d];exact cL t
  obtain⟨g,hg,e⟩:=bq.mp this;rw[<- e];exact(hp g hg).2.2) (by rw[N];exact nd) (by have:=cV List.length d;rw[aH,aH]at this;lia)
 rw[N,d]at h3;have P:=(U.trans j).len;refine⟨S2.length,S3,?_,h3,P,(U.trans j).trans Y⟩;dsimp[kJ,mH,bools,↓M,W]
def Zo{S:jV}{r L n:Nat}{gs:List Os}(h:Hs S r L gs)(hp:∀g∈gs,(∀o∈g,o.Perm<|Fw.rg n)/\g.length<=63/\MS g≠[])(h1:1<=n)(hn:n<=20)(lg:gs.length<=63)(nd:(gs.map λg=>sO<|MS g).Nodup) :
  ∃R S',pH [.ref r] S=.ok (.ref R) S'/\Hs S' R (S.length-1) (Zm gs)/\S.length<=R/\lG S S':=by
 obtain⟨hs,k,j,_⟩:=h.ex;have f:(hs.map λh=>A.ref h.2).length=gs.length:=by rw[aH,<- j,aH]
 obtain⟨R,S',e,b,c,d⟩:=wbG (F:=xy) (τ:=[.ref r]) (S0:=S) (src:=lJ<|jR 0) (λp=>bko p hn) h (by rw[<- f];exact mF (by dsimp[kJ,mH,bools]) k) hp h1 lg nd;refine⟨R,S',?_,b,c,d⟩;unfold pH t9 uC;dsimp[kJ,mH,bools,m8,Nat.reduceAdd,Nat.reduceSub,↓e]
end K67
namespace Stp
open PySem L2 Iv
abbrev mm (a:ag)(i j:Nat):ag:=(a.drop<|i+1).take<|j-i-1
abbrev btw (x y m:Int):Bool:=decide (x<m) && decide (m<y)
abbrev isS (a:ag)(i j:Nat):Bool:=!(mm a i j).any λm=>btw (if a.getD j 0<a.getD i 0 then a.getD j 0 else a.getD i 0) (if a.getD j 0>a.getD i 0 then a.getD j 0 else a.getD i 0) m
end Stp
namespace Eu
open PySem L2 Bl
open Wd (ex)
open Fw (rg Nn)
abbrev al (n:Nat):List (ag):=(List.range<|Nu.pM n).map<|Nu.Uw n<|rg n
abbrev sg (z:ag):Int:=if Iv.inv z % 2=1 then -1 else 1
open Classical in
abbrev sm (n:Nat)(P:ag->Prop):Int:=((al n).map λz=>if P z then sg z else 0).sum
end Eu
namespace Eu
open PySem L2 Bl Am
open Fw (rg)
structure Done (n:Nat)(u w:ag)(es:List (ag×Bool)):Prop where
 nd:(es.map (·.1)).Nodup
 pm:∀e∈es,e.1.Perm (rg n)
 up:∀e∈es,Below u e.1
 fl:∀e∈es,(e.2=true ↔ Below e.1 w)
 st:u∈es.map (·.1)
 cl:∀e∈es,e.2=true->∀i j,i<j->j<n->e.1.getD i 0<e.1.getD j 0->Stp.isS e.1 i j=true->Iv.sw e.1 i j∈es.map (·.1)
abbrev ext (n:Nat)(p:ag):List (ag):=((rg n).filter λt=>decide<|t∉p).map λt=>p++[t]
abbrev inj (n:Nat):Nat->List (ag)
 | 0=>[[]]
 | k+1=>(inj n k).flatMap<|ext n
theorem Eh{n:Nat}:∀{k:Nat}{p:ag},p∈inj n k ↔ p.length=k/\p.Nodup/\∀t∈p,t∈rg n
 | 0,p=>by
  unfold inj;rw[aS];constructor
  ·rintro rfl;simp
  ·rintro⟨h,_⟩;exact fG.mp h
 | k+1,p=>by
  unfold inj;rw[gA];constructor
  ·rintro⟨q,hq,f⟩;obtain⟨t,g,rfl⟩:=bq.mp f;obtain⟨h1,h2⟩:=cj.mp g;obtain⟨a,b,c⟩:=Eh.mp hq;have h2:t∉q:=bV h2;refine⟨by simp[a],?_,λx d=>?_⟩
   ·rw[b_];refine⟨b,by simp,λx d y hy z=>h2 ?_⟩;have:y=t:=by simpa using hy
    rw[<- this,<- z];exact d
   ·rcases bH.mp d with z|z
    ·exact c x z
    ·have:x=t:=by simpa using z
     rw[this];exact h1
  ·rintro⟨h1,h2,h3⟩
   rcases List.eq_nil_or_concat p with c|⟨q,t,c⟩
   ·rw[c]at h1;simp at h1
   ·rw[List.concat_eq_append]at c;subst c;rw[b_]at h2;refine⟨q,Eh.mpr ⟨by simpa using h1,h2.1,λx d=>h3 x<|iS _ d⟩,bq.mpr ⟨t,cj.mpr ⟨h3 t<|by simp,bf λz=>h2.2.2 t z t (by simp) rfl⟩,rfl⟩⟩
theorem Iu{n:Nat}:∀(k:Nat),(inj n k).length<=n ^ k
 | 0=>aN _
 | k+1=>by
  have:∀(l:List<|ag),(l.flatMap<|ext n).length<=l.length * n:=λl=>by
   induction l with
   | nil=>exact bF _
   | cons p l d=>
    rw[f9,bh,bB,add_mul,fK];have:(ext n p).length<=n:=by
     unfold ext;rw[aH];exact bK (c8 _ _)<|by rw[Wd.mG];exact aN _
    lia
  unfold inj;exact bK (this _)<|by rw[Nat.pow_succ];exact iY _<|Iu k
end Eu
namespace K67
open PySem L2 Am
open Bl
open Fw (rg)
open Eu (inj ext)
meta abbrev Ey (w:ag):A:=.tup<|w.map .int
def YH{S:jV}{n:Nat}{xs ys:ae}(h1:jT S n=some xs)(h2:jT S m=some ys)(h3:xs.length+ys.length<=16777216):Ea (.ref n) [.ref m] S=.ok .non (S.set n<|.lst<|xs++ys):=by
 show opt (jT S n) _=_;rw[h1];show opt (jT S m) _=_;rw[h2];exact D5 h3
theorem CD{f:A->A->bi}:∀{L:ae},(∀x∈L,f x x=some true)->tR f L L=some true
 | [],_=>rfl
 | x::L,h=>by
  show(f x x).bind (λp=>(tR f L L).map λq=>p && q)=_;rw[h x<|aL ..,CD λy hy=>h y<|aO _ hy];rfl
def Xb{xs ys:ag}(h:xs.length+ys.length<=16777216):nB (.tup<|xs.map .int) (.tup<|ys.map .int) S=.ok (.tup<|(xs++ys).map .int) S:=by
 skip
 rw[bE];exact D5<|by rw[aH,aH];exact h
def aaN{n k:Nat}(h:n<=6)(hk:k<=n):n ^ k<=46656:=bK (Nat.pow_le_pow_left h k)<|bK (Nat.pow_le_pow_right ⋯ (show k<=6 by lia)) ⋯
theorem AX{n:Nat}(h:n<=6):∀(l:List<|ag),(l.flatMap<|ext n).length<=l.length * 6
 | []=>bF _
 | p::l=>by
  rw[f9,bh,bB,add_mul,fK];have:(ext n p).length<=n:=by
   unfold ext;rw[aH];exact bK (c8 _ _)<|by rw[Wd.mG];exact aN _
  have:=AX h l
  lia
def Ua{S:jV}{n:Nat}(h6:n<=6):∃(V:Nat) (S':jV),tU [.int n] S=.ok (.ref V) S'/\jT S' V=some ((inj n n).map Ey)/\lG S S'/\S.length<=V:=by
 unfold tU yZ yp;dsimp[kJ,bools,m8,Nat.reduceAdd,Nat.reduceSub,oO<|show 0<=sizeLine from bF _];refine IE (lo:=0) (hi:=(n:Int)) (S1:=S++[O.lst [.tup []]]) (show za _ _=_ from AZ (by dsimp[kJ,bools])<|rJ () ())
  (λi τ T=>∃(F:Nat) (M L J:A),τ=[.int n,.ref F,M,L,J]/\jT T F=some ((inj n i).map Ey)/\lG S T/\S.length<=F)
  (λr=>∃(V:Nat) (S':jV),RS.end (RS.seq r _)=.ok (.ref V) S'/\jT S' V=some ((inj n n).map Ey)/\lG S S'/\S.length<=V) ⟨S.length,_,_,_,rfl,kc,Kp.refl.lay,aN _⟩ ?_ ?_
 ·rintro i τ T hi ⟨F,M,L,J,rfl,D,kp,G⟩;left;have lF:=mh D;have W:=kp.len;have hin:i<n:=()
  have il:=Eu.Iu (n:=n) i;have pw:=aaN h6 (show i<=n by lia);unfold zg;dsimp[kJ,bools];have B:jT (T++[O.lst []]) F=some ((inj n i).map Ey):=k_ D;obtain⟨q,U,ef,hW,kU⟩:=o9 (n:=F) (xs:=(inj n i).map Ey) (S1:=T++[O.lst []]) (g:=kG 4) (c:=vC) (τ:=[.int n,.ref F,.int<|0+(i:Int),.ref T.length,J]) (S:=T++[O.lst []]) (show zc _ _=_ from mF (by dsimp[kJ,bools]) B)
   (λj τ d=>(∃q,τ=[.int n,.ref F,.int<|0+(i:Int),.ref T.length,q])/\jT d F=some ((inj n i).map Ey)/\jT d T.length=some ((((inj n i).take j).flatMap<|ext n).map Ey)/\lG S d)
   (λr=>∃(q:A) (U:jV),r=.nx [.int n,.ref F,.int<|0+(i:Int),.ref T.length,q] U/\jT U T.length=some ((inj n<|i+1).map Ey)/\lG S U) ⟨⟨_,rfl⟩,B,kc,kp.lay⟩ (λj τ d hh=>hh.2.1) (by
    rintro j z τ d Z ⟨⟨q,rfl⟩,C,f,k⟩;rw[aR]at Z;obtain⟨p,P,rfl⟩:=aP.mp Z;have K:=(Eu.Eh.mp<|aZ P).1;refine⟨[.int n,.ref F,.int<|0+(i:Int),.ref T.length,Ey p],d,rfl,.inl ?_⟩;have Y:=yj (lo:=1) (hi:=(n:Int)+1) (cap:=[some 4]) (src:=uU (eC<|.int 1)<|j6 nB (jR 0)<|eC<|.int 1) (t:=sG<|j6 (LN true) (jR 0)<|jR 1) (e:=j6 nB (jR 1)<|pK<|jS (jR 0)<|j0) (τ:=[.int n,.ref F,.int<|0+(i:Int),.ref T.length,Ey p]) (S:=d) (S1:=d)
     (xJ (S1:=d) (by dsimp[kJ,bools]) (by dsimp[kJ,bools]) (rJ () ())<|rJ () ())
     (λt=>decide<|t∉p) (λt=>Ey<|p++[t]) (λt _ _=>by
      have e:LN true (.int t) (Ey p) d=.ok (.bl<|decide<|t∉p) d:=by
       show opt (inA d (.int t)<|p.map .int) _=_;rw[xH,j_];by_cases c:t∈p
       ·rw[bf c,bz λz=>z c];rfl
       ·rw[bz c,bf c];rfl
      dsimp[kJ,bools,e]) (λt _ _ _=>by
      have e:nB (Ey p) (.tup [.int t]) d=.ok (Ey<|p++[t]) d:=Xb (ys:=[t]) (by rw[K];show _+1<=_;lia);dsimp[kJ,bools,pG<|show([_]:ae).length<=16777216 by simp,e]) ()
    have ee:(((l8 1<|(n:Int)+1).filter λt=>decide<|t∉p).map λt=>Ey<|p++[t])=(ext n p).map Ey:=by unfold ext;rw[aY];rfl
    rw[ee]at Y;have ht:(inj n i).take (j+1)=(inj n i).take j++[p]:=by
     obtain⟨hj,e⟩:=aJ.mp P;rw[List.take_succ_eq_append_getElem hj,e]
    have fl1:=AX h6<|(inj n i).take j;have N:=AX h6 [p];rw[f9,jA,cu]at N;have htl:((inj n i).take j).length<=46656:=by rw[b9];lia
    have x1:=YH (S:=d++[.lst<|(ext n p).map Ey]) (k_ f) kc (by
     rw[aH,aH];have:[p].length=1:=rfl
     lia)
    have lW:=mh f;unfold vC;dsimp[kJ,bools,f,Y,x1];refine⟨_,_,rfl,⟨_,rfl⟩,?_,?_,k.lay.set<|.inr W⟩
    ·rw[nF ()];exact k_ C
    ·rw[qc<|by rw[bh];exact bQ lW<|jD _ _,ht,gE,bE,f9,jA,cu]) (by
    rintro τ d ⟨⟨q,rfl⟩,C,f,k⟩;rw[aH,cg]at f;exact⟨q,d,rfl,f,k⟩)
  rw[ef];dsimp[kJ,bools];exact⟨_,_,rfl,T.length,_,_,_,rfl,hW,kU,W⟩
 ·rintro τ T ⟨F,M,L,J,rfl,D,kp,G⟩;rw[show((n:Int)-0).toNat=n by lia]at D;dsimp[kJ,bools];exact⟨F,T,rfl,D,kp,G⟩
end K67
namespace K67
open PySem L2 Am
abbrev G2 (r:ag)(x:Int):ag:=(l8 0 (r.length:Int)).filter λk=>decide<|r.getD k.toNat 0>x
meta abbrev AN:=List<|ag
abbrev tw (k:Int):Nat->AN->AN->Int->Nat->Option (AN×AN)
 | 0,_,_,_,_=>none
 | f+1,T0,Q0,x,p=>
  let T:=if p=T0.length then T0++[[]]else T0
  let Q:=if p=T0.length then Q0++[[]]else Q0
  if p<T.length/\p<Q.length/\T.length<=10/\Q.length<=10/\(T.getD p []).length<=10/\(Q.getD p []).length<=10 then
   match G2 (T.getD p []) x with
   | []=>some (T.set p<|T.getD p []++[x],Q.set p<|Q.getD p []++[k+1])
   | s::_=>tw k f (T.set p<|(T.getD p []).set s.toNat x) Q ((T.getD p []).getD s.toNat 0)<|p+1
  else none
structure Tw (B:Nat)(S:jV)(n m:Nat)(rs qs:am)(T Q:AN):Prop where
 t:Tab S n rs T
 q:Tab S m qs Q
 dj:∀r∈n::rs,r∉m::qs
 ge:∀r,r∈n::rs\/r∈m::qs->B<=r
def Tw.wu{B n:Nat}(h:Tw B S n m rs qs T Q)(k:lG S S'):Tw B S' n m rs qs T Q:=⟨h.t.wu k,h.q.wu k,h.dj,h.ge⟩
def Tw.abQ{B n i r:Nat}{S:jV}{T:AN}{ys:ag}(h:Tw B S n m rs qs T Q)(hi:rs[i]?=some r):Tw B (S.set r<|.lst<|ys.map .int) n m rs qs (T.set i ys) Q/\Kp (λr=>B<=r) S (S.set r<|.lst<|ys.map .int):=by
 have d:r∈n::rs:=aO _<|aZ hi;refine⟨⟨h.t.set hi,h.q.kp (show Kp (·=r) S _ from Kp.refl.qi<|.inl rfl) λa ha z=>h.dj r d<|z ▸ ha,h.dj,h.ge⟩,Kp.refl.qi<|.inl<|h.ge r<|.inl d⟩
def Tw.adD{B n i r:Nat}{S:jV}{Q:AN}{ys:ag}(h:Tw B S n m rs qs T Q)(hi:qs[i]?=some r):Tw B (S.set r<|.lst<|ys.map .int) n m rs qs T (Q.set i ys)/\Kp (λr=>B<=r) S (S.set r<|.lst<|ys.map .int):=by
 have d:r∈m::qs:=aO _<|aZ hi;refine⟨⟨h.t.kp (show Kp (·=r) S _ from Kp.refl.qi<|.inl rfl) λa ha z=>h.dj a ha<|z ▸ d,h.q.set hi,h.dj,h.ge⟩,Kp.refl.qi<|.inl<|h.ge r<|.inr d⟩
def Tw.Wn{B n:Nat}{S:jV}(h:Tw B S n m rs qs T Q):Tw B ((S++[O.lst []]).set n<|.lst<|(rs++[S.length]).map .ref) n m (rs++[S.length]) qs (T++[[]]) Q/\Kp (λr=>B<=r) S ((S++[O.lst []]).set n<|.lst<|(rs++[S.length]).map .ref):=by
 have hn:=h.ge n<|.inl<|aL ..;have f:=h.t.lt n<|aL ..;have k:Kp (·=n) S ((S++[O.lst []]).set n<|.lst<|(rs++[S.length]).map .ref):=Kp.refl.lay.qi<|.inl rfl;refine⟨⟨h.t.push (ys:=[]),h.q.kp k λa ha z=>h.dj n (aL ..)<|z ▸ ha,λr d hq=>?_,λr d=>?_⟩,Kp.refl.lay.qi<|.inl hn⟩
 ·rcases bG.mp d with z|z
  ·exact h.dj r (by rw[z];exact aL ..) hq
  ·rcases bH.mp z with z|z
   ·exact h.dj r (aO _ z) hq
   ·have:=h.q.lt r hq;rw[aS.mp z]at this;exact fW _ this
 ·rcases d with d|d
  ·rcases bG.mp d with z|z
   ·rw[z];exact hn
   ·rcases bH.mp z with z|z
    ·exact h.ge r (.inl<|aO _ z)
    ·rw[aS.mp z];lia
  ·exact h.ge r<|.inr d
def Tw.sw{B n:Nat}(h:Tw B S n m rs qs T Q):Tw B S m n qs rs Q T:=⟨h.q,h.t,λr d hq=>h.dj r hq d,λr d=>h.ge r d.symm⟩
def Xu{B n p:Nat}{T Q:AN}{row:A}(h:Tw B S n m rs qs T Q)(lT:T.length<=10)(lQ:Q.length<=10) :
  ∃(rs' qs':am) (S':jV),yo (sG<|j6 (yc false) (jR 5)<|kj (f1 tP)<|jS (jR 1) j0) (ko (nA<|F8 mV (jR 1)<|jS (qJ j0) j0)<|nA<|F8 mV (jR 2)<|jS (qJ j0) j0) qR [row,.ref n,.ref m,x3,x4,.int p,x6] S=.nx [row,.ref n,.ref m,x3,x4,.int p,x6] S' /\
   Tw B S' n m rs' qs' (if p=T.length then T++[[]]else T) (if p=T.length then Q++[[]]else Q)/\Kp (λr=>B<=r) S S':=by
 have g:=h.t.top;have F:=h.t.len;have K:=h.q.len;by_cases c:p=T.length
 ·have k:((p:Int) == ((rs.length:Nat):Int))=true:=by rw[beq_iff_eq,F,c]
  obtain⟨h1,G⟩:=h.Wn;obtain⟨S1,d⟩:∃S1,S1=(S++[O.lst []]).set n (.lst<|(rs++[S.length]).map .ref):=⟨_,rfl⟩;rw[<- d]at h1 G;obtain⟨h2,J⟩:=h1.sw.Wn;refine⟨_,_,_,?_,by rw[aW c,aW c];exact h2.sw,G.trans J⟩;have f:∀T:jV,newL ([]:ae) T=.ok (.ref T.length) (T++[.lst []]):=λT=>pG (show 0<=16777216 by decide);have D:jT (S++[O.lst []]) n=some (rs.map .ref):=k_ g;have C:jT (S1++[O.lst []]) m=some (qs.map .ref):=k_ h1.q.top;have j:∀{T:jV} {a:Nat} {xs:ae},jT T a=some xs->(A.ref a).lst? T=some xs:=λz=>z;dsimp[kJ,mH,bools,g,aH,k,j g,f,D,pN<|show rs.length<16777216 by lia,pN<|show qs.length<16777216 by lia];rw[show(S++[O.lst []]).set n (.lst<|rs.map A.ref++[.ref S.length])=S1 by rw[d,bE];rfl];dsimp[kJ,mH,bools,h1.q.top,f,C,aH,pN<|show qs.length<16777216 by lia,bE];rfl
 ·have k:((p:Int) == ((rs.length:Nat):Int))=false:=by rw[c5,F];lia
  refine⟨rs,qs,S,?_,by rw[aV c,aV c];exact h,Kp.refl⟩;dsimp[kJ,mH,bools,g,aH,k]
end K67
namespace K67
open PySem L2 Am
def Tj{a:Nat}{xs:ae}(h:jT S a=some xs)(h':jT S b=some []):zd S 12 (.ref a) (.ref b)=some xs.isEmpty:=by
 show(jT S a).bind (λxs=>(jT S b).bind λys=>tR (zd S 11) xs ys)=_;rw[h,cN,h',cN]
 cases xs<;>rfl
def UC{B n p r q:Nat}{S:jV}{T Q:AN}{x k:Int}{row:A}(h:Tw B S n m rs qs T Q)(hr:rs[p]?=some r)(hq:qs[p]?=some q)(hR:(T.getD p []).length<=10)(hQ:(Q.getD p []).length<=10)(bS:B<=S.length) :
  ∃(y4:A) (p':Nat) (y6:A) (S':jV) (T' Q':AN),ko (kP (kL [none,some 4,some 1,some 5] (tH<|kj (f1 tP)<|jS (j6 pP (jR 1)<|jR 5) j0) (kG 0) (sG<|j6 MW (j6 pP (j6 pP (jR 2)<|jR 3)<|jR 0)<|jR 1)<|jR 0)<|kG 6)
 (yo (sG<|j6 (yc false) (jR 6)<|qJ j0)
 (ko (nA<|F8 mV (j6 pP (jR 1)<|jR 5)<|jS (jR 4) j0)
 (ko (nA<|F8 mV (j6 pP (jR 2)<|jR 5)<|jS (j6 nB (jR 3)<|eC<|.int 1) j0)
 (kP (eC .non)<|kG 4)))
 (ko (kP (pK<|jS (j6 pP (j6 pP (jR 1)<|jR 5)<|j6 pP (jR 6)<|eC<|.int 0)<|jS (jR 4) j0)<|Bv 2<|tB (kG 4)<|tB (Uu (j6 pP (jR 1)<|jR 5)<|j6 pP (jR 6)<|eC<|.int 0) Bw)
 (kP (j6 nB (jR 5)<|eC<|.int 1)<|kG 5))) [row,.ref n,.ref m,.int k,.int x,.int p,x6] S=.nx [row,.ref n,.ref m,.int k,y4,.int p',y6] S'/\Tw B S' n m rs qs T' Q'/\Kp (λr=>B<=r) S S' /\
   ((G2 (T.getD p []) x=[]/\y4=.non/\T'=T.set p (T.getD p []++[x])/\Q'=Q.set p (Q.getD p []++[k+1]))\/∃s t,G2 (T.getD p []) x=s::t/\y4=.int ((T.getD p []).getD s.toNat 0)/\p'=p+1/\T'=T.set p ((T.getD p []).set s.toNat x)/\Q'=Q):=by
 obtain⟨hp,d⟩:=h.t.rows.get hr;obtain⟨hpq,J⟩:=h.q.rows.get hq;have L:uZ (rs.map A.ref) (p:Int)=some (.ref r):=Av rfl (by rw[aR,hr];rfl);have a2:uZ (qs.map A.ref) (p:Int)=some (.ref q):=Av rfl (by rw[aR,hq];rfl);have Y:=h.t.top;have tq':=h.q.top;generalize hRR:T.getD p []=R at *
 generalize hQQ:Q.getD p []=U at *
 have M:=yj (lo:=0) (hi:=(R.length:Int)) (cap:=[some 4,some 1,some 5]) (t:=sG<|j6 MW (j6 pP (j6 pP (jR 2)<|jR 3)<|jR 0)<|jR 1) (e:=jR 0) (τ:=[row,.ref n,.ref m,.int k,.int x,.int p,x6]) (src:=tH<|kj (f1 tP)<|jS (j6 pP (jR 1)<|jR 5) j0) (S:=S) (S1:=S)
  (AZ (by dsimp[kJ,mH,bools,Y,L,d,aH])<|rJ () ()) (λk=>decide<|R.getD k.toNat 0>x) A.int
  (λk k0 Z=>by
   have:=Sj (r:=R) (i:=k) (k:=k.toNat) () ();show sG (j6 MW (j6 pP (j6 pP (jR 2)<|jR 3)<|jR 0)<|jR 1) [.int k,.int x,.ref n,.int p] S=_;dsimp[kJ,mH,bools,Y,L,d,this]) (λk _ _ _=>by
   show jR 0 (.int k::_) S=_;dsimp[kJ,mH]) ()
 obtain⟨S1,C⟩:∃S1,S1=S++[O.lst<|(G2 R x).map .int]:=⟨_,rfl⟩;have M:kL [none,some 4,some 1,some 5] (tH<|kj (f1 tP)<|jS (j6 pP (jR 1)<|jR 5) j0) (kG 0) (sG<|j6 MW (j6 pP (j6 pP (jR 2)<|jR 3)<|jR 0)<|jR 1) (jR 0) [row,.ref n,.ref m,.int k,.int x,.int p,x6] S=.ok (.ref S.length) S1:=by rw[C];exact M
 have Z:lG S S1:=by rw[C];kcj_m
 have g1:jT S1 S.length=some ((G2 R x).map .int):=by rw[C];exact kc
 obtain⟨S2,F⟩:∃S2,S2=S1++[O.lst []]:=⟨_,rfl⟩;have nl:newL ([]:ae) S1=.ok (.ref S1.length) S2:=by rw[F];exact pG (show 0<=16777216 by decide)
 have k2:lG S1 S2:=by rw[F];kcj_m
 have g2:jT S2 S1.length=some []:=by rw[F];exact kc
 have N:=k2.lst _ _ (λz=>z) g1;have g:=Qs<|Tj N g2;have f:=Z.trans k2;have h2:=h.wu f;have K:=h2.t.top;have W:=h2.q.top;have j:=f.lst _ _ (λz=>z) d;have D:=f.lst _ _ (λz=>z) J;have rq:r≠q:=λz=>h.dj r (aO _<|aZ hr) (by rw[z];exact aO _<|aZ hq);have rm:r≠m:=λz=>h.dj r (aO _<|aZ hr) (by rw[z];exact aL ..)
 cases hs:G2 R x with
 | nil=>
  rw[hs]at g;obtain⟨h3,V⟩:=h2.abQ (ys:=R++[x]) hr;obtain⟨h4,k4⟩:=h3.adD (ys:=U++[k+1]) hq;refine⟨.non,p,.ref S.length,_,_,_,?_,h4,(f.of0.trans V).trans k4,.inl ⟨rfl,rfl,rfl,rfl⟩⟩;have P:jT (S2.set r<|.lst<|R.map A.int++[.int x]) m=some (qs.map .ref):=nj (by rw[bJ rm];exact j8 W);have G:jT (S2.set r<|.lst<|R.map A.int++[.int x]) q=some (U.map .int):=nj (by rw[bJ rq];exact j8 D);have g:yc false (.ref S.length) (.ref S1.length) S2=.ok (.bl true) S2:=g;dsimp[kJ,mH,bools,↓M,nl,g,K,L,j,aH,pN<|show R.length<16777216 by lia,P,a2,G,pN<|show U.length<16777216 by lia,bE,bC,fN]
 | cons s t=>
  rw[hs]at g N;have ms:s∈G2 R x:=by rw[hs];exact aL ..
  have ms:=qh.mp (cj.mp ms).1;have g:yc false (.ref S.length) (.ref S1.length) S2=.ok (.bl false) S2:=g;rw[bC]at N;have e1:uZ (R.map A.int) s=some (.int<|R.getD s.toNat 0):=Sj (k:=s.toNat) () ();have e2:EB R.length s=some s.toNat:=yJ () ();obtain⟨h3,V⟩:=h2.abQ (ys:=R.set s.toNat x) hr;refine⟨.int<|R.getD s.toNat 0,p+1,.ref S.length,_,_,_,?_,h3,f.of0.trans V,.inr ⟨s,t,rfl,rfl,rfl,rfl,rfl⟩⟩;dsimp[kJ,mH,bools,↓M,nl,g,K,L,j,N,xK,e1,zh,aH,e2,jJ];rfl
end K67
namespace K67
open PySem L2 Am
def adg{x:Int}:HL true (.int x) .non S=.ok (.bl true) S:=rfl
def adE:HL true .non .non S=.ok (.bl false) S:=rfl
def Ln{t:Te}{c:Am.Sm}{N:Nat}(h:t τ S=.ok true S)(hb:c τ S=.nx τ' S'):lD t c (N+1) τ S=lD t c N τ' S':=by
 conv=>lhs;unfold lD
 rw[h];show(match c τ S with
  | .nx τ' S'=>lD t c N τ' S'
  | .ct τ' S'=>lD t c N τ' S'
  | .bk τ' S'=>.nx τ' S'
  | r=>r)=_
 rw[hb]
def TL{t:Te}{c:Am.Sm}{N:Nat}(h:t τ S=.ok false S):lD t c (N+1) τ S=.nx τ S:=by
 conv=>lhs;unfold lD
 rw[h];rfl
theorem RC{B n:Nat}{row:A}{k:Int}{res:AN×AN}:∀(f N:Nat) {S:jV}{rs qs:am}{T Q:AN}{x:Int}{p:Nat}{x6:A},f+1<=N->tw k f T Q x p=some res->Tw B S n m rs qs T Q->B<=S.length ->
  ∃(y4 y5 y6:A) (rs' qs':am) (S':jV),lD nH oU N [row,.ref n,.ref m,.int k,.int x,.int p,x6] S=.nx [row,.ref n,.ref m,.int k,y4,y5,y6] S'/\Tw B S' n m rs' qs' res.1 res.2/\Kp (λr=>B<=r) S S'
 | 0,_,_,_,_,_,_,_,_,_,_,h,_,_=>nomatch h
 | f+1,0,_,_,_,_,_,_,_,_,hN,_,_,_=>absurd hN (Nat.not_succ_le_zero _)
 | f+1,N+1,S,rs,qs,T,Q,x,p,x6,hN,h,hT,bS=>by
  obtain⟨D,d⟩:∃D,D=(if p=T.length then T++[[]]else T):=⟨_,rfl⟩;obtain⟨C,j⟩:∃C,C=(if p=T.length then Q++[[]]else Q):=⟨_,rfl⟩;unfold tw at h;dsimp only at h;rw[<- d,<- j]at h;by_cases g:p<D.length/\p<C.length/\D.length<=10/\C.length<=10/\(D.getD p []).length<=10/\(C.getD p []).length<=10
  case neg=>rw[aV g]at h;cases h
  rw[aW g]at h;obtain⟨g1,g2,L,J,g5,Z⟩:=g;have lT:T.length<=10:=by
   by_cases c:p=T.length
   ·rw[d,aW c,bh]at L;lia
   ·rw[d,aV c]at L;exact L
  have Y:Q.length<=10:=by
   by_cases c:p=T.length
   ·rw[j,aW c,bh]at J;lia
   ·rw[j,aV c]at J;exact J
  obtain⟨rs',qs',S1,x1,h1,G⟩:=Xu (p:=p) (x3:=.int k) (x4:=.int x) (x6:=x6) (row:=row) hT lT Y;rw[<- d,<- j]at h1;have l1:=h1.t.len;have l2:=h1.q.len;have O:=G.len;obtain⟨y4,V,y6,S2,T2,Q2,W,h2,K,cs⟩:=UC (x:=x) (k:=k) (row:=row) (x6:=x6) h1 (aI<|show p<rs'.length by lia) (aI<|show p<qs'.length by lia) g5 Z ();have U:=K.len;have hb:oU [row,.ref n,.ref m,.int k,.int x,.int p,x6] S=.nx [row,.ref n,.ref m,.int k,y4,.int V,y6] S2:=by
   unfold oU;dsimp[kJ,↓x1];exact W
  have t0:nH [row,.ref n,.ref m,.int k,.int x,.int p,x6] S=.ok true S:=by
   unfold nH;dsimp[kJ,mH,bools,adg]
  rcases cs with⟨c1,rfl,rfl,rfl⟩|⟨s,t,c1,rfl,rfl,rfl,rfl⟩
  ·rw[c1]at h
   cases h
   obtain⟨P,rfl⟩:∃P,N=P+1:=⟨N-1,()⟩;refine⟨.non,.int V,y6,rs',qs',S2,?_,h2,G.trans K⟩;rw[Ln t0 hb];exact TL (by
    unfold nH;dsimp[kJ,mH,bools,adE])
  ·rw[c1]at h;obtain⟨z4,z5,z6,F,M,S3,x3,h3,k3⟩:=RC f N (x6:=y6) () h h2 ();refine⟨z4,z5,z6,F,M,S3,?_,h3,(G.trans K).trans k3⟩;rw[Ln t0 hb];exact x3
abbrev CJ:Nat->ag->AN->AN->Option (AN×AN)
 | _,[],T,Q=>some (T,Q)
 | k,x::xs,T,Q=>match tw (k:Int) 20 T Q x 0 with
  | some r=>CJ (k+1) xs r.1 r.2
  | none=>none
theorem F4:∀(xs:ag) (k:Nat) (x:Int) (T Q:AN),CJ k (xs++[x]) T Q=(CJ k xs T Q).bind λr=>(tw ((k+xs.length:Nat):Int) 20 r.1 r.2 x 0).bind λr=>some (r.1,r.2)
 | [],k,x,T,Q=>by
  show(match tw (k:Int) 20 T Q x 0 with
   | some r=>CJ (k+1) [] r.1 r.2
   | none=>none)=_
  show _=(tw ((k+0:Nat):Int) 20 T Q x 0).bind _;rw[Nat.add_zero]
  cases tw (k:Int) 20 T Q x 0<;>rfl
 | y::xs,k,x,T,Q=>by
  show(match tw (k:Int) 20 T Q y 0 with
   | some r=>CJ (k+1) (xs++[x]) r.1 r.2
   | none=>none)=Option.bind (match tw (k:Int) 20 T Q y 0 with
   | some r=>CJ (k+1) xs r.1 r.2
   | none=>none) _
  cases tw (k:Int) 20 T Q y 0 with
  | none=>rfl
  | some r=>
   show CJ (k+1) (xs++[x]) r.1 r.2=(CJ (k+1) xs r.1 r.2).bind _;rw[F4 xs (k+1) x r.1 r.2,bB,show k+1+xs.length=k+(xs.length+1)by lia]
def Uh {xs ys:ag}{k:Nat}{T Q:AN}(h:CJ k (xs++ys) T Q≠none):CJ k xs T Q≠none:=by
 revert k T Q
 induction xs with
 | nil=>intro k T Q _ z;cases z
 | cons x xs d=>
  intro k T Q h z;revert h z;show(match tw (k:Int) 20 T Q x 0 with
   | some r=>CJ (k+1) (xs++ys) r.1 r.2
   | none=>none)≠none->(match tw (k:Int) 20 T Q x 0 with
   | some r=>CJ (k+1) xs r.1 r.2
   | none=>none)=none->False
  cases tw (k:Int) 20 T Q x 0 with
  | none=>exact λh _=>h rfl
  | some r=>exact λh z=>d h z
def XD{S:jV}{res:AN×AN}(h:CJ 0 o [] []=some res) :
  ∃(n m:Nat) (rs qs:am) (S':jV),nJ [tq o] S=.ok (.tup [.ref n,.ref m]) S'/\Tw S.length S' n m rs qs res.1 res.2/\lG S S':=by
 obtain⟨S1,g⟩:∃S1,S1=S++[O.lst []]:=⟨_,rfl⟩;have U:lG S S1:=by rw[g];kcj_m
 have W:jT S1 S.length=some []:=by rw[g];exact kc
 have n1:S1.length=S.length+1:=by rw[g,bh];rfl
 have D:newL ([]:ae) S=.ok (.ref S.length) S1:=by rw[g];exact pG (show 0<=16777216 by decide)
 obtain⟨S2,j⟩:∃S2,S2=S1++[O.lst []]:=⟨_,rfl⟩;have M:lG S1 S2:=by rw[j];kcj_m
 have l2:jT S2 S1.length=some []:=by rw[j];exact kc
 have G:newL ([]:ae) S1=.ok (.ref S1.length) S2:=by rw[j];exact pG (show 0<=16777216 by decide)
 have h0:Tw S.length S2 S.length S1.length [] [] [] []:=⟨Tab.nil<|M.lst _ _ (λz=>z) W,Tab.nil l2,(λr C hq=>by rw[aS.mp C]at hq;have:=aS.mp hq;lia),λr C=>by
  rcases C with z|z
  ·rw[aS.mp z];exact aN _
  ·rw[aS.mp z];lia⟩
 have t:∃(q k f d:A) (rs qs:am) (S':jV),mX rV (Bv 2<|tB (kG 3)<|tB (kG 4) Bw) rE [tq o,.ref S.length,.ref S1.length,.unb,.unb,.unb,.unb] S2=.nx [tq o,.ref S.length,.ref S1.length,q,k,f,d] S'/\Tw S.length S' S.length S1.length rs qs res.1 res.2/\Kp (λr=>S.length<=r) S2 S':=by
  refine QE (xs:=o.map .int) (S1:=S2) (show rV _ _=_ from Sl<|by dsimp[kJ,mH,uq];rfl)
   (λi τ T=>∃(q k f d:A) (rs qs:am) (r:AN×AN),τ=[tq o,.ref S.length,.ref S1.length,q,k,f,d]/\CJ 0 (o.take i) [] []=some r/\Tw S.length T S.length S1.length rs qs r.1 r.2/\Kp (λr=>S.length<=r) S2 T)
   (λZ=>∃(q k f d:A) (rs qs:am) (S':jV),Z=.nx [tq o,.ref S.length,.ref S1.length,q,k,f,d] S'/\Tw S.length S' S.length S1.length rs qs res.1 res.2/\Kp (λr=>S.length<=r) S2 S')
   ⟨_,_,_,_,[],[],([],[]),rfl,by rw[gr];rfl,h0,Kp.refl⟩ ?_ ?_
  ·rintro i z τ T N ⟨q,k,f,d,rs,qs,r,rfl,e,J,kp⟩;rw[aR]at N;obtain⟨x,L,rfl⟩:=aP.mp N;have P:=(aJ.mp L).1;have e1:o.take (i+1)=o.take i++[x]:=by rw[b7,L];rfl
   have ne:CJ 0 (o.take<|i+1) [] []≠none:=by
    refine Uh (ys:=o.drop<|i+1) ?_;rw[iK,h];exact λz=>nomatch z
   have e2:=F4 (o.take i) 0 x [] [];rw[e,b9,cz,Nat.min_eq_left<|dX P]at e2;have e2:CJ 0 (o.take i++[x]) [] []=(tw (i:Int) 20 r.1 r.2 x 0).bind λr=>some (r.1,r.2):=e2
   cases c:tw (i:Int) 20 r.1 r.2 x 0 with
   | none=>rw[c,<- e1]at e2;exact absurd e2 ne
   | some r2=>
    rw[c,<- e1]at e2;have len:=kp.len;have K:S2.length=S1.length+1:=by rw[j,bh];rfl
    obtain⟨z4,z5,z6,F,B,T1,x1,h1,q1⟩:=RC (row:=tq o) (p:=0) (x6:=d) 20 1000000 ⋯ c J ();refine⟨[tq o,.ref S.length,.ref S1.length,.int i,.int x,f,d],T,rfl,.inl ⟨[tq o,.ref S.length,.ref S1.length,.int i,z4,z5,z6],T1,?_,_,_,_,_,F,B,r2,rfl,e2,h1,kp.trans q1⟩⟩;unfold rE;dsimp[kJ,mH,bools];exact x1
  ·rintro τ T ⟨q,k,f,d,rs,qs,r,rfl,e,J,kp⟩;rw[aH,cg,h]at e
   cases e
   exact⟨q,k,f,d,rs,qs,T,rfl,J,kp⟩
 obtain⟨q,k,f,d,rs,qs,S3,Y,h3,V⟩:=t;refine⟨S.length,S1.length,rs,qs,S3,?_,h3,(U.trans M).old V λn hn _ z=>()⟩;unfold nJ uN uM;dsimp[kJ,mH,bools,m8,Nat.reduceAdd,Nat.reduceSub,D,G,↓Y,zh,Qv]
end K67
namespace K67
open PySem L2 Am
def Xj{S:jV}{d:List<|Str×A}:se (S++[.uY d]) S.length=some d:=DT Be
def aaC{S:jV}{n:Nat}{d:List<|Str×A}(h:se S n=some d):n<S.length:=(aJ.mp<|sj h).1
def W4{S:jV}{n:Nat}{d:List<|Str×A}(h:n<S.length):se (S.set n<|.uY d) n=some d:=DT<|bA h
def _root_.Am.Kp.ds{b:Nat->Prop}(h:Kp b S S')(n:Nat)(d:List<|Str×A)(hb:¬b n)(e:se S n=some d):se S' n=some d:=DT<|h.obj n _ hb<|sj e
def WJ{n:Nat}{d:List<|Str×A}(h:se S n=some d)(h':jT S m=some xs):n≠m:=λz=>by
 subst z;have e1:=sj h;rw[j8 h']at e1
 cases e1
def OU{n:Nat}{k:Str}:CC (.ref n) [.str k,y] S=opt (se S n) λkvs=>.ok ((qN kvs k).getD y) S:=rfl
def Oa{n:Nat}{k:Str}{v:A}{S:jV}:A6 (.ref n) (.str k) v S=opt (se S n) λkvs=>gd (kvs.length<sizeLine) (.ok Unit.unit<|S.set n<|.uY<|sV kvs k v):=rfl
def Vc{f:A->ae->jV->Am.R A}{co:Ex}{d:q_}:ZA f co d τ S=(co τ S).bind λx S1=>opt (ds? x S1) λ_=>(d τ S1).bind λas S2=>f x as S2:=rfl
def Y7{n:Nat}:ds? (.ref n) S=(se S n).map λ_=>Unit.unit:=rfl
def Ti{co ci:Ex}{a:A}:Zp co ci a τ S=(co τ S).bind λo S1=>(ci τ S1).bind λi S2=>(A6 o i a S2).bind λ_ S3=>.ok τ S3:=rfl
meta abbrev Q3:=List<|Str×Nat×Os
meta abbrev D3:=List<|Str×Os
abbrev qk (q:Q3):List (Str×A):=q.map λe=>(e.1,.ref e.2.1)
abbrev OQ (q:Q3):D3:=q.map λe=>(e.1,e.2.2)
abbrev gO (D:D3)(k:Str):Os:=((D.find? λe=>decide<|e.1=k).map (·.2)).getD []
abbrev pO (D:D3)(k:Str)(os:Os):D3:=if (D.find? λe=>decide<|e.1=k).isSome=true then D.map (λe=>if e.1=k then(e.1,os)else e)else D++[(k,os)]
abbrev pQ (q:Q3)(k:Str)(r:Nat)(os:Os):Q3:=if (q.find? λe=>decide<|e.1=k).isSome=true then q.map (λe=>if e.1=k then(e.1,r,os)else e)else q++[(k,r,os)]
def V6(q:Q3)(k:Str):(OQ q).find? (λe=>decide<|e.1=k)=(q.find? λe=>decide<|e.1=k).map λe=>(e.1,e.2.2):=by
 unfold OQ;rw[fJ];rfl
def aa7(q:Q3)(k:Str):qN (qk q) k=(q.find? λe=>decide<|e.1=k).map λe=>.ref e.2.1:=by
 unfold qN qk;rw[fJ,dS];rfl
def acT(q:Q3)(k:Str)(r:Nat)(os:Os):OQ (pQ q k r os)=pO (OQ q) k os:=by
 unfold pQ pO;rw[V6,dB];split
 ·unfold OQ;rw[aY,aY];refine bO λe _=>?_;show(λe:Str×Nat×Os=>(e.1,e.2.2)) (if e.1=k then(e.1,r,os)else e)=if e.1=k then(e.1,os)else(e.1,e.2.2)
  split<;>rfl
 ·unfold OQ;rw[bE];rfl
def adH(q:Q3)(k:Str)(r:Nat)(os:Os):sV (qk q) k (.ref r)=qk (pQ q k r os):=by
 unfold pQ sV;rw[aa7,dB];split
 ·unfold qk;rw[aY,aY];refine bO λe _=>?_;show(if e.1=k then(e.1,A.ref r)else(e.1,A.ref e.2.1))=(λe:Str×Nat×Os=>(e.1,A.ref e.2.1)) (if e.1=k then(e.1,r,os)else e);split<;>rfl
 ·unfold qk;rw[bE];rfl
def X8{q:Q3}{k:Str}{r:Nat}{os:Os}{e:Str×Nat×Os}(h:e∈pQ q k r os):e∈q\/e=(k,r,os):=by
 unfold pQ at h;split at h
 ·obtain⟨f,d,rfl⟩:=bq.mp h;split
  ·rename_i c;exact .inr (by rw[c])
  ·exact .inl d
 ·exact(bH.mp h).imp id aS.mp
structure Dq (S:jV)(d B:Nat)(D:D3):Prop where
 ex:∃q:Q3,se S d=some (qk q)/\OQ q=D/\∀e∈q,jT S e.2.1=some (e.2.2.map tq)/\B<=e.2.1
def Dq.put{S:jV}{d B r:Nat}{D:D3}{k:Str}{o:ag}(h:Dq S d B D)(hD:D.length<=1000)(hs:(gO D k).length<=1000)(he:jT S r=some [])(hB:B<=S.length) :
  ∃(x:A) (T T':jV),CC (.ref d) [.str k,.ref r] S=.ok x S/\nB x (.ref S.length) (S++[O.lst [tq o]])=.ok (.ref<|S.length+1) T/\A6 (.ref d) (.str k) (.ref<|S.length+1) T=.ok Unit.unit T'/\Dq T' d B (pO D k<|gO D k++[o])/\Kp (·=d) S T':=by
 obtain⟨q,h1,h2,h3⟩:=h.ex;have K:q.length=D.length:=by rw[<- h2];unfold OQ;rw[aH]
 have g:∃n,(qN (qk q) k).getD (.ref r)=.ref n/\jT S n=some ((gO D k).map tq):=by
  have e0:gO D k=((q.find? λe=>decide<|e.1=k).map λe=>e.2.2).getD []:=by
   unfold gO;rw[<- h2,V6,dS];rfl
  rw[aa7,e0]
  cases c:q.find? λe=>decide (e.1=k)with
  | none=>exact⟨r,rfl,he⟩
  | some e=>exact⟨e.2.1,rfl,(h3 e<|cF c).1⟩
 obtain⟨n,J,G⟩:=g;have F:(S++[O.lst [tq o]]).length=S.length+1:=by rw[bh];rfl
 have p:=WG (k_ (o:=O.lst [tq o]) G) (kc (S:=S) (xs:=[tq o])) (by rw[aH];show _+1<=_;lia);rw[F]at p;obtain⟨T,C⟩:∃T,T=S++[O.lst [tq o]]++[O.lst<|(gO D k).map tq++[tq o]]:=⟨_,rfl⟩;have j:lG S T:=by rw[C];exact Kp.refl.lay.lay
 have lay:jT T (S.length+1)=some ((gO D k++[o]).map tq):=by rw[C,bE,<- F];exact kc
 have dT:=j.ds _ _ (λz=>z) h1;rw[<- C]at p;have f:Kp (·=d) T (T.set d<|.uY<|qk<|pQ q k (S.length+1)<|gO D k++[o]):=Kp.refl.qi<|.inl rfl;refine⟨.ref n,T,_,by rw[OU,h1,j_,J],p,?_,⟨pQ q k (S.length+1)<|gO D k++[o],W4<|aaC dT,by rw[acT,h2],λe t=>?_⟩,j.of0.trans f⟩
 ·rw[Oa,dT,j_,adH q k (S.length+1)<|gO D k++[o]];exact pN (by unfold qk;rw[aH];lia)
 ·rcases X8 t with z|z
  ·have a:=j.lst _ _ (λz=>z) (h3 e z).1;exact⟨f.lst _ _ (λw=>WJ dT a w.symm) a,(h3 e z).2⟩
  ·rw[z];exact⟨f.lst _ _ (λw=>WJ dT lay w.symm) lay,by show B<=S.length+1;lia⟩
def Dq.sort{S:jV}{d B:Nat}{D:D3}(h:Dq S d (B+1) D)(ne:∀e∈D,e.2≠[])(nd:(D.map λe=>sO e.2).Nodup)(hl:D.length<64) :
  ∃S',YG (.ref d) S=.ok (.ref S.length) S'/\Hs S' S.length B ((Sd<|D.map λe=>sO e.2).map λi=>(D.map (·.2)).getD i [])/\lG S S':=by
 obtain⟨q,h1,h2,h3⟩:=h.ex;have t:∀e∈q,(e.1,e.2.2)∈D:=λe g=>by rw[<- h2];exact cL (f:=λe:Str×Nat×Os=>(e.1,e.2.2)) g
 have e1:(D.map λe=>sO e.2)=(q.map λe=>(e.2.2,e.2.1)).map λh:Os×Nat=>sO h.1:=by rw[<- h2];unfold OQ;rw[aY,aY];rfl
 have e2:D.map (·.2)=(q.map λe=>(e.2.2,e.2.1)).map λh:Os×Nat=>h.1:=by rw[<- h2];unfold OQ;rw[aY,aY];rfl
 have e3:(qk q).map (·.2)=(q.map λe=>(e.2.2,e.2.1)).map λh:Os×Nat=>A.ref h.2:=by unfold qk;rw[aY,aY];rfl
 have F:q.length=D.length:=by rw[<- h2];unfold OQ;rw[aH]
 rw[e1]at nd;obtain⟨S1,p,j,C⟩:=Q6 (S:=S) (L:=B) (hs:=q.map λe=>(e.2.2,e.2.1)) (λh k=>by
  obtain⟨e,g,rfl⟩:=bq.mp k;exact⟨(h3 e g).1,by have:=(h3 e g).2;show B<e.2.1;lia⟩) (λh k=>by
  obtain⟨e,g,rfl⟩:=bq.mp k;exact ne (e.1,e.2.2)<|t e g) nd<|by rw[aH];lia
 rw[e1,e2];refine⟨S1,?_,j,C⟩;show opt (se S d) _=_;rw[h1,j_,e3];exact p
end K67
namespace K67
open PySem L2 Am
def Wi{n:Nat}(h:jT S n=some xs):yx (.ref n) (.ty "list") S=.ok (.bl true) S:=by
 show opt ((jT S n).map _) _=_;rw[h];rfl
def Lf{n k:Nat}(h:jT S n=some (List.replicate k<|.bl true)):G6 (.ref n) S=.ok (.bl true) S:=by
 show opt (jT S n) _=_;rw[h];have:A.HP (List.replicate k<|.bl true)=some (List.replicate k true):=by
  have:=OE (λ_:Nat=>true) (List.range k)
  rwa [jM,jM,bR]at this
 show opt (A.HP _) _=_;rw[this];show Am.R.ok (A.bl<|(List.replicate k true).all λb=>b) S=_;rw[show((List.replicate k true).all λb=>b)=true from dM.mpr λx d=>(List.mem_replicate.mp d).2]
theorem Fv{f:A->A->bi}:∀{as bs:List<|Os×Nat},as.map (·.1)=bs.map (·.1)->(∀a∈as,∀b∈bs,a.1=b.1->f (.ref a.2) (.ref b.2)=some true)->tR f (as.map λh=>.ref h.2) (bs.map λh=>.ref h.2)=some true
 | [],[],_,_=>rfl
 | a::as,b::bs,e,h=>by
  rw[bC,bC]at e
  injection e with e1 e2
  show(f (.ref a.2)<|.ref b.2).bind (λp=>(tR f (as.map λh=>.ref h.2)<|bs.map λh=>.ref h.2).map λq=>p && q)=_;rw[h a (aL ..) b (aL ..) e1,Fv e2 λx d y hy=>h x (aO _ d) y<|aO _ hy];rfl
def VS{r L:Nat}{G:List Os}(h:Hs S r L G)(h':Hs S s M G):zd S 12 (.ref r) (.ref s)=some true:=by
 obtain⟨as,f,j,g⟩:=h.ex;obtain⟨bs,q,k,p⟩:=h'.ex;show(jT S r).bind (λxs=>(jT S s).bind λys=>tR (zd S 11) xs ys)=_;rw[f,cN,q,cN];refine Fv (j.trans k.symm) λa ha b hb e=>?_;show(jT S a.2).bind (λxs=>(jT S b.2).bind λys=>tR (zd S 10) xs ys)=_;rw[(g a ha).1,cN,(p b hb).1,cN,e];refine CD λx d=>?_;obtain⟨l,_,rfl⟩:=bq.mp d;show tR (zd S 9) (l.map .int) (l.map .int)=_;rw[yI,bf rfl]
def Hs.kp{r L:Nat}{G:List Os}(h:Hs S r L G)(k:lG S S'):Hs S' r L G:=by
 obtain⟨hs,h1,h2,h3⟩:=h.ex;exact⟨hs,k.lst _ _ (λz=>z) h1,h2,λz d=>⟨k.lst _ _ (λz=>z) (h3 z d).1,(h3 z d).2⟩⟩
def JF{r L:Nat}{G:List Os}{c:Ex}(h:Hs S r L G)(hl:G.length<=1000)(h0:jR 0 τ S=.ok (.ref r) S)(step:∀(g:Os) (a:Nat) (T:jV),g∈G->jT T a=some (g.map tq)->∃T2,c [.ref a] T=.ok (.bl true) T2/\lG T T2) :
  ∃S',kj (f1 G6) (jS (kL [none] (lJ<|jR 0) (kG 0) nM c) j0) τ S=.ok (.bl true) S'/\lG S S':=by
 obtain⟨hs,h1,h2,h3⟩:=h.ex;have C:hs.length=G.length:=by rw[<- h2,aH]
 obtain⟨ys,S1,p,⟨j,t⟩,_⟩:=EJ (cap:=[]) (e:=c) (τ:=τ) (S:=S) (S1:=S) (src:=lJ<|jR 0) (xs:=hs.map λh=>.ref h.2) (mF h0 h1)
  (λi acc T=>acc=List.replicate i (.bl true)/\lG S T) (λi acc T z=>z.2.lst _ _ (λz=>z) h1) ⟨rfl,Kp.refl⟩ (λi x acc T d z=>by
   obtain⟨rfl,k⟩:=z;rw[aR]at d;obtain⟨q,hq,rfl⟩:=aP.mp d;have f:=aZ hq;obtain⟨T2,e2,B⟩:=step q.1 q.2 T (by rw[<- h2];exact cL f)<|k.lst _ _ (λz=>z) (h3 q f).1;exact⟨.bl true,T2,e2,List.replicate_succ'.symm,k.trans B⟩) (by rw[aH];lia)
 subst j;have al:=Lf (S:=S1++[O.lst<|List.replicate (hs.map λh=>A.ref h.2).length<|.bl true]) kc;refine⟨S1++[O.lst<|List.replicate (hs.map λh=>A.ref h.2).length<|.bl true],?_,t.lay⟩;dsimp[kJ,mH,bools,↓p,al]
def WL{r L:Nat}{G:List Os}(h:Hs S r L G)(h':Hs S s M G)(hl:G.length<=1000)(hg:∀g∈G,g.length<=1000):∃S',kY [.ref r,.ref s] S=.ok (.bl true) S'/\lG S S':=by
 obtain⟨S1,B,d⟩:=JF (c:=kj (f2 yx)<|jS (jR 0)<|jS (eC<|.ty "list") j0) (τ:=[.ref r,.ref s]) h hl (by dsimp[kJ,mH,bools]) λg a T hg f=>⟨T,by dsimp[kJ,mH,bools,Wi f],Kp.refl⟩;have ne:yc true (.ref r) (.ref s) S1=.ok (.bl false) S1:=Zh<|VS (h.kp d)<|h'.kp d;obtain⟨S2,q,C⟩:=JF (S:=S1) (c:=kj (f1 G6)<|jS (kL [none] (lJ<|jR 0) (kG 0) nM<|kj (f2 yx)<|jS (jR 0)<|jS (eC<|.ty "tuple") j0) j0) (τ:=[.ref r,.ref s]) (h.kp d) hl (by dsimp[kJ,mH,bools]) λg a T j f=>by
  obtain⟨T1,k,D⟩:=zK (cap:=[]) (t:=nM) (e:=kj (f2 yx)<|jS (jR 0)<|jS (eC<|.ty "tuple") j0) (τ:=[.ref a]) (S:=T) (S1:=T) (src:=lJ<|jR 0) (xs:=g.map tq) (mF (by dsimp[kJ,mH,bools]) f) f (λ_=>true) (λ_=>.bl true) (λx p U J=>⟨U,rfl,Kp.refl,λ_=>by
   obtain⟨o,F,rfl⟩:=bq.mp p;refine⟨U,?_,Kp.refl⟩;show kj (f2 yx) (jS (jR 0)<|jS (eC<|.ty "tuple") j0) [tq o] U=_;dsimp[kJ,mH,bools,uq,show yx (tq o) (.ty "tuple") U=.ok (.bl true) U from rfl]⟩) (by rw[aH];have:=hg g j;lia)
  rw[eL.mpr λ_ _=>rfl,jM,aH]at k;have al:=Lf (S:=T1++[O.lst<|List.replicate g.length<|.bl true]) kc;exact⟨T1++[O.lst<|List.replicate g.length<|.bl true],by dsimp[kJ,mH,bools,↓k,al],D.lay⟩
 obtain⟨hs,h1,_,_⟩:=h.ex;refine⟨S2,?_,d.trans C⟩;unfold kY pR pZ;dsimp[kJ,mH,bools,m8,Nat.reduceAdd,Nat.reduceSub,Wi h1,bY,↓B,ne,↓q]
end K67
namespace K67
open PySem L2 Am
def Ri{xs:ag}{v:Int}(h:v∈xs):∃k,xs.findIdx? (· == v)=some k/\xs[k]?=some v:=by
 cases e:xs.findIdx? (· == v)with
 | none=>
  rw[List.findIdx?_eq_none_iff]at e;have:=e v h;simp at this
 | some k=>
  rw[gT]at e;obtain⟨d,h1,_⟩:=e;refine⟨k,rfl,?_⟩;rw[aI d];simpa using h1
def RH{xs:ag}{n:Nat}(px:xs.Perm<|Fw.rg n)(hn:n<=20):∃(S':jV),oH [tq xs] S=.ok (tq<|He.bk xs) S'/\lG S S':=by
 have q:xs.length=n:=by rw[px.length_eq,Wd.mG]
 have p:xs.Perm (l8 1<|(xs.length:Int)+1):=by rw[q];exact px
 have F:xs.length<=1000:=()
 have d:∀v:Int,1<=v->v<(xs.length:Int)+1->v∈xs:=λv h1 h2=>p.mem_iff.mpr<|qh.mpr ⟨h1,h2⟩;have hs:uU (eC<|.int 1) (j6 nB (kj (f1 tP)<|jS (jR 0)<|j0)<|eC<|.int 1) [.tup<|xs.map .int] S=.ok (sJ 1<|(xs.length:Int)+1) S:=
  xJ (S1:=S) (by dsimp[kJ,bools]) (by dsimp[kJ,bools,aH]) (rJ () ()) (rJ () ())
 have f:(xs.map A.int).all A.flat=true:=by rw[jH];exact dM.mpr λ_ _=>rfl
 have D:∀v:Int,1<=v->v<(xs.length:Int)+1->true=true->j6 nB (VE (jR 1)<|jS (jR 0)<|j0) (eC<|.int 1) (.int v::l7 [some 0] [.tup<|xs.map .int]) S=.ok (A.int<|(((xs.findIdx? (· == v)).getD 0:Nat):Int)+1) S:=λv h1 h2 _=>by
  obtain⟨k,e,_⟩:=Ri<|d v h1 h2;have e2:(xs.map A.int).findIdx? (λz=>eqF z<|.int v)=some k:=by
   rw[List.findIdx?_map];exact e
  have e3:A.seq S (.tup<|xs.map .int)=some (xs.map .int):=rfl;unfold j6 VE Xn;dsimp[kJ,bools,e3,e2,oO<|show A.flat (.int v)=true/\(xs.map A.int).all A.flat=true from⟨rfl,f⟩,e,dh]
 have g:=yj (cap:=[some 0]) (t:=nM) hs (λ_=>true) (λv=>A.int<|(((xs.findIdx? (· == v)).getD 0:Nat):Int)+1) (λ_ _ _=>rfl) D ();rw[eL.mpr λ_ _=>rfl]at g;have el:jT (S++[O.lst<|(l8 1<|(xs.length:Int)+1).map λv=>A.int<|(((xs.findIdx? (· == v)).getD 0:Nat):Int)+1]) S.length=some _:=kc;have C:((l8 1<|(xs.length:Int)+1).map λv=>A.int<|(((xs.findIdx? (· == v)).getD 0:Nat):Int)+1)=(He.bk xs).map A.int:=by
  unfold He.bk l8;rw[aY,aY,show((xs.length:Int)+1-1).toNat=xs.length by lia];refine bO λi j=>?_;have j:=cy.mp j;show A.int ((((xs.findIdx? (· == (1+(i:Int)))).getD 0:Nat):Int)+1)=A.int (((xs.idxOf ((i:Int)+1):Nat):Int)+1);obtain⟨k,e,_⟩:=Ri<|d (1+i) () ();rw[e,dh];have B:xs.findIdx (· == ((i:Int)+1))=k:=by
   have:=(List.findIdx?_eq_some_iff_findIdx_eq.mp e).2
   rwa [Int.add_comm]at this
  unfold List.idxOf;rw[B]
 rw[C]at g el;refine⟨S++[O.lst<|(He.bk xs).map A.int],?_,Kp.refl.lay⟩;unfold oH xB w9;show lY _ _ [.tup<|xs.map .int] S=.ok (.tup<|(He.bk xs).map .int) _;dsimp[kJ,bools,m8,Nat.reduceAdd,Nat.reduceSub,g,el]
open Eu (inj)
abbrev dat (T:List<|ag):PyData:=.list<|T.map λr=>.list<|r.map .int
abbrev Wx (o:ag):List (ag):=((CJ 0 o [] []).map (·.2)).getD []
abbrev Yo (o:ag):Str:=(dat<|Wx o).shown
theorem zX{n:Nat}:∀(r:ag),sH (qO S<|n+1) (r.map .int)=some (r.map .int)
 | []=>rfl
 | x::r=>by
  show(qO S (n+1)<|.int x).bind (λd=>(sH (qO S<|n+1)<|r.map .int).map λds=>d::ds)=_;rw[zX r];rfl
theorem Ak{n:Nat}:∀{rs:am}{T:List<|ag},Rows S rs T->sH (qO S<|n+2) (rs.map .ref)=some (T.map λr=>.list<|r.map .int)
 | [],[],_=>rfl
 | r::rs,x::T,h=>by
  show(qO S (n+2)<|.ref r).bind (λd=>(sH (qO S<|n+2)<|rs.map .ref).map λds=>d::ds)=_;rw[Ak h.2,show qO S (n+2) (.ref r)=some (.list<|x.map .int)from by
   show(jT S r).bind _=_;rw[h.1,cN];show(sH (qO S<|n+1)<|x.map .int).map _=_;rw[zX];rfl]
  rfl
 | [],_::_,h=>h.elim
 | _::_,[],h=>h.elim
def Vp(h:(CJ 0 o [] []).isSome=true)(hl:(dat<|Wx o).showable=true/\uX (dat<|Wx o)<=16777216) :
  ∃S',kj (f1 GB) (jS (j6 pP (eFn nJ<|jS (jR 2) j0)<|eC<|.int 1) j0) [x0,x1,tq o,x3] S=.ok (.str<|Yo o) S'/\lG S S':=by
 obtain⟨d,f⟩:=dF.mp h;obtain⟨n,m,t,k,S1,e1,tw,p⟩:=XD (S:=S) f;have es:Wx o=d.2:=by unfold Wx;rw[f];rfl
 have j:qO S1 9 (.ref m)=some (dat<|Wx o):=by
  show(jT S1 m).bind _=_;rw[tw.q.top,cN];show(sH (qO S1 8)<|k.map .ref).map _=_;rw[Ak (n:=6) tw.q.rows,es];rfl
 have g:GB (.ref m) S1=.ok (.str<|Yo o) S1:=by
  unfold GB;rw[j,abC rfl];exact D5 hl
 exact⟨S1,by dsimp[kJ,mH,bools,uq,e1,Jt,g],p⟩
abbrev du (n i:Nat):D3:=((inj n n).take i).foldl (λD o=>pO D (Yo o)<|gO D (Yo o)++[o]) []
structure Okd (n:Nat):Prop where
 hl:(inj n n).length<=24
 tw:∀o∈inj n n,(CJ 0 o [] []).isSome=true/\(dat<|Wx o).showable=true/\uX (dat<|Wx o)<=16777216
 ln:∀i,i<25->(du n i).length<64/\∀e∈du n i,e.2.length<=63
 nd:((du n (inj n n).length).map λe=>sO e.2).Nodup
 ne:∀e∈du n (inj n n).length,e.2≠[]
abbrev dus (n:Nat):List Os:=(Sd<|(du n (inj n n).length).map λe=>sO e.2).map λi=>((du n (inj n n).length).map (·.2)).getD i []
def YO{D:D3}{k:Str}(h:∀e∈D,e.2.length<=b):(gO D k).length<=b:=by
 unfold gO
 cases c:D.find? λe=>decide (e.1=k)with
 | none=>exact bF _
 | some e=>exact h e<|cF c
def Dq.wu{d B:Nat}{D:D3}(h:Dq S d B D)(k:lG S S'):Dq S' d B D:=by
 obtain⟨q,h1,h2,h3⟩:=h.ex;exact⟨q,k.ds _ _ (λz=>z) h1,h2,λe f=>⟨k.lst _ _ (λz=>z) (h3 e f).1,(h3 e f).2⟩⟩
def X6{S:jV}{n:Nat}(h6:n<=6)(ok:Okd n):∃(R:Nat) (S':jV),qZ [.int n] S=.ok (.ref R) S'/\Hs S' R S.length (dus n)/\S.length<=R/\lG S S':=by
 obtain⟨S1,g⟩:∃S1,S1=S++[O.uY []]:=⟨_,rfl⟩;have M:lG S S1:=by rw[g];kcj_m
 have d1:se S1 S.length=some []:=by rw[g];exact Xj
 have n1:S1.length=S.length+1:=by rw[g,bh];rfl
 have nd1:Hh [.int n,.unb,.unb,.unb] S=.ok (.ref S.length) S1:=by rw[g];rfl
 obtain⟨V,S2,x2,U,C,v2⟩:=Ua (S:=S1) (n:=n) h6;have hl:=ok.hl;have p:∃(j d:A) (S':jV),mX vB (kG 2) vh [.int n,.ref S.length,.unb,.unb] S1=.nx [.int n,.ref S.length,j,d] S'/\Dq S' S.length (S.length+1) (du n (inj n n).length)/\Kp (·=S.length) S2 S':=by
  refine o9 (n:=V) (xs:=(inj n n).map Ey) (S:=S1) (S1:=S2) (show vB _ _=_ from mF (by dsimp[kJ,mH,bools,x2]) U)
   (λi τ T=>∃(j d:A),τ=[.int n,.ref S.length,j,d]/\Dq T S.length (S.length+1) (du n i)/\Kp (·=S.length) S2 T)
   (λZ=>∃(j d:A) (S':jV),Z=.nx [.int n,.ref S.length,j,d] S'/\Dq S' S.length (S.length+1) (du n (inj n n).length)/\Kp (·=S.length) S2 S')
   ⟨_,_,rfl,⟨[],C.ds _ _ (λz=>z) d1,rfl,nofun⟩,Kp.refl⟩ (λi τ T z=>?_) ?_ ?_
  ·obtain⟨_,_,_,_,k⟩:=z;exact k.lst _ _ () U
  ·rintro i z τ T W ⟨j,d,rfl,t,B⟩;rw[aR]at W;obtain⟨o,G,rfl⟩:=aP.mp W;have hi:=(aJ.mp G).1;have mo:=aZ G;obtain⟨t1,t2⟩:=ok.tw o mo;obtain⟨T1,e1,D⟩:=Vp (S:=T) (o:=o) (x0:=.int n) (x1:=.ref S.length) (x3:=d) t1 t2;obtain⟨T2,f⟩:∃T2,T2=T1++[O.lst []]:=⟨_,rfl⟩;have J:lG T1 T2:=by rw[f];kcj_m
   have m2:jT T2 T1.length=some []:=by rw[f];exact kc
   have K:newL ([]:ae) T1=.ok (.ref T1.length) T2:=by rw[f];exact pG (show 0<=16777216 by decide)
   have F:newL [tq o] T2=.ok (.ref T2.length) (T2++[O.lst [tq o]]):=pG (show 1<=16777216 by decide);have ln:=ok.ln i ();have kl:=B.len;have k2l:=C.len;have L:=(D.trans J).len;obtain⟨x,T4,T5,g1,g2,g3,P,g5⟩:=(t.wu<|D.trans J).put (r:=T1.length) (k:=Yo o) (o:=o) () (by have:=YO (k:=Yo o) ln.2;lia) m2 ();have dq:ds? (.ref S.length) T1=some Unit.unit:=by
    obtain⟨q,a1,_,_⟩:=(t.wu D).ex;rw[Y7,a1];rfl
   refine⟨[.int n,.ref S.length,tq o,d],T,rfl,.inl ⟨[.int n,.ref S.length,tq o,.str<|Yo o],T5,?_,_,_,rfl,?_,(B.trans (D.trans J).of0).trans g5⟩⟩
   ·unfold vh;dsimp[kJ,mH,bools,uq,↓e1,Vc,dq,K,<- f,g1,F,g2,Ti,g3]
   ·unfold du at P ⊢;rw[b7,G,eg];exact P
  ·rintro τ T ⟨j,d,rfl,t,B⟩;rw[aH]at t;exact⟨j,d,T,rfl,t,B⟩
 obtain⟨j,d,S3,x3,h3,N⟩:=p;obtain⟨S4,x4,Y,k4⟩:=h3.sort ok.ne ok.nd (ok.ln _ ()).1;have k12:=(M.trans C).len;have k3l:=N.len;refine⟨S3.length,S4,?_,Y,(),((M.trans C).old N λm hm _ z=>()).trans k4⟩;unfold qZ yF yD;dsimp[kJ,mH,bools,m8,Nat.reduceAdd,Nat.reduceSub,nd1,↓x3,VA,x4]
end K67
namespace K67
open PySem L2 Am
structure Ok67 (n:Nat)(G W:List Os):Prop where
 n6:n<=6
 n1:1<=n
 dk:Okd n
 du:dus n=W
 bl:W.length<=1000/\(∀g∈W,g.length<=1000)/\W≠[]/\∀g∈W,g≠[]
 wb:Zm G=W
 pm:∀g∈G,(∀o∈g,o.Perm<|Fw.rg n)/\g.length<=63/\MS g≠[]
 nd:(G.map λg=>sO<|MS g).Nodup
 ln:G.length<=63
 rh:∀S:jV,∃(r:Nat) (S':jV),kR [.int n] S=.ok (.ref r) S'/\Hs S' r r G/\S.length<=r/\lG S S'
def lft{S:jV}{n:Nat}{G:List Os}(ok:Ok67 n G W):∃(r L:Nat) (S':jV),lO [.int n] S=.ok (.ref r) S'/\Hs S' r L W/\S.length<=L+1/\S.length<=r/\lG S S':=by
 obtain⟨r,S1,f,h1,k,d⟩:=ok.rh S;obtain⟨R,S2,j,h2,p,g⟩:=Zo h1 ok.pm ok.n1 (by have:=ok.n6;lia) ok.ln ok.nd;rw[ok.wb]at h2;have:=d.len;refine⟨R,_,S2,?_,h2,(),(),d.trans g⟩;unfold lO rS rT;dsimp[kJ,mH,bools,m8,Nat.reduceAdd,Nat.reduceSub,f,j]
def Hs.old{S:jV}{r L:Nat}{G:List Os}{c:Nat->Prop}(h:Hs S r L G)(k:Kp c S S')(hc:∀m,c m->S.length<=m):Hs S' r L G:=by
 obtain⟨hs,h1,h2,h3⟩:=h.ex;refine⟨hs,k.lst _ _ (λz=>by have:=hc _ z;have:=mh h1;lia) h1,h2,λz d=>⟨k.lst _ _ (λw=>by have:=hc _ w;have:=mh (h3 z d).1;lia) (h3 z d).1,(h3 z d).2⟩⟩
def Yt{n:Nat}{G:List Os}(ok:Ok67 n G W):∃S',RS.end (ko (kP (eFn qZ<|jS (jR 1) j0)<|kG 2)
 (ko (kP (eFn lO<|jS (jR 1) j0)<|kG 3)
 (ko (yo (BC<|rO<|eFn kY<|jS (jR 3)<|jS (jR 2) j0)
 (mw<|eC<|.bl false)
 qR)
 (ko (nA<|F8 mV (j6 pP (jR 3)<|eC<|.int 0)<|jS (pK j0) j0)
 (ko (nA<|Qn xY<|jR 3)
 (ko (yo (BC<|rO<|eFn kY<|jS (eFn lO<|jS (jR 1) j0)<|jS (jR 2) j0)
 (mw<|eC<|.bl false)
 qR)
 (mw<|j6 (yc false) (kj (f1 yP)<|jS (kL [none] (lJ<|eFn kR<|jS (jR 1) j0) (kG 0) nM<|kj (f1 sX)<|jS (kL [none] (lJ<|jR 0) (kG 0) nM<|eFn oH<|jS (jR 0) j0) j0) j0)<|jR 2)))))) [x0,.int n,.unb,.unb] S)=.ok (.bl true) S':=by
 obtain⟨R,S1,e1,h1,r1,k1⟩:=X6 (S:=S) ok.n6 ok.dk;rw[ok.du]at h1;obtain⟨r,L,S2,e2,h2,r2,r2',O⟩:=lft (S:=S1) ok;obtain⟨D,e3,k4⟩:=WL h2 (h1.kp O) ok.bl.1 ok.bl.2.1;obtain⟨hs,J,b2,b3⟩:=(h2.kp k4).ex;obtain⟨q,t,rfl⟩:∃q t,hs=q::t:=by
  cases hs with
  | nil=>exact absurd b2.symm ok.bl.2.2.1
  | cons q t=>exact⟨q,t,rfl⟩
 have K:=b3 q<|aL ..;have Z:q.1∈W:=by rw[<- b2];exact cL (f:=λx:Os×Nat=>x.1) (aL ..)
 have ql:=ok.bl.2.1 q.1 Z;have qn:=ok.bl.2.2.2 q.1 Z;have rq:r≠q.2:=λz=>by
  have a:=K.1;rw[<- z,J]at a;have a:=bg a
  cases hq:q.1 with
  | nil=>exact qn hq
  | cons o os=>rw[hq]at a;injection a with a _;cases a
 have k2l:=O.len;obtain⟨g,C⟩:∃g,g=D.set q.2 (.lst<|q.1.map tq++[.tup []]):=⟨_,rfl⟩;have V:Kp (·=q.2) D g:=by rw[C];exact Kp.refl.qi (.inl rfl)
 have e5:mV (.ref q.2) [.tup []] D=.ok .non g:=by
  show opt (jT D q.2) _=_;rw[K.1,j_,C];exact pN<|by rw[aH];lia
 have P:=V.lst _ _ rq J;obtain⟨j,B⟩:∃j,j=g.set r (.lst ((q::t).map λh=>A.ref h.2).reverse):=⟨_,rfl⟩;have k6:Kp (·=r) g j:=by rw[B];exact Kp.refl.qi (.inl rfl)
 have e6:xY (.ref r) [] g=.ok .non j:=by
  show opt (jT g r) _=_;rw[P,j_,B]
 have kk:Kp (λm=>m=q.2\/m=r) S1 j:=(((O.trans k4).of0).trans<|V.mono λm _ z=>.inl z).trans<|k6.mono λm _ z=>.inr z;have Y:=h1.old kk λm z=>by have:=K.2;lia
 obtain⟨r7,L7,S7,e7,h7,_,_,k7⟩:=lft (S:=j) ok;obtain⟨U,e8,k8⟩:=WL h7 (Y.kp k7) ok.bl.1 ok.bl.2.1;obtain⟨a,S9,e9,h9,_,k9⟩:=ok.rh U;obtain⟨as,a1,a2,_⟩:=h9.ex;have la:(as.map λh=>A.ref h.2).length=G.length:=by rw[aH,<- a2,aH]
 obtain⟨R2,d,T,k,_,N⟩:=wbG (F:=oH) (τ:=[x0,.int n,.ref R,.ref r]) (S0:=U) (src:=lJ<|eFn kR<|jS (jR 1) j0) (λp=>RH p (by have:=ok.n6;lia)) h9 (by rw[<- la];exact mF (by dsimp[kJ,mH,bools,e9]) a1) ok.pm ok.n1 ok.ln ok.nd;rw[ok.wb]at k;have M:yc false (.ref R2) (.ref R) d=.ok (.bl true) d:=by
  show opt (zd d 12 _ _) _=_;rw[VS k<|(((Y.kp k7).kp k8).kp k9).kp N];rfl
 rw[bC]at J P;have z0:gd (([]:ae).length<=sizeLine)=λr:Am.R A=>r:=by funext r;exact pG (show 0<=16777216 by decide)
 refine⟨d,?_⟩;dsimp[kJ,mH,bools,e1,e2,e3,bY,J,xK,K.1,z0,e5,P,e6,e7,e8,↓T,M]
end K67
namespace K67
open PySem L2 Am
abbrev Wq1:List Os:=[[[1]]]
def wq1:Zm Gq1=Wq1:=by decide +kernel
def dk1:Okd 1:=⟨by decide +kernel,by decide +kernel,by decide +kernel,by decide +kernel,by decide +kernel⟩
def aaS:Ok67 1 Gq1 Wq1:=⟨by decide,by decide,dk1,by decide +kernel,by decide +kernel,wq1,by decide +kernel,by decide +kernel,by decide +kernel,λS=>by have:=Dk (S:=S) ⋯ on1;rwa [gt1]at this⟩
abbrev Wq2:List Os:=[[[1,2]],[[2,1]]]
def wq2:Zm Gq2=Wq2:=by decide +kernel
def dk2:Okd 2:=⟨by decide +kernel,by decide +kernel,by decide +kernel,by decide +kernel,by decide +kernel⟩
def aa8:Ok67 2 Gq2 Wq2:=⟨by decide,by decide,dk2,by decide +kernel,by decide +kernel,wq2,by decide +kernel,by decide +kernel,by decide +kernel,λS=>by have:=Dk (S:=S) ⋯ on2;rwa [gt2]at this⟩
abbrev Wq3:List Os:=[[[1,2,3]],[[1,3,2],[2,3,1]],[[2,1,3],[3,1,2]],[[3,2,1]]]
def wq3:Zm Gq3=Wq3:=by decide +kernel
def dk3:Okd 3:=⟨by decide +kernel,by decide +kernel,by decide +kernel,by decide +kernel,by decide +kernel⟩
def ab5:Ok67 3 Gq3 Wq3:=⟨by decide,by decide,dk3,by decide +kernel,by decide +kernel,wq3,by decide +kernel,by decide +kernel,by decide +kernel,λS=>by have:=Dk (S:=S) ⋯ on3;rwa [gt3]at this⟩
abbrev Wq4:List Os:=u4 [[0],[1,3,9],[2,4,8],[5,11,17],[6,12,18],[7,13],[10,16],[14,20,22],[15,19,21],[23]]
def wq4:Zm Gq4=Wq4:=by decide +kernel
def dk4:Okd 4:=⟨by decide +kernel,by decide +kernel,by decide +kernel,by decide +kernel,by decide +kernel⟩
def Qz:Ok67 4 Gq4 Wq4:=⟨by decide,by decide,dk4,by decide +kernel,by decide +kernel,wq4,by decide +kernel,by decide +kernel,by decide +kernel,λS=>by have:=Dk (S:=S) ⋯ on4;rwa [gt4]at this⟩
def XI(ns:ag)(hl:ns.length<=63):∃S',Cj [.frz<|ns.map .int] []=.ok (.bl true) S':=by
 obtain⟨B,g⟩:=Uq (S:=[.lst [A.int 4,A.int 3,A.int 4,A.int 2,A.int 1,A.int 4]]) (ns:=ns) (k:=0) ⋯;obtain⟨f,d⟩:∃f:jV,f=[.lst [A.int 4,A.int 3,A.int 4,A.int 2,A.int 1,A.int 4]]:=⟨_,rfl⟩;rw[<- d]at g;have J:jT f 0=some [A.int 4,A.int 3,A.int 4,A.int 2,A.int 1,A.int 4]:=by rw[d];rfl
 have j:f.length=1:=by rw[d];rfl
 have p:newL [A.int 4,A.int 3,A.int 4,A.int 2,A.int 1,A.int 4] []=.ok (.ref 0) f:=by rw[d];exact pG (show 6<=16777216 by decide)
 obtain⟨S1,e1,K,C⟩:=Vb (S:=f) (c:=B) (k:=1) ⋯ ⋯;obtain⟨q,S2,e2,M,N,L,F⟩:=digit (m:=6) K ⋯ ⋯;have D:jT S2 0=some [A.int 4,A.int 3,A.int 4,A.int 2,A.int 1,A.int 4]:=F.lst _ _ (by show ¬0=f.length;lia)<|C.lst _ _ (λz=>z) J;rw[j]at e1 e2;obtain⟨n,G,W,t,ok⟩:∃(n:Nat) (G W:List Os),uZ [A.int 4,A.int 3,A.int 4,A.int 2,A.int 1,A.int 4] q=some (.int n)/\Ok67 n G W:=by
  have:q=0\/q=1\/q=2\/q=3\/q=4\/q=5:=()
  rcases this with rfl|rfl|rfl|rfl|rfl|rfl
  ·exact⟨4,_,_,rfl,Qz⟩
  ·exact⟨3,_,_,rfl,ab5⟩
  ·exact⟨4,_,_,rfl,Qz⟩
  ·exact⟨2,_,_,rfl,aa8⟩
  ·exact⟨1,_,_,rfl,aaS⟩
  ·exact⟨4,_,_,rfl,Qz⟩
 obtain⟨S',x⟩:=Yt (S:=S2) (x0:=.frz<|ns.map .int) ok;refine⟨S',?_⟩;rw[<- x];unfold Cj QX NQ;dsimp[kJ,mH,bools,m8,Nat.reduceAdd,Nat.reduceSub,p,g,e1,e2,D,t]
end K67
namespace K67
open PySem L2 Am
def all_mk{l:PySem.W.OpenLaw}{w:ah}{K:au}{h:aq}{mg:Str->bd}{fa:ak}(X:K.In h)(G:h.Ns mainGlobals mg)(hfa:mg "law" = some (.ref fa))
  (a1:Df K "is_whole" wO)
  (a2:Df K "need_pair" vK)
  (a3:Df K "back" Ig)
  (a4:Df K "is_exchange" s_)
  (a5:Df K "exchanged_places" oE)
  (a6:Df K "exchanged" vH)
  (a7:Df K "falls" CV)
  (a8:Df K "factorial" vJ)
  (a9:Df K "numbered" wW)
  (a10:Df K "as_polynomial" qA)
  (a11:Df K "plus" HN)
  (a12:Df K "times" DW)
  (a13:Df K "put_before" uR)
  (a14:Df K "as_sum" Aq)
  (a15:Df K "need_like" vg)
  (a16:Df K "added" Dl)
  (a17:Df K "scaled" zT)
  (a18:Df K "by_exchange" sU)
  (a19:Df K "number_at_one" qw)
  (a20:Df K "kept_by_fall" rC)
  (a21:Df K "found_kept" qY)
  (a22:Df K "leads_among" sN)
  (a23:Df K "all_orders" uT)
  (a24:Df K "has_other_fall" pS)
  (a25:Df K "reached_from" r6)
  (a26:Df K "gathered" xg)
  (a27:Df K "right_hearths" qx)
  (a28:Df K "with_backs" uO)
  (a29:Df K "left_hearths" rX)
  (a30:Df K "_law_cell" xA)
  (a31:Df K "_law_bag" yl)
  (a32:Df K "_law_mixed" vc)
  (a33:Df K "_law_digit" vp)
  (a34:Df K "_law_tables" ur)
  (a35:Df K "_law_back" wM)
  (a36:Df K "_law_all" yO)
  (a37:Df K "_law_is_hearths" p_)
  (a38:Df K "_law_due" y_)
  (a39:Df K "law" Ss)
  (adt:PySem.W.nsIn K mainGlobals "isinstance" = some none)
  (adw:PySem.W.nsIn K mainGlobals "bool" = some none)
  (ady:PySem.W.nsIn K mainGlobals "int" = some none)
  (adz:PySem.W.nsIn K mainGlobals "len" = some none)
  (adF:PySem.W.nsIn K mainGlobals "enumerate" = some none)
  (adG:PySem.W.nsIn K mainGlobals "tuple" = some none)
  (adL:PySem.W.nsIn K mainGlobals "list" = some none)
  (adO:PySem.W.nsIn K mainGlobals "range" = some none)
  (adQ:PySem.W.nsIn K mainGlobals "sorted" = some none)
  (adR:PySem.W.nsIn K mainGlobals "dict" = some none)
  (adS:PySem.W.nsIn K mainGlobals "any" = some none)
  (adT:PySem.W.nsIn K mainGlobals "abs" = some none)
  (adU:PySem.W.nsIn K mainGlobals "all" = some none)
  (adV:PySem.W.nsIn K mainGlobals "repr" = some none)
  {adl:Tok} (adY:PySem.W.nsIn K mainGlobals "MOST_THINGS" = some (some<|.int 4 adl))
  {a_AT_A_FALL:ak} (ad2:PySem.W.nsIn K mainGlobals "AT_A_FALL" = some (some<|.ref a_AT_A_FALL)) (kp_AT_A_FALL:klP K a_AT_A_FALL=some [((-1:Int),(1:Int)),((1:Int),(-1:Int))])
  : ∃fd:FuncData,(∀(s:aC) (v:af),BindsTo s fd ⟨[v],[]⟩ [("_law_script",v)])/\∀base:aq,K.In base->base.Ns mainGlobals mg->FnOk l.prog w K mg base qf 25 fa fd ["_law_script"] (qQ K 1 Cj):=by
 obtain⟨f,fd,a,F⟩:=a39;have e:=hfa.symm.trans (jx X G a)
 cases e
 have O:=b8 X G adt;have ab3:=b8 X G adw;have ab4:=b8 X G ady;have k:=b8 X G adz;have T:=b8 X G adF;have q:=b8 X G adG;have B:=b8 X G adL;have j:=b8 X G adO;have p:=b8 X G adQ;have V:=b8 X G adR;have acq:=b8 X G adS;have acB:=b8 X G adT;have abD:=b8 X G adU;have acI:=b8 X G adV;have aco:∃t,mg "MOST_THINGS" = some (.int 4 t):=⟨adl,jx X G adY⟩;have g:∃a,mg "AT_A_FALL" = some (.ref a)/\klP K a=some [((-1:Int),(1:Int)),((1:Int),(-1:Int))]:=⟨a_AT_A_FALL,jx X G ad2,kp_AT_A_FALL⟩;refine⟨fd,λs v=>(by obtain⟨_,_,_,_,_,_,_,_,_,rfl,_,_⟩:=F.ex;exact .of_eq rfl),λbase _ _=>?_⟩;have E:En l.prog w K mg base:=⟨h,X,G⟩;have U:=a1.kA E (λF=>FW F O ab3 ab4)<|DM λ_ _ _ _ _ _ _=>rfl;have acj:=a2.kA E (λF=>DF F k)<|Ez λ_ _ _ _ _ _ _ _=>rfl;have acy:=a3.kA E (λF=>T8 F k T q)<|DM λ_ _ _ _ _ _ _=>rfl;have acg:=a4.kA E (λF=>zW F U)<|Ez λ_ _ _ _ _ _ _ _=>rfl;have ach:=a5.kA E (λF=>wo F B q)<|us3 λ_ _ _ _ _ _ _ _ _=>rfl;have Y:=a6.kA E (λF=>Dm F k acg ach)<|Ez λ_ _ _ _ _ _ _ _=>rfl;have C:=a7.kA E (λF=>ON F j k)<|DM λ_ _ _ _ _ _ _=>rfl;have L:=a8.kA E (λF=>C4 F j)<|DM λ_ _ _ _ _ _ _=>rfl;have acp:=a9.kA E (λF=>E9 F B j k q L U)<|Ez λ_ _ _ _ _ _ _ _=>rfl;have P:=a10.kA E (λF=>yy F p)<|DM λ_ _ _ _ _ _ _=>rfl;have aci:=a11.kA E (λF=>US F V P)<|Ez λ_ _ _ _ _ _ _ _=>rfl;have N:=a12.kA E (λF=>NP F P)<|Ez λ_ _ _ _ _ _ _ _=>rfl;have J:=a13.kA E (λF=>BP F aci)<|us3 λ_ _ _ _ _ _ _ _ _=>rfl;have D:=a14.kA E (λF=>MU F p)<|DM λ_ _ _ _ _ _ _=>rfl;have ack:=a15.kA E (λF=>CN F acj)<|Ez λ_ _ _ _ _ _ _ _=>rfl;have abE:=a16.kA E (λF=>NL F ack J D)<|Ez λ_ _ _ _ _ _ _ _=>rfl;have abI:=a17.kA E (λF=>Mb F J N D)<|Ez λ_ _ _ _ _ _ _ _=>rfl;have acm:=a18.kA E (λF=>zZ F B g J Y C N D)<|Ez λ_ _ _ _ _ _ _ _=>rfl;have M:=a19.kA E (λF=>yk F V)<|DM λ_ _ _ _ _ _ _=>rfl;have d:∀{Fs:ae->jV->R A} {kr:Nat},ow l.prog w K mg base (5+2 * kr) "found_kept" mO Fs->ow l.prog w K mg base (5+2 * kr+1) "kept_by_fall" nI (lY lK<|lN Fs):=λG=>a20.kA E (λF=>zm F Y abE abI acm M C G)<|us3 λ_ _ _ _ _ _ _ _ _=>rfl;have acn:=a21.rA E (λF hm hk hb=>vn F C d hm hk hb 8)<|Ez λ_ _ _ _ _ _ _ _=>rfl;have acu:=a22.kA E (λF=>AO F acn M)<|DM λ_ _ _ _ _ _ _=>rfl;have acs:=a23.kA E (λF=>By F j aco L acp)<|DM λ_ _ _ _ _ _ _=>rfl;have acw:=a24.kA E (λF=>xR F acq C)<|Ez λ_ _ _ _ _ _ _ _=>rfl;have acr:=a25.kA E (λF=>zu F)<|Ez λ_ _ _ _ _ _ _ _=>rfl;have acv:=a26.kA E (λF=>Gx F p acr)<|DM λ_ _ _ _ _ _ _=>rfl;have Z:=a27.kA E (λF=>y9 F acs acu acv acw)<|DM λ_ _ _ _ _ _ _=>rfl;have acz:=a28.kA E (λF=>BH F p acy)<|DM λ_ _ _ _ _ _ _=>rfl;have abY:=a29.kA E (λF=>zk F acz Z)<|DM λ_ _ _ _ _ _ _=>rfl;have ac6:=a30.kA E (λF=>FA F k)<|Ez λ_ _ _ _ _ _ _ _=>rfl;have ac1:=a31.kA E (λF=>H_ F acB)<|Ez λ_ _ _ _ _ _ _ _=>rfl;have abK:=a32.kA E (λF=>Er F)<|DM λ_ _ _ _ _ _ _=>rfl;have acW:=a33.kA E (λF=>Eo F j abK)<|Ez λ_ _ _ _ _ _ _ _=>rfl;have acV:=a34.kA E (λF=>BL F T k j)<|DM λ_ _ _ _ _ _ _=>rfl;have ac9:=a35.kA E (λF=>FG F q j k)<|DM λ_ _ _ _ _ _ _=>rfl;have acQ:=a36.kA E (λF=>Hg F j)<|DM λ_ _ _ _ _ _ _=>rfl;have ab0:=a37.kA E (λF=>ya F abD O B q)<|Ez λ_ _ _ _ _ _ _ _=>rfl;have ac7:=a38.kA E (λF=>Hl F acI p acQ acV)<|DM λ_ _ _ _ _ _ _=>rfl;exact X3 F p acW ac1 ac6 ac7 abY ab0 Z ac9
def walk{l:PySem.W.OpenLaw}{q:aj}{XP:(Str->bd)->aq->Prop}{YP:ah->aq->Prop}{d:DefRec}{K:Params->au}(hn:l.most=some 63)(hdf:d.params.defaults=[])
  (hY:∀(w:ah) (h:aq),YP w h->(K w.params).In h)
  (F:∀(w:ah) (mg:Str->bd) (fa:ak) (h:aq),(K w.params).In h->h.Ns mainGlobals mg->mg d.name=some (.ref fa) ->
   ∃fd:FuncData,(∀(s:aC) (u:af),BindsTo s fd ⟨[u],[]⟩ [("_law_script",u)])/\∀base:aq,(K w.params).In base->base.Ns mainGlobals mg->FnOk l.prog w (K w.params) mg base qf 25 fa fd ["_law_script"] (qQ (K w.params) 1 Cj)) :
  PySem.W.WalkO q loose XP YP l.row.toRowW d [] (λf vs=>PySem.call f vs):=
 L2.UB (n:=63) (k:=25) (x := "_law_script") (CX:=λ_=>qf) (sp:=λw=>qQ (K w.params) 1 Cj) hn ⋯ hdf ⟨rfl,by decide,by decide,rfl⟩ hY F (λ_ H a ns j g hS=>MF g hS<|XI ns j) λ_ _ _ _ _ z=>z
end K67
open PySem PySem.W PyProof.Rows
namespace PySem.W.Fast
local macro_rules|`(command|universe $x*)=>do return Lean.mkNullNode (←x.mapM λx=>`(command|def $x:ident:=Nat))
universe tw122151936452848612 tw7631414305392976797 tw14485978443043086605 tw1640206065972685577 tw1800862642193516137 tw7897707683674779064 tw8062442177569554684 tw17167889076595874056 tw760343681221986153 tw5098938106365560386 tw4376867477225637384 tw3500247611888531010 tw602542014959658274 tw13975320313047071088 tw1744602841061665733 tw3066621992270155289 tw13665317795530171216 tw5379865478338818998 tw9860927709436855123 tw10411669360609602170 tw11430310023167584961 tw15607039802645307005 tw571766393042113031 tw5973422341803413977 tw4509224992468530140 tw858171039947425052 tw10142611281329871395 tw11062694944897357234 tw6586264898593112814 tw4409372887060932314 tw1553638523512764680 tw13740333231075148446 tw4268827655319742872 tw11857409102799144119 tw1081805831330154923 tw12059407051190056035 tw1136031844680547207 tw6153905491282385692 tw2732125049625264394 tw12310938987007139286 tw15756132590589165650 tw9251029698649849921 tw2576152450141932560 tw14890510911777735227 tw8366555504511565738 tw10573257536823295597 tw8386215999366768113 tw14217651271077498489 tw14141587178898854994 tw291724904374926193 tw9869278724328903136 tw7686704015329048393 tw5555930296768300435 tw967282095600408329 tw11614908270863911899 tw4892860741121545262 tw2375334074194323319 tw10618388537145521883 tw11914692297534182806 tw6216907393033163129 tw1725637123909370268 tw9898206228976406977 tw9110613078128676960 tw17333851944551838728 tw18415949828649289037 tw1814274704759433958 tw7054009685395299698 tw11233066956941070358 tw8606321380064354298 tw11431661407014477385 tw15558306489044529440 tw14550038301240175851 tw9056372259444211594 tw5041112769704419265 tw14430619613259828439 tw17095185685021480949 tw15585663559546232691 tw6306383318924750012 tw5330711804370372323 tw17252564713827748559 tw18394863041191660442 tw11559723373069111791 tw13147785230783321233 tw13000556943863220838 tw15500202888043414250 tw3712091548851362693 tw5234051177946741672 tw8045084970103435256 tw12063151762307505659 tw9977613650659301404 tw10756180776095061193 tw7597397323695212863 tw6524837473128800194 tw11942857598278844513 tw9601782943971537336 tw17640407986387987917 tw14120904646957556218 tw9482446032154034937 tw967462063048490684 tw16258136474690779222 tw16281073972788576026 tw8819771642124237488 tw16704944755285245351 tw1261004172672464556 tw17915439464832851304 tw765721016951466349 tw428120970099964809 tw13177308556295148657 tw1593035942954972125 tw16228921756322479464 tw6741037009411148341 tw5446577754525403149 tw5798101511666252449 tw13963571988386519364 tw7735903492337052547 tw420271451621548704 tw14152002027286428137 tw2073270899022530756 tw14317441015574228630 tw4226479274548817204 tw12100485791151487814 tw6853439160144511832 tw4832832845348271958 tw2574857842190997897 tw5168129079081955416 tw15126314231996901325 tw4828703920719546877 tw355045066986179112 tw2067473883135795247 tw11606442205232968185 tw6089288511381638566 tw4654142337459399053 tw17408262557495064832 tw9245213686814278111 tw17853906129738100494 tw17755769406369311275 tw18176276489246195640 tw13333830540916250461 tw2121448120918363996 tw15849371064581777546
end PySem.W.Fast
set_option maxRecDepth 100000 in
set_option maxHeartbeats 0 in
theorem PySem.Challenge.cw_undercells_k67_left_hearths_holds : PySem.Challenge.rw_undercells_k67_left_hearths.Holds := by
 w_on;o_law;k_head;(case hw=>w_witness2)
 k_fill
 refine K67.walk (l:=PySem.Challenge.rw_undercells_k67_left_hearths) rfl rfl (fun w h Y=>PySem.W.kIn_of Y) ?F
 case F=>
  intro w mg fa h KX G hmg;refine' K67.all_mk KX G hmg (.of ?_ ?_ ?_ ?_) (.of ?_ ?_ ?_ ?_) (.of ?_ ?_ ?_ ?_) (.of ?_ ?_ ?_ ?_) (.of ?_ ?_ ?_ ?_) (.of ?_ ?_ ?_ ?_) (.of ?_ ?_ ?_ ?_) (.of ?_ ?_ ?_ ?_) (.of ?_ ?_ ?_ ?_) (.of ?_ ?_ ?_ ?_) (.of ?_ ?_ ?_ ?_) (.of ?_ ?_ ?_ ?_) (.of ?_ ?_ ?_ ?_) (.of ?_ ?_ ?_ ?_) (.of ?_ ?_ ?_ ?_) (.of ?_ ?_ ?_ ?_) (.of ?_ ?_ ?_ ?_) (.of ?_ ?_ ?_ ?_) (.of ?_ ?_ ?_ ?_) (.of ?_ ?_ ?_ ?_) (.of ?_ ?_ ?_ ?_) (.of ?_ ?_ ?_ ?_) (.of ?_ ?_ ?_ ?_) (.of ?_ ?_ ?_ ?_) (.of ?_ ?_ ?_ ?_) (.of ?_ ?_ ?_ ?_) (.of ?_ ?_ ?_ ?_) (.of ?_ ?_ ?_ ?_) (.of ?_ ?_ ?_ ?_) (.of ?_ ?_ ?_ ?_) (.of ?_ ?_ ?_ ?_) (.of ?_ ?_ ?_ ?_) (.of ?_ ?_ ?_ ?_) (.of ?_ ?_ ?_ ?_) (.of ?_ ?_ ?_ ?_) (.of ?_ ?_ ?_ ?_) (.of ?_ ?_ ?_ ?_) (.of ?_ ?_ ?_ ?_) (.of ?_ ?_ ?_ ?_) ?_ ?_ ?_ ?_ ?_ ?_ ?_ ?_ ?_ ?_ ?_ ?_ ?_ ?_ ?_ ?_ ?_
  any_goals first|k_is|kernel_rfl
