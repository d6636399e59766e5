import PyProof.Rows.All
import Wide.All
import OpenK.AllK
import Wide.FinOn
import Lean
import PyProof.EqAt
import PyProof.EqKinds
import PyProof.TupleCall
import PySem.Challenge.RW_undercells_k68_hearths_of_both
set_option autoImplicit true
set_option relaxedAutoImplicit true
set_option Elab.async false
set_option linter.all false
set_option maxRecDepth 100000
set_option compiler.extract_closed false
set_option maxHeartbeats 4000000
local macro_rules|`(command|abbrev $n:declId $s:optDeclSig $v:declVal)=>`(command|noncomputable def $n:declId $s:optDeclSig $v:declVal)|`(command|meta abbrev $n:declId $s:optDeclSig $v:declVal)=>`(command|@[reducible]noncomputable def $n:declId $s:optDeclSig $v:declVal)
local macro_rules|`(∅)=>`(by decide +kernel)
local macro_rules|`(⋯)=>`(by decide)
local macro_rules|`(tactic|dsimp[$l,*])=>`(tactic|simp only[$l,*])|`(tactic|dsimp[$l,*]$o:location)=>`(tactic|simp only[$l,*]$o:location)
local macro_rules(kind:=Lean.Parser.Term.structInst)|`({})=>`({cls:=.type "list",data:=.seq ([]:List PySem.Value).toArray})
set_option hygiene false
local macro_rules|`(tactic|z_go)=>`(tactic|obtain⟨ρ,S,a,b,R,va,vb,h⟩:=h9)
local macro_rules|`(tactic|x_go)=>`(tactic|obtain⟨ρ,S,τ,R,r,h⟩:=h9)
local macro_rules|`(tactic|w_up)=>`(tactic|intro X hP hw hK hc i pins s σ H E I hf st hg)
local macro_rules|`(tactic|fin2)=>`(tactic|intro pins s σ H xs us Q I r h)
local macro_rules|`(tactic|k_ne)=>`(tactic|refine⟨ρ,S,τ,R,r,jX (j5 h) .refl λo S1 h1 ρ1 H1 x e1 R1 v1=>⟨ρ1,S1,τ,R1,r.ext e1,jX (j5 h1) e1 λi S2 h2 ρ2 H2 y e2 R2 v2=>?_⟩⟩)
local macro_rules|`(tactic|kt_k)=>`(tactic|exact Kp.refl.lay)
local macro_rules|`(tactic|kd_p)=>`(tactic|obtain⟨w,rfl,ρ,S,x,R,hv,h⟩:=MK h0)
local macro_rules|`(tactic|gn_on)=>`(tactic|intro pins s σ H Q I h)
local macro_rules|`(tactic|gp_on)=>`(tactic|refine⟨ρ2,S2,o,i,a,R2,v1.ext e2,v2,va.ext (e1.trans e2),jX (j5 h2) (e1.trans e2) λ_ S3 h3 ρ3 H3 e3 R3=>?_⟩)
local macro_rules|`(tactic|kj_on)=>`(tactic|obtain⟨xs,hn,h⟩:=jY h)
local macro_rules|`(tactic|kcf_m)=>`(tactic|intro pins s σ H x y v u Q I rx ry h)
local macro_rules|`(tactic|kcj_m)=>`(tactic|obtain⟨u,rfl,rx⟩:=vals1 r)
local macro_rules|`(tactic|kpc_g)=>`(tactic|obtain⟨f0,f1,f2,f3,f4,f5⟩:=hf it (by simp))
local macro_rules|`(tactic|kpf_c)=>`(tactic|exact h3 ρ3 H3 σ ((e1.trans e2).trans e3) R3 (r.ext ((e1.trans e2).trans e3)))
local macro_rules|`(tactic|ksr_p)=>`(tactic|refine aH (m:=checkCount "sorted" 1 1 _) (aN ?_))
local macro_rules|`(tactic|kst_p)=>`(tactic|have hfree:∀y∈scope.names,y.2=.free->∃c,X.env.cells.lookup y.1=some c:=λy hy e=>I.ok.has _ (S.fr y hy e))
local macro_rules|`(tactic|kln_w)=>`(tactic|obtain⟨kvs,hn,h⟩:=jY h)
local macro_rules|`(tactic|kl_no)=>`(tactic|obtain⟨ρ,S,τ,R,r,h⟩:=h)
local macro_rules|`(tactic|mg_lt)=>`(tactic|intro pins s σ H D I h)
local macro_rules|`(tactic|cb_eq)=>`(tactic|refine⟨ρ,S,τ,R,r,jX (j5 h) .refl λx S1 h1 ρ1 H1 v e1 R1 v1=>?_⟩)
local macro_rules|`(tactic|o_rec)=>`(tactic|exact nZ (show 0<=16777216 by decide))
local macro_rules|`(tactic|f_are)=>`(tactic|refine⟨R.nd,by simp,λa ha b hb e=>?_⟩)
set_option hygiene true
local macro_rules|`(())=>`(by lia)
@[reducible]def ag:=List Int
@[reducible]def am:=List Nat
@[reducible]def ar:=List PySem.Str
@[reducible]def ba:=List PySem.Value
@[reducible]def bb:=List PySem.Addr
@[reducible]def bd:=Option PySem.Value
@[reducible]def bi:=Option Bool
@[reducible]def bj:=Option Nat
@[reducible]def bn:=List<|PySem.Addr×PySem.Obj
def aG:=@List.length_map
def aH:=@PySem.wpAny_bind
def aI:=@List.getElem?_eq_getElem
def aJ:=@List.getElem?_eq_some_iff
def aK:=@List.getD_eq_getElem?_getD
def aL:=@List.mem_cons_self
def aM:=@Nat.le_refl
def aN:=@PySem.wpAny_pure
def aO:=@List.getElem?_map
def aP:=@List.mem_singleton
def aQ:=@List.mem_cons_of_mem
def aR:=@if_neg
def aS:=@PySem.Heap.get?_push_of_some
def aV:=@if_pos
def aW:=@Option.map_eq_some_iff
def aX:=@List.length_append
def aY:=@List.mem_map
def aZ:=@List.size_toArray
def a_:=@List.mem_of_getElem?
def bf:=@decide_eq_true
def bg:=@List.map_map
def bq:=@PySem.Heap.lt_size
def br:=@Option.some.inj
def bu:=@List.map_append
def bw:=@PySem.Heap.get?_push_size
def bz:=@decide_eq_false
def bA:=@List.length_cons
def bB:=@List.getElem?_append_left
def bC:=@List.map_cons
def bD:=@Nat.ne_of_lt
def bE:=@List.getElem?_set_self
def bF:=@Bool.false_ne_true
def bG:=@List.mem_append
def bH:=@List.mem_cons
def bI:=@Bool.false_eq_true
def bJ:=@Nat.le_trans
def bK:=@Nat.zero_le
def bL:=@List.mem_append_right
def bM:=@List.getElem?_set_ne
def bN:=@List.take_add_one
def bO:=@List.forall_mem_cons
def bP:=@PySem.PassesOwn.never
def bQ:=@List.mem_iff_getElem
def bR:=@List.length_range
def bT:=@List.take_length
def bU:=@List.length_set
def bV:=@Nat.lt_of_lt_of_le
def bW:=@List.map_congr_left
def bX:=@List.nodup_cons
def bY:=@List.length_take
def bZ:=@List.append_nil
def b7:=@Bool.not_true
def b8:=@of_decide_eq_true
def b9:=@List.pairwise_cons
def b_:=@List.pairwise_iff_getElem
def cg:=@List.getElem_inj
def cj:=@List.find?_cons
def cu:=@List.mem_map_of_mem
def cy:=@List.nodup_append
def cz:=@Option.bind_eq_some_iff
def cA:=@List.mem_filter
def cB:=@PySem.W.mg_none_of
def cC:=@Nat.zero_add
def cD:=@PySem.wpAny_call_entry
def cE:=@PySem.wpAny_newObj_type
def cF:=@List.mem_range
def cG:=@PyProof.Rows.wpS_bind
def cH:=@Array.getElem?_toList
def cI:=@List.mem_of_find?_eq_some
def cJ:=@List.append_assoc
def cK:=@if_false
def cL:=@List.pairwise_map
def cM:=@PySem.F.slot_list_append
def cN:=@PySem.F.type_list_append
def cO:=@PySem.F.slot_dict_valueiterator_next
def cP:=@List.pairwise_singleton
def cQ:=@List.getElem_map
def cR:=@Ne.symm
def cT:=@PySem.wpAny_truthy_bool
def cU:=@Int.toNat_natCast
def cV:=@congrArg
def cW:=@PySem.F.slot_dict_keyiterator_next
def cX:=@PySem.W.kia_one
def cY:=@List.nodup_nil
def cZ:=@PySem.wpAny_holding
def c5:=@beq_self_eq_true
def c6:=@beq_eq_false_iff_ne
def c7:=@PySem.mem_of_lookup
def c8:=@PySem.F.slot_dict_get
def c9:=@List.length_filter_le
def c_:=@PySem.Heap.size_push
def dc:=@Bool.not_false
def dg:=@PySem.wpAny_loadPart'
def dh:=@List.filter_cons
def di:=@List.getElem_mem
def dm:=@Int.zero_add
def dw:=@Option.bind_some
def dz:=@PySem.Calls.call_function_entry
def dB:=@Array.getElem?_eq_getElem
def dD:=@List.replicate_succ
def dF:=@List.flatten_cons
def dG:=@Option.isSome_map
def dH:=@List.getElem?_eq_none
def dI:=@Option.isSome_iff_exists
def dJ:=@Option.map_map
def dM:=@List.getElem_range
def dN:=@Nat.lt_succ_self
def dO:=@PySem.wpAny_callSpecial?_slot
def dP:=@PyProof.Rows.wpS_pure
def dQ:=@Nat.lt_succ_of_lt
def dR:=@Array.getElem?_eq_none
def dS:=@List.ext_getElem?
def dU:=@List.foldl_append
def dW:=@Option.getD_some
def dX:=@List.prefix_refl
def dY:=@List.prefix_append
def dZ:=@Nat.le_of_lt
def d7:=@PySem.AutoSeq1.wpAny_loadPart'
def d8:=@List.Perm.eq_of_pairwise
def d9:=@PySem.Around.under_plainId
def d_:=@PySem.wpAny_typeNameOfWhole_keyiter
def eg:=@PySem.wpAny_typeNameOfWhole_valiter
def ez:=@List.length_nil
def eB:=@Nat.not_lt_zero
def eF:=@Array.length_toList
def eG:=@PySem.Heap.SameBut.update
def eK:=@List.getElem?_range
def eL:=@PyProof.Rows.callWith_type1
def eN:=@PySem.sizeLine_eq
def eO:=@List.lookup_cons
def eT:=@PySem.F.slot_tuple_iterator_next
def eU:=@PySem.Obj.data_mapFields
def eV:=@PySem.tupleKind_room_in1
def eW:=@of_decide_eq_false
def eX:=@List.Perm.refl
def eY:=@Nat.lt_of_le_of_lt
def eZ:=@List.take_zero
def e_:=@PySem.F.type_dict_get
def fh:=@PySem.wpAny_passesOwn
def fj:=@List.foldl_cons
def fq:=@if_true
def fu:=@PySem.wpAny_dictEntries
def fy:=@PySem.wpAny_standAt
def fB:=@PySem.wpAny_typeNameOf_keyiter
def fC:=@List.idxOf_lt_length_iff
def fF:=@List.filter_eq_self
def fG:=@List.length_eq_zero_iff
def fH:=@Bool.and_eq_true
def fJ:=@List.all_eq_true
def fK:=@List.find?_map
def fL:=@decide_eq_decide
def fM:=@Nat.one_mul
def fN:=@PySem.wpAny_mono
def fO:=@PySem.W.cellsFrom_some
def fP:=@List.map_nil
def fQ:=@PySem.call_meets
def fR:=@Int.add_zero
def fS:=@List.find?_eq_none
def fV:=@PySem.codeAny_builtin
def fW:=@List.filter_map
def fX:=@PySem.wpAny_dictEpoch
def fY:=@Option.map_some
def fZ:=@List.find?_some
def f6:=@Nat.lt_irrefl
def f7:=@List.any_cons
def f9:=@Bool.false_or
def f_:=@PySem.Heap.get?_update_self
def gb:=@List.getElem?_toArray
def gc:=@List.take_append_drop
def gf:=@List.flatMap_cons
def gg:=@List.mem_append_left
def gh:=@List.range_eq_range'
def gp:=@PySem.wpAny_setField
def gq:=@PySem.wpAny_rule
def gr:=@PySem.wpAny_fieldsOf
def gu:=@Array.getElem?_eq_none_iff
def gv:=@PySem.F.slot_list_lt
def gw:=@PySem.F.args_dict_valueiterator_next_1
def gz:=@PySem.wpAny_forIn_list
def gA:=@PySem.wpAny_isInstance
def gB:=@PySem.F.entry_dict_valueiterator_next
def gC:=@List.any_eq_true
def gD:=@List.mem_flatMap
def gE:=@PySem.F.args_dict_keyiterator_next_1
def gF:=@PySem.W.kdu_collect
def gG:=@List.flatMap_append
def gH:=@PySem.F.args_tuple_add_2
def gI:=@PySem.F.entry_dict_keyiterator_next
def gJ:=@PySem.F.slot_list_getattribute
def gK:=@List.sum_cons
def gM:=@PySem.wpAny_specialOf
def gP:=@PySem.wpAny_pyIter_tuple
def gQ:=@Int.emod_lt_of_pos
def gR:=@List.filter_append
def gS:=@PySem.F.entry_tuple_add
def gU:=@PySem.F.args_dict_get_3
def gW:=@PySem.F.plainAttrs_dict
def gY:=@PySem.wpAny_pyIter_list
def gZ:=@PySem.F.slot_tuple_add
def g_:=@PySem.Calls.callWith_builtin
def h_:=@List.reverse_cons
def ie:=@PySem.wpAny_typeOf
def ig:=@List.pairwise_lt_range
def ir:=@PySem.wpAny_seqItems
def iu:=@PySem.F.entry_dict_get
def iy:=@PySem.F.slot_tuple_hash
def iz:=@Array.toList_push
def iA:=@PyProof.Rows.wpS_forRange
def iB:=@PySem.Heap.get?_push_ne
def iC:=@PyProof.Rows.plain_sorted
def iD:=@PyProof.Rows.entry_sorted
def iE:=@PyProof.Rows.args_sorted1
def iF:=@decide_eq_true_eq
def iG:=@List.getElem_take
def iH:=@List.eraseIdxIfInBounds_toArray
def iI:=@List.eraseIdx_eq_take_drop_succ
def iJ:=@PySem.Obj.isFreed_of_fields
def iK:=@PySem.isSubtype_tuple_tuple
def iL:=@PySem.wpAny_isOneOf_keyiter
def iM:=@PySem.wpAny_notOrdered_dict
def iN:=@PySem.wpAny_isOneOf_valiter
def iO:=@List.set_append_right
def iP:=@List.cons_append
def iQ:=@PySem.Heap.size_update
def iR:=@PySem.Paired.length
def iS:=@PySem.plainId_quiet
def iT:=@PySem.wpAny_attempt
def iU:=@Int.add_assoc
def iV:=@List.getElem?_of_mem
def iW:=@PyProof.Rows.kind_sorted
def iX:=@PySem.F.slot_dict_values_iter
def iY:=@Bool.or_eq_false_iff
def iZ:=@Nat.mul_le_mul_right
def i9:=@PySem.wpAny_execs_nil
def i_:=@PySem.F.slot_tuple_eq
def ja:=@Int.emod_nonneg
def jb:=@List.filterMap_cons
def jc:=@List.flatten_append
def jd:=@Nat.succ_mul
def je:=@PySem.wpAny_Call_Name_kw
def jf:=@List.getElem?_append_right
def jh:=@List.zip_cons_cons
def ji:=@Option.isSome_some
def jj:=@List.forIn_nil
def jk:=@PySem.wpAny_tupleItemsOf
def jl:=@Array.forIn_toList
def jm:=@List.perm_ext_iff_of_nodup
def jn:=@List.getElem_idxOf
def jo:=@PySem.wpAny_field
def jq:=@PySem.Obj.cls_mapFields
def jt:=@List.find?_isSome
def ju:=@List.map_id
def jv:=@List.isEmpty_cons
def jw:=@List.filter_congr
def jx:=@PySem.wpAny_newList
def jy:=@PySem.W.mg_of
def jz:=@List.flatMap_nil
def jA:=@List.countP_cons
def jB:=@List.isEmpty_nil
def jC:=@Nat.le_add_right
def jD:=@Nat.ne_of_gt
def jE:=@PySem.codeAny_mono
def jF:=@Nat.lt_trans
def jG:=@Int.mul_zero
def jH:=@List.map_set
def jI:=@List.of_mem_zip
def jJ:=@List.nil_append
def jK:=@List.forIn_cons
def jL:=@List.map_const'
def jM:=@Array.size_zip
def jN:=@List.foldl_map
def jO:=@Nat.mul_le_mul
@[reducible]def af:=PySem.Value
@[reducible]def ah:=PySem.World
@[reducible]def aj:=PySem.Program
@[reducible]def ak:=PySem.Addr
@[reducible]def aq:=PySem.Heap
@[reducible]def au:=PySem.W.Frag
@[reducible]def aA:=PySem.Around
@[reducible]def aC:=PySem.Shared
@[reducible]def aE:=PySem.Expr
@[reducible]def aF:=PySem.Stmt
def anI{a b:Prop}(h:a)(k:b):a/\b:=⟨h,k⟩
open Array (size_map)
open List (all_map any_map map_id')
open Nat (add_mul mul_comm not_lt succ_pos)
open Option (isSome_none)
namespace L2
open PySem PySem.Spec PyProof.Rows
meta abbrev Key:=Sum Int Str
abbrev BN:Key->af->Bool
 | .inl k,v=>Value.isInt k v
 | .inr x,v=>Value.isStrOf x v
abbrev acQ (w:ah):Key->Int
 | .inl k=>hashInt k
 | .inr x=>hashStr w x
def mP:∀{k:Key}{v:af},BN k v=true->(∃i t,k=Sum.inl i/\v=Value.int i t)\/(∃x t,k=Sum.inr x/\v=Value.str x t)
 | .inl i,v,h=>by
  obtain⟨t,e⟩:=Value.isInt_shape (k:=i) (v:=v) h;exact .inl ⟨i,t,rfl,e⟩
 | .inr x,v,h=>by
  obtain⟨t,e⟩:=Value.isStrOf_shape (x:=x) (v:=v) h;exact .inr ⟨x,t,rfl,e⟩
def Mi(i:Int)(t:Tok):BN (.inl i) (.int i t)=true:=by simp[BN,Value.isInt]
def LP(x:Str)(t:Tok):BN (.inr x) (.str x t)=true:=by simp[BN,Value.isStrOf]
def XD(a b:Int):decide ((Sum.inl a:Key)=Sum.inl b)=(a == b):=by
 by_cases e:a=b
 ·subst e;simp
 ·have h:¬(Sum.inl a:Key)=Sum.inl b:=λq=>e<|Sum.inl.inj q;rw[bz h];exact(c6.mpr e).symm
def Yd(a b:Str):decide ((Sum.inr a:Key)=Sum.inr b)=decide (a=b):=by
 by_cases e:a=b
 ·subst e;simp
 ·have h:¬(Sum.inr a:Key)=Sum.inr b:=λq=>e<|Sum.inr.inj q;rw[bz h,bz e]
def YI(a:Int)(b:Str):decide ((Sum.inl a:Key)=Sum.inr b)=false:=bz λq=>nomatch q
def YU(a:Str)(b:Int):decide ((Sum.inr a:Key)=Sum.inl b)=false:=bz λq=>nomatch q
abbrev lK (prog:aj)(w:ah):PySem.KeyKind prog w Key where
 is:=BN
 hash:=acQ w
 inj:=λv a b ha hb=>by
  rcases mP ha with⟨i,t,rfl,rfl⟩|⟨x,t,rfl,rfl⟩
  ·rcases mP hb with⟨j,u,rfl,e⟩|⟨y,u,rfl,e⟩
   ·injection e with e1 _;rw[e1]
   ·exact nomatch e
  ·rcases mP hb with⟨j,u,rfl,e⟩|⟨y,u,rfl,e⟩
   ·exact nomatch e
   ·injection e with e1 _;rw[e1]
 byValue:=λk v h=>by
  rcases mP h with⟨i,t,rfl,rfl⟩|⟨x,t,rfl,rfl⟩<;>rfl
 pyHash:=λhv h=>by
  rcases mP hv with⟨i,t,rfl,rfl⟩|⟨x,t,rfl,rfl⟩
  ·exact wpAny_pyHash_int h
  ·exact wpAny_pyHash_str h
 eqBool:=λd hv h=>by
  rcases mP d with⟨i,t,rfl,rfl⟩|⟨x,t,rfl,rfl⟩
  ·rcases mP hv with⟨j,u,rfl,rfl⟩|⟨y,u,rfl,rfl⟩
   ·rw[XD]at h;exact wpAny_eqBool_int h
   ·rw[YI]at h;exact SeqAt.EqAt.int_str i t y u _ _ _ _ h
  ·rcases mP hv with⟨j,u,rfl,rfl⟩|⟨y,u,rfl,rfl⟩
   ·rw[YU]at h;exact SeqAt.EqAt.str_int x t j u _ _ _ _ h
   ·rw[Yd]at h;exact wpAny_eqBool_str h
 «strs»:=λk x t v h=>by
  rcases mP h with⟨i,u,rfl,e⟩|⟨y,u,rfl,e⟩
  ·exact nomatch e
  ·injection e with e1 _
   subst e1
   cases v<;>rfl
def Fi(prog:aj)(w:ah)(i:Int)(t:Tok):(lK prog w).is (.inl i) (.int i t)=true:=Mi i t
def FH(prog:aj)(w:ah)(x:Str)(t:Tok):(lK prog w).is (.inr x) (.str x t)=true:=LP x t
inductive V where
 | non|bl (b:Bool)|int (i:Int)|str (x:Str)|byt (b:Array UInt8)|flt (b:UInt64)|ref (a:ak)|ty (n:String)
 deriving DecidableEq
abbrev RelV:V->af->Prop
 | .non,u=>u=Value.none
 | .bl b,u=>u=Value.bool b
 | .int i,u=>∃t,u=Value.int i t
 | .str x,u=>∃t,u=Value.str x t
 | .byt b,u=>∃t,u=Value.bytes b t
 | .flt b,u=>∃t,u=Value.float b t
 | .ref a,u=>u=Value.ref a
 | .ty n,u=>u=Value.type n
meta abbrev Vals:List V->ba->Prop:=Paired RelV
def Vals.length{xs:List V}{us:ba}(r:Vals xs us):xs.length=us.length:=iR r
theorem Vals.get:∀{xs:List V}{us:ba}{i:Nat}{x:V},Vals xs us->xs[i]?=some x->∃u,us[i]?=some u/\RelV x u
 | _,_,_,_,.nil,e=>by simp at e
 | _,_,0,_,.cons r _,e=>by simp at e;subst e;exact⟨_,rfl,r⟩
 | _,_,i+1,x,.cons _ t,e=>by
  obtain⟨u,h1,h2⟩:=Vals.get (i:=i) (x:=x) t (by simpa using e);exact⟨u,by simpa using h1,h2⟩
theorem Vals.set{x:V}(r:RelV x u):∀{xs:List V}{us:ba}(i:Nat),Vals xs us->Vals (xs.set i x) (us.set i u)
 | _,_,_,.nil=>.nil
 | _,_,0,.cons _ t=>.cons r t
 | _,_,i+1,.cons q t=>.cons q<|Vals.set r i t
theorem Vals.append:∀{xs ys:List V}{us ws:ba},Vals xs us->Vals ys ws->Vals (xs++ys) (us++ws)
 | _,_,_,_,.nil,s=>s
 | _,_,_,_,.cons r t,s=>.cons r<|Vals.append t s
abbrev yC:Option V->bd->Prop
 | some v,some u=>RelV v u
 | none,none=>True
 | _,_=>False
abbrev KV {κ:Type}:List (κ×V)->List (κ×af)->Prop:=Paired λ(p:κ×V) (q:κ×af)=>p.1=q.1/\RelV p.2 q.2
abbrev kV:Key->V
 | .inl i=>.int i
 | .inr x=>.str x
inductive HO where
 | lst (xs:List V)
 | tup (xs:List V)
 | dK (kvs:List<|Key×V)|dT (kvs:List<|List Key×V)
 | set (S:Int->Bool) (n:Nat)
 | ins (C dx:ak) (fs:List<|Str×V)
 | own (x:ak)
 | xd (fs:List<|Str×V)
 | met (f x:ak)
 | rng (lo hi:Int)
 | frz (o:Obj) (u:HO)
 | tbl (ps:Array af)
 | ext (φ:aq->Prop)
meta abbrev Hp:=ak->Option HO
abbrev upd (H:Hp)(a:ak)(o:HO):Hp:=λb=>if b=a then some o else H b
def kQ{H:Hp}{a:ak}:upd H a o a=some o:=by unfold upd;rw[aV rfl]
def j0{H:Hp}{a:ak}(h:b≠a):upd H a o b=H b:=by unfold upd;rw[aR h]
def II{H:Hp}{a:ak}(h:H a=some o)(h':H b=some u)(d:o≠u):a≠b:=by
 intro e;subst e;rw[h]at h';exact d<|br h'
def kh{H:Hp}{a:ak}(h:H a=some o)(h':H b=none):a≠b:=by
 intro e;subst e;rw[h]at h';cases h'
abbrev sE (h:aq)(a:ak)(items:Array af):Prop:=∃o,h.get? a=some o/\o.cls=.type "tuple" /\ o.dict=none/\∃n,o.data=.seq items n
def sE.tup{a:ak}:sE h a items->IsTup h a items:=λ⟨o,e,c,_,n,d⟩=>⟨o,e,c,n,d⟩
def sE.new(h:aq)(items:Array af):sE (h.push { cls:=.type "tuple",data:=.seq items }) h.objs.size items:=⟨_,bw _ rfl,rfl,rfl,_,rfl⟩
def sE.lt{h:aq}{a:ak}(x:sE h a items):a<h.objs.size:=let⟨_,ho,_⟩:=x;bq ho
section
variable (P:aj) (w:ah)
abbrev lC (H:Hp)(h:aq)(a:ak):HO->Prop
 | .lst xs=>xs.length<=sizeLine/\∃(d:ba) (n:Nat),Vals xs d/\h.get? a=some { cls:=.type "list",data:=.seq d.toArray n }
 | .tup xs=>xs.length<=sizeLine/\∃d:ba,Vals xs d/\sE h a d.toArray
 | .dK kvs=>kvs.length<=sizeLine/\(a == sysModules)=false/\∃k,KV kvs k/\h.DictOf (lK P w) a k
 | .dT kvs=>kvs.length<=sizeLine/\(a == sysModules)=false/\∃xs:List<|List Key×ak×af,
   Paired (λ(p:List Key×V) (q:List Key×ak×af)=>p.1=q.1/\H q.2.1=some (.tup<|p.1.map kV)/\RelV p.2 q.2.2) kvs xs /\
   ∃o es ep,h.get? a=some o/\o.ExactDict/\o.data=.dict es ep/\es.toList=xs.map (entryOfKey<|tupleKind<|lK P w)/\(xs.map (·.1)).Nodup
 | .set S n=>h.SetOf (intKind P w) a S n
 | .ins C dx fs=>H dx=some (.own a)/\fs.length<=1000/\dx≠a/\h.get? a=some (PySem.W.instObj C dx) /\
   ∃g,h.Ns1 dx g/\(∀f,yC (fs.lookup f)<|g f)/\PySem.Within g (fs.map (·.1))
 | .own _=>∃o,h.get? a=some o
 | .xd fs=>∃g,h.Ns1 a g/\∀f,yC (fs.lookup f) (g f)
 | .rng lo z=>∃t u v,h.get? a=some { cls:=.type "range",data:=.fields #[.int lo t,.int z u,.int 1 v]}
 | .frz o u=>h.get? a=some o/\lC H h a u
 | .tbl ps=>h.get? a=some { cls:=.none,data:=.fields ps }
 | .met f x=>h.get? a=some (PySem.W.methodObj (.ref f)<|.ref x)
 | .ext j=>j h/\(∃o,h.get? a=some o)/\∀h1 h2:aq,j h1->(∀o,h1.get? a=some o->h2.get? a=some o)->j h2
abbrev xx (H:Hp)(h:aq):Prop:=∀a o,H a=some o->lC P w H h a o
end
section
variable {P:aj}{w:ah}{H H':Hp}{h h':aq}{a:ak}{o:HO}
def lC.lt(x:lC P w H h a o):a<h.objs.size:=by
 cases o with
 | lst xs=>obtain⟨_,_,_,_,e⟩:=x;exact bq e
 | tup xs=>obtain⟨_,_,_,p⟩:=x;exact sE.lt p
 | dK kvs=>obtain⟨_,_,_,_,o,_,_,e,_⟩:=x;exact bq e
 | dT kvs=>obtain⟨_,_,_,_,o,_,_,e,_⟩:=x;exact bq e
 | set S n=>obtain⟨o,_,_,_,e,_⟩:=x;exact bq e
 | ins C dx fs=>obtain⟨_,_,_,e,_⟩:=x;exact bq e
 | own y=>obtain⟨_,e⟩:=x;exact bq e
 | xd fs=>obtain⟨_,⟨_,_,_,e,_⟩,_⟩:=x;exact bq e
 | rng lo g=>obtain⟨_,_,_,e⟩:=x;exact bq e
 | frz ob u=>obtain⟨e,_⟩:=x;exact bq e
 | tbl ps=>exact bq (show h.get? a=some _ from x)
 | met f y=>exact bq (show h.get? a=some _ from x)
 | ext d=>obtain⟨_,⟨_,e⟩,_⟩:=x;exact bq e
theorem Paired.Xq{α β:Type}{F G:α->β->Prop}:∀{l₁:List α}{l₂:List β},Paired F l₁ l₂->(∀a b,F a b->G a b)->Paired G l₁ l₂
 | _,_,.nil,_=>.nil
 | _,_,.cons r t,f=>.cons (f _ _ r)<|Paired.Xq t f
def lC.stay(x:lC P w H h a o)(k:∀b u,(b=a\/H b=some (.own a))->h.get? b=some u->h'.get? b=some u)
  (ho:∀b,H b=some (.own a)->H' b=some (.own a)) (ht:∀b xs,H b=some (.tup xs)->H' b=some (.tup xs)):lC P w H' h' a o:=by
 induction o with
 | lst xs=>obtain⟨z,g,n,r,e⟩:=x;exact⟨z,g,n,r,k _ _ (.inl rfl) e⟩
 | tup xs=>obtain⟨z,g,r,ob,e,c⟩:=x;exact⟨z,g,r,ob,k _ _ (.inl rfl) e,c⟩
 | dK kvs=>obtain⟨z,y,G,r,ob,es,ep,e,c⟩:=x;exact⟨z,y,G,r,ob,es,ep,k _ _ (.inl rfl) e,c⟩
 | dT kvs=>
  obtain⟨z,y,xs,r,ob,es,ep,e,c⟩:=x;exact⟨z,y,xs,Paired.Xq r λp q z=>⟨z.1,ht _ _ z.2.1,z.2.2⟩,ob,es,ep,k _ _ (.inl rfl) e,c⟩
 | set S n=>obtain⟨ob,es,ep,t,e,c⟩:=x;exact⟨ob,es,ep,t,k _ _ (.inl rfl) e,c⟩
 | ins C dx fs=>
  obtain⟨d,z,ne,e,B,⟨j,es,ep,e2,c⟩,r⟩:=x;exact⟨ho _ d,z,ne,k _ _ (.inl rfl) e,B,⟨j,es,ep,k _ _ (.inr d) e2,c⟩,r⟩
 | own y=>obtain⟨ob,e⟩:=x;exact⟨ob,k _ _ (.inl rfl) e⟩
 | xd fs=>obtain⟨B,⟨j,es,ep,e,c⟩,r⟩:=x;exact⟨B,⟨j,es,ep,k _ _ (.inl rfl) e,c⟩,r⟩
 | rng lo J=>obtain⟨t,u,v,e⟩:=x;exact⟨t,u,v,k _ _ (.inl rfl) e⟩
 | frz ob u F=>obtain⟨e,q⟩:=x;exact⟨k _ _ (.inl rfl) e,F q⟩
 | tbl ps=>
  have e:h.get? a=some { cls:=.none,data:=.fields ps }:=x
  skip
  exact k a _ (.inl rfl) e
 | met f y=>
  have e:h.get? a=some (PySem.W.methodObj (.ref f)<|.ref y):=x
  skip
  exact k a _ (.inl rfl) e
 | ext K=>obtain⟨p,⟨o,e⟩,st⟩:=x;exact⟨st _ _ p λo q=>k _ _ (.inl rfl) q,⟨o,k _ _ (.inl rfl) e⟩,st⟩
def xx.lt(x:xx P w H h)(e:H a=some o):a<h.objs.size:=(x a o e).lt
def xx.fresh(x:xx P w H h)(e:h.objs.size<=a):H a=none:=by
 cases q:H a with
 | none=>rfl
 | some u=>exact absurd (bV (x.lt q) e)<|f6 _
def xx.kept(x:xx P w H h)(k:∀b u,h.get? b=some u->h'.get? b=some u):xx P w H h':=λa o e=>
 (x a o e).stay (λb u _ q=>k b u q) (λ_ q=>q) λ_ _ q=>q
def xx.laid(x:xx P w H h)(k:∀b u,h.get? b=some u->h'.get? b=some u)(hp:h.objs.size<=a)(new:lC P w (upd H a o) h' a o):xx P w (upd H a o) h':=λb u e=>by
 have hn:=x.fresh hp;by_cases hb:b=a
 ·subst hb;rw[kQ]at e;cases e;exact new
 ·rw[j0 hb]at e;exact(x b u e).stay (λc v _ q=>k c v q) (λc q=>by rw[j0<|kh q hn];exact q) λc xs q=>by rw[j0<|kh q hn];exact q
end
abbrev Rd (H:Hp)(a:ak)(u:HO):Prop:=H a=some u\/∃o,H a=some (.frz o u)
def Rd.ok{P:aj}{w:ah}{H:Hp}{a:ak}(r:Rd H a u)(x:xx P w H h):lC P w H h a u:=by
 rcases r with r|⟨o,r⟩
 ·exact x a u r
 ·obtain⟨_,q⟩:=x a _ r;exact q
abbrev Mut:Option HO->Prop
 | some (.lst _)=>True
 | some (.dK _)=>True
 | some (.dT _)=>True
 | some (.set _ _)=>True
 | some (.ins _ _ _)=>True
 | some (.ext _)=>True
 | _=>False
section
variable {P:aj}{w:ah}{H:Hp}{h h':aq}{x e:ak}{o':HO}
def xx.write(ok:xx P w H h)(mu:Mut<|H x)(he:e=x\/H e=some (.own x))(k:∀b u,b≠e->h.get? b=some u->h'.get? b=some u)(heo:∃u,h'.get? e=some u)
  (new:lC P w (upd H x o') h' x o'):xx P w (upd H x o') h':=λb u q=>by
 have f:∀c y,H c=some (.own y)->c≠x:=λc y r z=>by subst z;rw[r]at mu;exact mu
 have g:∀c xs,H c=some (.tup xs)->c≠x:=λc xs r z=>by subst z;rw[r]at mu;exact mu
 by_cases hb:b=x
 ·subst hb;rw[kQ]at q;cases q;exact new
 ·rw[j0 hb]at q;by_cases d:b=e
  ·have j:H b=some (.own x):=by
    rcases he with z|z
    ·exact absurd (d.trans z) hb
    ·rw[d];exact z
   rw[q]at j;cases j;obtain⟨v,hv⟩:=heo;exact⟨v,by rw[d];exact hv⟩
  ·refine(ok b u q).stay (λc v hc r=>k c v ?_ r) (λc r=>by rw[j0<|f c b r];exact r) λc xs r=>by rw[j0<|g c xs r];exact r
   rcases hc with rfl|hc
   ·exact d
   ·rintro rfl
    rcases he with z|z
    ·exact f c b hc z
    ·rw[hc]at z;cases z;exact hb rfl
end
structure Un (fs ex:bb)(H H':Hp)(h h':aq):Prop where
 keep:∀b o,h.get? b=some o->H b=none->b∉fs->b∉ex->h'.get? b=some o
 slot:∀b o,h.get? b=some o->H b=none->b∈fs->b∉ex->∃sl,h'.get? b=some { o with slots:=sl }
 free:∀b o,h.get? b=some o->H b=none->b∉ex->H' b=none
 there:∀b o,h.get? b=some o->b∉ex->∃o',h'.get? b=some o'
 tups:∀b xs,H b=some (.tup xs)->H' b=some (.tup xs)
 frzs:∀b o u,H b=some (.frz o u)->H' b=some (.frz o u)
 tbls:∀b ps,H b=some (.tbl ps)->∃more,H' b=some (.tbl<|ps++more)
section
variable {fs ex:bb}{H H1:Hp}{h h1 h':aq}{a x e:ak}{o:HO}
def Un.any(u:Un fs ex H H1 h h1){ob:Obj}(q:h.get? b=some ob)(n:H b=none)(hx:b∉ex):∃sl,h1.get? b=some { ob with slots:=sl }:=by
 by_cases hb:b∈fs
 ·exact u.slot b ob q n hb hx
 ·exact⟨ob.slots,u.keep b ob q n hb hx⟩
def Un.kept(k:∀b u,h.get? b=some u->h'.get? b=some u):Un fs ex H H h h':=
 ⟨λb ob q _ _ _=>k b ob q,λb ob q _ _ _=>⟨ob.slots,k b ob q⟩,λ_ _ _ n _=>n,λb ob q _=>⟨ob,k b ob q⟩,λ_ _ q=>q,λ_ _ _ q=>q,λ_ ps q=>⟨#[],by rw[q];simp⟩⟩
def Un.refl:Un fs ex H H h h:=Un.kept λ_ _ q=>q
def Un.laid(k:∀b u,h.get? b=some u->h'.get? b=some u)(hp:h.objs.size<=a)(hn:H a=none):Un fs ex H (upd H a o) h h' where
 keep:=λb u q _ _ _=>k b u q
 slot:=λb u q _ _ _=>⟨u.slots,k b u q⟩
 free:=λb u q n _=>by rw[j0<|bD<|bV (bq q) hp];exact n
 there:=λb u q _=>⟨u,k b u q⟩
 tups:=λb xs q=>by rw[j0<|kh q hn];exact q
 frzs:=λb u xs q=>by rw[j0<|kh q hn];exact q
 tbls:=λb ps q=>⟨#[],by rw[j0<|kh q hn,q];simp⟩
def Un.write(mu:Mut<|H x)(he:e=x\/H e=some (.own x))(k:∀b u,b≠e->h.get? b=some u->h'.get? b=some u)(heo:∃u,h'.get? e=some u):Un fs ex H (upd H x o) h h':=by
 have g:∀b,H b=none->b≠x:=λb n z=>by subst z;rw[n]at mu;exact mu
 have hb:∀b,H b=none->b≠e:=λb n z=>by
  subst z
  rcases he with r|r
  ·exact g b n r
  ·rw[n]at r;cases r
 have f:∀b u,H b=some u->¬Mut (some u)->b≠x:=λb u q j z=>by subst z;rw[q]at mu;exact j mu
 refine⟨λb u q n _ _=>k b u (hb b n) q,λb u q n _ _=>⟨u.slots,k b u (hb b n) q⟩,λb u q n _=>by rw[j0<|g b n];exact n,λb u q _=>?_,
  λb xs q=>by rw[j0<|f b _ q λz=>z];exact q,λb u xs q=>by rw[j0<|f b _ q λz=>z];exact q,λb ps q=>⟨#[],by rw[j0<|f b _ q λz=>z,q];simp⟩⟩
 by_cases d:b=e
 ·subst d;exact heo
 ·exact⟨u,k b u d q⟩
end
abbrev trk (h:aq)(H:Hp):bb:=(List.range h.objs.size).filter λa=>(H a).isSome
abbrev Ec (h:aq)(H:Hp):aq:=PySem.W.hideAll h<|trk h H
def Lk(h:aq)(H:Hp):(Ec h H).objs.size=h.objs.size:=PySem.W.hideAll_size _ _
def MX{h:aq}{H:Hp}(e:h.get? b=some o)(n:H b=none):(Ec h H).get? b=some o:=
 PySem.W.hideAll_get _ e λd=>by
  have q:(H b).isSome=true:=(cA.mp d).2;rw[n]at q;simp at q
def Tp{h:aq}{H:Hp}(e:(Ec h H).get? b=some o):h.get? b=some o/\H b=none:=by
 have d:h.get? b=some o:=PySem.W.of_hideAll (trk h H) e;refine⟨d,?_⟩
 cases q:H b with
 | none=>rfl
 | some x=>
  have f:b∈trk h H:=cA.mpr ⟨cF.mpr<|bq d,by simp[q]⟩;have z:(Ec h H).get? b=none:=PySem.W.hideAll_none (trk h H) f;rw[z]at e;cases e
abbrev Td (g h:aq)(L:ak):bn:=(List.range h.objs.size).filterMap λa=>if a=L\/(g.get? a).isSome=true then none else(h.get? a).map λo=>(a,o)
abbrev rest (g h:aq)(L d:ak):bn:=(Td g h L).filter λp=>decide<|p.1≠d
structure Mod (K:au)(mg:Str->bd)(base:aq):Prop where
 kin:K.In base
 glob:base.Ns mainGlobals mg
 blt:∃mb,base.Ns builtinsNs mb/\∀x:Str,x ≠ "__name__" -> mb x=bootBuiltins x
 nolimit:base.NoLimit
structure Cx where
 prog:aj
 w:ah
 K:au
 mg:Str->bd
 base:aq
 A:aA
 N:ar
 s₀:aC
 H₀:Hp
 env:Env
 outer:List Env
 stack:List Env
 ex:bb
 fn:Str->Bool
 calm:Bool
 pn:bn
 xe:af->aC->Prop
abbrev frs (l:List Env):bb:=l.filterMap (·.frame)
meta abbrev Cx.fs (X:Cx):bb:=frs X.outer
abbrev Z5 (sc:Scope)(x:Str):Prop:=sc.names.lookup x=some .local\/sc.names.lookup x=some .cell\/sc.names.lookup x=some .free
abbrev Loc (sc:Scope)(x:Str):Prop:=sc.names.lookup x=some .local\/sc.names.lookup x=some .cell
abbrev Look (env:Env)(h:aq)(m:Str->bd)(x:Str)(u:af):Prop:=
 (env.kindOf x=some .local/\m x=some u)\/((env.kindOf x=some .cell\/env.kindOf x=some .free)/\∃c,env.cells.lookup x=some c/\h.IsCell c (some u))
structure Cx.Ok (X:Cx):Prop where
 mod:Mod X.K X.mg X.base
 kind:X.env.scope.kind=.function
 glob:X.env.globals=mainGlobals
 blt:X.env.builtins=builtinsNs
 above:X.s₀.heap.objs.size<=X.env.locals
 inj:∀x y c,X.env.cells.lookup x=some c->X.env.cells.lookup y=some c->x=y
 has:∀x,(X.env.kindOf x=some .cell\/X.env.kindOf x=some .free)->∃c,X.env.cells.lookup x=some c
 cab:∀x c,X.fn x=true->X.env.cells.lookup x=some c->X.s₀.heap.objs.size<=c
 hd:X.calm=true->X.A.handled=none
 frames:X.A.frames=some X.stack
 stk:X.stack=X.outer\/(X.stack=X.env::X.outer/\X.env.frame=some X.env.locals)
 exf:∀b∈X.ex,b≠X.env.locals/\∀x c,X.env.cells.lookup x=some c->c≠b
 bs:∀b o,X.base.get? b=some o->X.s₀.heap.get? b=some o/\X.H₀ b=none
 bsz:X.base.objs.size<=X.s₀.heap.objs.size
 noex:∀b o,X.base.get? b=some o->b∉X.ex
 exfs:∀b∈X.ex,b∉X.fs
 AK:X.s₀.heap.FunFrames X.base X.outer
 frf:∀b∈X.fs,X.H₀ b=none
structure Inv (X:Cx)(pins:bn)(σ:List (Option V))(H:Hp)(s:aC):Prop where
 ok:X.Ok
 os:s.os=X.s₀.os
 bare:AllBare s.gens
 base:Un X.fs X.ex X.H₀ H X.s₀.heap s.heap
 loc:∃m,s.heap.Ns X.env.locals m/\∀(i:Nat) (x:Str) (v:V),X.N[i]?=some x->σ[i]?=some (some v)->Z5 X.env.scope x->∃u,RelV v u/\Look X.env s.heap m x u
 cell:∀x c,X.env.cells.lookup x=some c->∃v,s.heap.IsCell c v
 free:H X.env.locals=none
 freeC:∀x c,X.env.cells.lookup x=some c->H c=none
 pin:∀p∈X.pn++pins,s.heap.get? p.1=some p.2/\H p.1=none/\p.1≠X.env.locals/\p.1∉X.fs/\∀v,p.2.data≠.cell v
 hok:xx X.prog X.w H s.heap
 len:σ.length=X.N.length
section
variable {X:Cx}{pins:bn}{σ:List (Option V)}{H H':Hp}{s:aC}{h':aq}
def Cx.Ok.acZ(ok:X.Ok)(e:X.base.get? b=some o):b∉X.fs:=λhb=>by
 have:=(ok.AK.mem hb).1;rw[e]at this;cases this
def Inv.bs(I:Inv X pins σ H s):∀b o,X.base.get? b=some o->s.heap.get? b=some o/\H b=none:=λb o e=>
 ⟨I.base.keep b o (I.ok.bs b o e).1 (I.ok.bs b o e).2 (I.ok.acZ e)<|I.ok.noex b o e,I.base.free b o (I.ok.bs b o e).1 (I.ok.bs b o e).2<|I.ok.noex b o e⟩
def Inv.bk(I:Inv X pins σ H s):∀b o,X.base.get? b=some o->s.heap.get? b=some o:=λb o e=>(I.bs b o e).1
def Inv.mod(I:Inv X pins σ H s):Mod X.K X.mg X.base:=I.ok.mod
def Inv.El(I:Inv X pins σ H s):X.K.In s.heap:=I.ok.mod.kin.keeps I.bk
def Inv.lt(I:Inv X pins σ H s):X.env.locals<s.heap.objs.size:=let⟨_,hn,_⟩:=I.loc;hn.lt
def Inv.sz(I:Inv X pins σ H s):X.s₀.heap.objs.size<=s.heap.objs.size:=bJ I.ok.above<|dZ I.lt
def Inv.acO(I:Inv X pins σ H s){a:ak}(h:s.heap.objs.size<=a):a∉X.fs:=λhb=>by
 obtain⟨_,o,d,_⟩:=I.ok.AK.mem hb;exact absurd (bV (bq d)<|bJ I.sz h)<|f6 _
def Inv.YO(I:Inv X pins σ H s):∀x c,X.env.cells.lookup x=some c->c≠X.env.locals:=λx c e z=>by
 obtain⟨v,o,g,j⟩:=I.cell x c e;obtain⟨m,⟨o',es,ep,d,f,_⟩,_⟩:=I.loc;rw[z,d]at g;cases g;rw[f]at j;cases j
def Inv.AK(I:Inv X pins σ H s):s.heap.FunFrames X.base X.outer:=by
 have all:∀(l:List Env),(∀b∈frs l,b∈X.fs)->X.s₀.heap.FunFrames X.base l->s.heap.FunFrames X.base l:=by
  intro l
  induction l with
  | nil=>intro _ _;trivial
  | cons env r k=>
   intro hs p;obtain⟨q,⟨L,o,hf,hn,f,g⟩,j⟩:=p;have d:L∈X.fs:=hs L (by unfold frs;rw[jb,hf];exact aL);obtain⟨t,e⟩:=I.base.slot L o f (I.ok.frf L d) d λz=>I.ok.exfs L z d;exact⟨q,⟨L,_,hf,hn,e,g⟩,k (λb hb=>hs b<|by unfold frs;rw[jb,hf];exact aQ _ hb) j⟩
 exact all X.outer (λ_ hb=>hb) I.ok.AK
def Inv.stack(I:Inv X pins σ H s):s.heap.FunFrames X.base X.stack:=by
 rcases I.ok.stk with e|⟨e,hf⟩
 ·rw[e];exact I.AK
 ·rw[e];obtain⟨m,hn,_⟩:=I.loc;refine .cons (by rw[I.ok.kind];decide) hf hn ?_ I.AK;exact Heap.get?_none_of_le<|bJ I.ok.bsz I.ok.above
def Inv.GD(I:Inv X pins σ H s):∀b∈frs X.stack,b∈X.env.locals::X.fs:=λb hb=>by
 rcases I.ok.stk with e|⟨e,hf⟩
 ·rw[e]at hb;exact aQ _ hb
 ·rw[e]at hb;unfold frs at hb;rw[jb,hf]at hb;exact hb
def Inv.HZ(I:Inv X pins σ H s):∀b∈frs X.stack,H b=none:=λb hb=>by
 rcases bH.mp (I.GD b hb)with e|hb
 ·rw[e];exact I.free
 ·obtain⟨_,o,d,_⟩:=I.ok.AK.mem hb;exact I.base.free b o d (I.ok.frf b hb) λz=>I.ok.exfs b z hb
def Inv.step{g':Array GenState}{t':Nat}{d':Drawn}{ch:bb}(I:Inv X pins σ H s)
  (hch:∀b∈ch,(b∈X.ex\/X.s₀.heap.objs.size<=b)/\b≠X.env.locals/\(∀x c,X.env.cells.lookup x=some c->c≠b)/\∀p∈X.pn++pins,p.1≠b)
  (keep:∀b o,b≠X.env.locals->b∉X.fs->b∉ch->s.heap.get? b=some o->H b=none->h'.get? b=some o)
  (slot:∀b o,b≠X.env.locals->b∈X.fs->b∉ch->s.heap.get? b=some o->H b=none->∃sl,h'.get? b=some { o with slots:=sl }) (free:∀b o,b∉ch->s.heap.get? b=some o->H b=none->H' b=none)
  (there:∀b o,b∉ch->s.heap.get? b=some o->∃o',h'.get? b=some o')
  (tups:∀b xs,H b=some (.tup xs)->H' b=some (.tup xs)) (frzs:∀b o u,H b=some (.frz o u)->H' b=some (.frz o u)) (tbls:∀b ps,H b=some (.tbl ps)->∃more,H' b=some (.tbl<|ps++more))
  (ns:∀m,s.heap.Ns X.env.locals m->h'.Ns X.env.locals m) (hok:xx X.prog X.w H' h') (hg:AllBare g') :
  Inv X pins σ H' { s with heap:=h',gens:=g',drawn:=d',toks:=t' }:=by
 have C:∀b o,X.s₀.heap.get? b=some o->b≠X.env.locals:=λb o e=>bD<|bV (bq e) I.ok.above;have t:∀b o,X.s₀.heap.get? b=some o->b∉X.ex->b∉ch:=λb o e f hb=>by
  rcases(hch b hb).1 with z|z
  ·exact f z
  ·exact absurd (bV (bq e) z)<|f6 _
 have g:∀x c,X.env.cells.lookup x=some c->∀v,s.heap.IsCell c v->h'.IsCell c v:=λx c e v ⟨o,B,F⟩=>by
  have j:c∉ch:=λz=>(hch c z).2.2.1 x c e rfl;by_cases hc:c∈X.fs
  ·obtain⟨sl,q⟩:=slot c o (I.YO x c e) hc j B<|I.freeC x c e;exact⟨_,q,F⟩
  ·exact⟨o,keep c o (I.YO x c e) hc j B<|I.freeC x c e,F⟩
 refine⟨I.ok,I.os,hg,⟨λb o e n hb f=>?_,λb o e n hb f=>?_,λb o e n f=>?_,λb o e f=>?_,λb xs e=>tups b xs<|I.base.tups b xs e,λb o xs e=>frzs b o xs<|I.base.frzs b o xs e,λb ps e=>?_⟩,?_,λx c e=>?_,?_,λx c e=>?_,λp K=>?_,hok,I.len⟩
 ·exact keep b o (C b o e) hb (t b o e f) (I.base.keep b o e n hb f) (I.base.free b o e n f)
 ·obtain⟨sl,e1⟩:=I.base.slot b o e n hb f;obtain⟨G,e2⟩:=slot b _ (C b o e) hb (t b o e f) e1<|I.base.free b o e n f;exact⟨G,e2⟩
 ·obtain⟨o',e1⟩:=I.base.there b o e f;exact free b o' (t b o e f) e1 (I.base.free b o e n f)
 ·obtain⟨o',e1⟩:=I.base.there b o e f;exact there b o' (t b o e f) e1
 ·obtain⟨L,e1⟩:=I.base.tbls b ps e;obtain⟨M,e2⟩:=tbls b _ e1;exact⟨L++M,by rw[e2,Array.append_assoc]⟩
 ·obtain⟨m,hn,N⟩:=I.loc;refine⟨m,ns m hn,λi x v e1 e2 e3=>?_⟩;obtain⟨u,r,l⟩:=N i x v e1 e2 e3;refine⟨u,r,?_⟩
  rcases l with l|⟨k,c,e,z⟩
  ·exact .inl l
  ·exact .inr ⟨k,c,e,g x c e _ z⟩
 ·obtain⟨v,z⟩:=I.cell x c e;exact⟨v,g x c e v z⟩
 ·obtain⟨m,⟨o,_,_,B,_⟩,_⟩:=I.loc;exact free _ o (λz=>(hch _ z).2.1 rfl) B I.free
 ·obtain⟨v,o,B,F⟩:=I.cell x c e;exact free c o (λz=>(hch c z).2.2.1 x c e rfl) B (I.freeC x c e)
 ·obtain⟨e,n,ne,J,d⟩:=I.pin p K;have j:p.1∉ch:=λz=>(hch p.1 z).2.2.2 p K rfl;exact⟨keep p.1 p.2 ne J j e n,free p.1 p.2 j e n,ne,J,d⟩
def Inv.un{t':Nat}(I:Inv X pins σ H s)(u:Un X.fs [] H H' s.heap h')(hok:xx X.prog X.w H' h'):Inv X pins σ H' { s with heap:=h',toks:=t' }:=by
 obtain⟨m,⟨o,es,ep,j,r⟩,_⟩:=id I.loc;obtain⟨z,q⟩:=u.any j I.free (by simp);exact I.step (g':=s.gens) (d':=s.drawn) (ch:=[]) (nofun) (λb o _ hb _ e n=>u.keep b o e n hb<|by simp) (λb o _ hb _ e n=>u.slot b o e n hb<|by simp) (λb o _ e n=>u.free b o e n<|by simp) (λb o _ e=>u.there b o e<|by simp) u.tups u.frzs u.tbls (λt k=>by
  obtain⟨o',g,f,d,p⟩:=k;rw[j]at d;cases d;exact⟨_,g,f,q,p⟩) hok I.bare
def Inv.call{g':Array GenState}{t':Nat}{d':Drawn}{ch:bb}(I:Inv X pins σ H s)(u:Un (frs X.stack) ch H H' s.heap h')(hok:xx X.prog X.w H' h')(hg:AllBare g')
  (hch:∀b∈ch,(b∈X.ex\/X.s₀.heap.objs.size<=b)/\b≠X.env.locals/\(∀x c,X.env.cells.lookup x=some c->c≠b)/\∀p∈X.pn++pins,p.1≠b) :
  Inv X pins σ H' { s with heap:=h',gens:=g',drawn:=d',toks:=t' }:=by
 obtain⟨m,⟨o,es,ep,k,r⟩,_⟩:=id I.loc;obtain⟨C,g⟩:=u.any k I.free λz=>(hch _ z).2.1 rfl;exact I.step (ch:=ch) hch (λb o g hb hc e n=>u.keep b o e n (λz=>(bH.mp<|I.GD b z).elim g hb) hc) (λb o _ _ hc e n=>u.any e n hc) (λb o hc e n=>u.free b o e n hc) (λb o hc e=>u.there b o e hc) u.tups u.frzs u.tbls (λB q=>by
  obtain⟨o',j,f,d,t⟩:=q;rw[k]at d;cases d;exact⟨_,j,f,g,t⟩) hok hg
def Inv.turned{t':Nat}{it:ak}(I:Inv X pins σ H s)(k:∀b o,b≠it->s.heap.get? b=some o->h'.get? b=some o)(hn:H it=none)(hL:it≠X.env.locals)
  (h1:it∈X.ex\/X.s₀.heap.objs.size<=it) (h2:∀x c,X.env.cells.lookup x=some c->c≠it) (h3:∀p∈X.pn++pins,p.1≠it):Inv X pins σ H { s with heap:=h',toks:=t' }:=by
 have d:∀b u,H b=some u->b≠it:=λb u e z=>by rw[z,hn]at e;cases e
 refine I.step (g':=s.gens) (d':=s.drawn) (ch:=[it]) (λb hb=>?_) (λb o _ _ hc e _=>k b o (λz=>hc<|by simp[z]) e) (λb o _ _ hc e _=>⟨o.slots,k b o (λz=>hc<|by simp[z]) e⟩) (λ_ _ _ _ n=>n)
  (λb o hc e=>⟨o,k b o (λz=>hc<|by simp[z]) e⟩) (λ_ _ e=>e) (λ_ _ _ e=>e) (λb ps e=>⟨#[],by rw[e];simp⟩) (λm g=>?_) (λb u e=>?_) I.bare
 ·have e:b=it:=by simpa using hb
  subst e;exact⟨h1,hL,h2,h3⟩
 ·obtain⟨o,es,ep,f,r⟩:=g;exact⟨o,es,ep,k _ o (cR hL) f,r⟩
 ·refine(I.hok b u e).stay (λc v hc q=>k c v ?_ q) (λ_ q=>q) λ_ _ q=>q
  rcases hc with z|z
  ·rw[z];exact d b u e
  ·exact d c _ z
def Inv.tok(I:Inv X pins σ H s)(t:Nat):Inv X pins σ H { s with toks:=t }:=I.un (h':=s.heap) (t':=t) Un.refl I.hok
def Inv.kept{t':Nat}(I:Inv X pins σ H s)(k:∀b u,s.heap.get? b=some u->h'.get? b=some u):Inv X pins σ H { s with heap:=h',toks:=t' }:=I.un (Un.kept k)<|I.hok.kept k
def Inv.laid{a:ak}{t':Nat}(I:Inv X pins σ H s)(k:∀b u,s.heap.get? b=some u->h'.get? b=some u)(hp:s.heap.objs.size<=a)(new:lC X.prog X.w (upd H a o) h' a o) :
  Inv X pins σ (upd H a o) { s with heap:=h',toks:=t' }:=I.un (Un.laid k hp<|I.hok.fresh hp)<|I.hok.laid k hp new
def Inv.write{x e:ak}{t':Nat}(I:Inv X pins σ H s)(mu:Mut<|H x)(he:e=x\/H e=some (.own x))(k:∀b u,b≠e->s.heap.get? b=some u->h'.get? b=some u)(heo:∃u,h'.get? e=some u)
  (new:lC X.prog X.w (upd H x o) h' x o):Inv X pins σ (upd H x o) { s with heap:=h',toks:=t' }:=I.un (Un.write mu he k heo)<|I.hok.write mu he k heo new
def Inv.Jo{pins':bn}(I:Inv X pins σ H s)(h:∀p∈pins',s.heap.get? p.1=some p.2/\H p.1=none/\p.1≠X.env.locals/\p.1∉X.fs/\∀v,p.2.data≠.cell v):Inv X pins' σ H s:=
 ⟨I.ok,I.os,I.bare,I.base,I.loc,I.cell,I.free,I.freeC,λp d=>(bG.mp d).elim (λz=>I.pin p<|gg _ z)<|h p,I.hok,I.len⟩
def EH{N:ar}(hN:N.Nodup){i j:Nat}{x:Str}(a:N[i]?=some x)(b:N[j]?=some x):i=j:=by
 obtain⟨h1,e1⟩:=aJ.mp a;obtain⟨h2,e2⟩:=aJ.mp b;exact(cg hN).mp (e1.trans e2.symm)
def LU{A:aA}{E:af->aC->Prop}{i:Nat}{x:Str}{v:V}{Q:Unit->aC->Prop}(I:Inv X pins σ H s)(hN:X.N.Nodup)(hi:X.N[i]?=some x)(hx:Loc X.env.scope x)(r:RelV v u)
  (h:∀s',Inv X pins (σ.set i<|some v) H s'->(∃a,Heap.SameBut a s.heap s'.heap/\(a=X.env.locals\/X.env.cells.lookup x=some a))->Q Unit.unit s') (hf:X.fn x=true\/X.env.scope.names.lookup x=some .local:=by first|exact .inl rfl|exact .inr rfl|assumption):wpAny M A (storeName X.env x u) Q E s:=by
 obtain⟨m,hn,hl⟩:=id I.loc;have G:(X.env.scope.kind == .class || (X.env.scope.kind == .module && X.env.locals != X.env.globals))=false:=by rw[I.ok.kind];rfl
 have t:i<σ.length:=by rw[I.len];exact(aJ.mp hi).1
 have YO:=I.YO;have f:∀{a:ak} {h':aq},(∃o,s.heap.get? a=some o/\H a=none)->Heap.SameBut a s.heap h'->xx X.prog X.w H h':=λ{a h'} ha hs b ob e=>by
  obtain⟨_,_,hfree⟩:=ha;refine(I.hok b ob e).stay (λc O hc q=>(hs.2 c ?_).trans q) (λ_ q=>q) λ_ _ q=>q;rintro rfl
  rcases hc with rfl|hc
  ·rw[hfree]at e;cases e
  ·rw[hfree]at hc;cases hc
 rcases hx with g|g
 ·refine wpAny_storeName_local g hn (λh' T hs=>?_) G;obtain⟨oL,_,_,Z,_⟩:=id hn;refine h _ ⟨I.ok,I.os,I.bare,⟨λb o e n hb hx=>?_,λb o e n hb hx=>?_,I.base.free,λb o e hx=>?_,I.base.tups,I.base.frzs,I.base.tbls⟩,⟨_,T,λj y U e1 e2 e3=>?_⟩,λy c e=>?_,I.free,I.freeC,λp hp=>?_,f ⟨oL,Z,I.free⟩ hs,by simpa using I.len⟩ ⟨_,hs,.inl rfl⟩
  ·exact(hs.2 b<|bD<|bV (bq e) I.ok.above).trans (I.base.keep b o e n hb hx)
  ·obtain⟨sl,e1⟩:=I.base.slot b o e n hb hx;exact⟨sl,(hs.2 b<|bD<|bV (bq e) I.ok.above).trans e1⟩
  ·obtain⟨o',e1⟩:=I.base.there b o e hx;exact⟨o',(hs.2 b<|bD<|bV (bq e) I.ok.above).trans e1⟩
  ·by_cases B:j=i
   ·subst B;rw[hi]at e1;cases e1;rw[bE t]at e2
    cases e2
    exact⟨u,r,.inl ⟨g,by simp⟩⟩
   ·rw[bM<|cR B]at e2;obtain⟨u',Y,q⟩:=hl j y U e1 e2 e3;refine⟨u',Y,?_⟩
    rcases q with⟨k,e⟩|⟨k,c,e,z⟩
    ·refine .inl ⟨k,?_⟩;have:y≠x:=λe=>B<|EH hN e1<|e ▸ hi;simp[this,e]
    ·exact .inr ⟨k,c,e,z.sameBut hs<|YO y c e⟩
  ·obtain⟨O,z⟩:=I.cell y c e;exact⟨O,z.sameBut hs<|YO y c e⟩
  ·obtain⟨e,n,ne,W,d⟩:=I.pin p hp;exact⟨(hs.2 p.1 ne).trans e,n,ne,W,d⟩
 ·have C:X.fn x=true:=by
   rcases hf with z|z
   ·exact z
   ·rw[z]at g;cases g
  obtain⟨c,hc⟩:=I.ok.has x<|.inl g;obtain⟨O,z⟩:=I.cell x c hc;refine wpAny_storeName_cell I.ok.kind g hc z λh' J hs=>?_;obtain⟨oc,F,K⟩:=id z;refine h { s with heap:=h' } ⟨I.ok,I.os,I.bare,⟨λb o e n hb hx=>?_,λb o e n hb hx=>?_,I.base.free,λb o e hx=>?_,I.base.tups,I.base.frzs,I.base.tbls⟩,⟨m,hn.sameBut hs<|cR<|YO x c hc,λj y U e1 e2 e3=>?_⟩,λy P e=>?_,I.free,I.freeC,λp hp=>?_,f ⟨oc,F,I.freeC x c hc⟩ hs,by simpa using I.len⟩ ⟨c,hs,.inr hc⟩
  ·exact(hs.2 b<|bD<|bV (bq e)<|I.ok.cab x c C hc).trans (I.base.keep b o e n hb hx)
  ·obtain⟨sl,e1⟩:=I.base.slot b o e n hb hx;exact⟨sl,(hs.2 b<|bD<|bV (bq e)<|I.ok.cab x c C hc).trans e1⟩
  ·obtain⟨o',e1⟩:=I.base.there b o e hx;exact⟨o',(hs.2 b<|bD<|bV (bq e)<|I.ok.cab x c C hc).trans e1⟩
  ·by_cases B:j=i
   ·subst B;rw[hi]at e1;cases e1;rw[bE t]at e2
    cases e2
    exact⟨u,r,.inr ⟨.inl g,c,hc,J⟩⟩
   ·rw[bM<|cR B]at e2;obtain⟨u',Y,q⟩:=hl j y U e1 e2 e3;refine⟨u',Y,?_⟩
    rcases q with q|⟨k,P,e,z'⟩
    ·exact .inl q
    ·refine .inr ⟨k,P,e,z'.sameBut hs ?_⟩;rintro rfl;exact B<|EH hN e1<|I.ok.inj _ _ _ e hc ▸ hi
  ·by_cases L:P=c
   ·subst L;exact⟨_,J⟩
   ·obtain⟨w2,z2⟩:=I.cell y P e;exact⟨w2,z2.sameBut hs L⟩
  ·obtain⟨e,n,ne,W,d⟩:=I.pin p hp;refine⟨(hs.2 p.1 ?_).trans e,n,ne,W,d⟩;intro q;rw[q,F]at e;have q':oc=p.2:=br e;exact d O<|by rw[<- q'];exact K
def Ax{A:aA}{E:af->aC->Prop}{i:Nat}{x:Str}{v:V}{Q:Unit->aC->Prop}(I:Inv X pins σ H s)(hN:X.N.Nodup)(hi:X.N[i]?=some x)(hx:Loc X.env.scope x)(r:RelV v u)
  (h:∀s',Inv X pins (σ.set i<|some v) H s'->Q Unit.unit s') (hf:X.fn x=true\/X.env.scope.names.lookup x=some .local:=by first|exact .inl rfl|exact .inr rfl|assumption):wpAny M A (storeName X.env x u) Q E s:=
 LU I hN hi hx r (λs' d _=>h s' d) hf
def Inv.Ky{s':aC}{ch:bb}(I:Inv X pins σ H s)(ho:s'.os=s.os)(u:Un (frs X.stack) ch H H' s.heap s'.heap)(hok:xx X.prog X.w H' s'.heap)(hg:AllBare s'.gens)
  (hch:∀b∈ch,(b∈X.ex\/X.s₀.heap.objs.size<=b)/\b≠X.env.locals/\(∀x c,X.env.cells.lookup x=some c->c≠b)/\∀p∈X.pn++pins,p.1≠b):Inv X pins σ H' s':=by
 obtain⟨h',g',d',t',o'⟩:=s';have e:o'=s.os:=ho;subst e;exact I.call (g':=g') (t':=t') (d':=d') u hok hg hch
end
meta abbrev XK:=af->Option ak->Hp->Prop
meta abbrev St:=List<|Option V
meta abbrev VK:=V->Hp->Prop
meta abbrev TE:=St->Hp->VK->Prop
meta abbrev TT:=St->Hp->(Bool->Hp->Prop)->Prop
meta abbrev TA:=St->Hp->(List V->Hp->Prop)->Prop
structure Ends where
 nx:St->Hp->Prop
 rt:VK
 bk:St->Hp->Prop:=λ_ _=>False
 ct:St->Hp->Prop:=λ_ _=>False
meta abbrev TS:=Ends->St->Hp->Prop
abbrev EP (X:Cx)(pins:bn)(σ:St)(Q:VK)(u:af)(s':aC):Prop:=∃v H',Inv X pins σ H' s'/\RelV v u/\Q v H'
abbrev TP (X:Cx)(pins:bn)(σ:St)(Q:Bool->Hp->Prop)(b:Bool)(s':aC):Prop:=∃H',Inv X pins σ H' s'/\Q b H'
abbrev AP (X:Cx)(pins:bn)(σ:St)(Q:List V->Hp->Prop)(us:ba)(s':aC):Prop:=∃d H',Inv X pins σ H' s'/\Vals d us/\Q d H'
abbrev SP (X:Cx)(pins:bn)(D:Ends)(f:Flow)(s':aC):Prop:=
 match f with
 | .next=>∃d H',Inv X pins d H' s'/\D.nx d H'
 | .brk=>∃d H',Inv X pins d H' s'/\D.bk d H'
 | .cont=>∃d H',Inv X pins d H' s'/\D.ct d H'
 | .ret u=>∃v d H',Inv X pins d H' s'/\RelV v u/\D.rt v H'
abbrev PE (X:Cx)(e:aE)(t:TE):Prop:=
 ∀(pins:bn) (s:aC) (σ:St) (H:Hp) (Q:VK),Inv X pins σ H s->t σ H Q->wpAny (model X.prog X.w) X.A (eval e X.env) (EP X pins σ Q) X.xe s
abbrev PT (X:Cx)(e:aE)(t:TT):Prop:=
 ∀(pins:bn) (s:aC) (σ:St) (H:Hp) (Q:Bool->Hp->Prop),Inv X pins σ H s->t σ H Q->wpAny (model X.prog X.w) X.A (isTrue e X.env<|eval e X.env) (TP X pins σ Q) X.xe s
abbrev PW (X:Cx)(e:aE)(t:TT):Prop:=
 ∀(d:Sem af) (pins:bn) (s:aC) (σ:St) (H:Hp) (Q:Bool->Hp->Prop),Inv X pins σ H s->t σ H Q->wpAny (model X.prog X.w) X.A (isTrue e X.env d) (TP X pins σ Q) X.xe s
abbrev PA (X:Cx)(es:List aE)(t:TA):Prop:=
 ∀(pos:Pos) (pins:bn) (s:aC) (σ:St) (H:Hp) (Q:List V->Hp->Prop),Inv X pins σ H s->t σ H Q->wpAny (model X.prog X.w) X.A (spliced<|backTo pos<|starEach es X.env) (AP X pins σ Q) X.xe s
abbrev PS (X:Cx)(st:aF)(t:TS):Prop:=
 ∀(pins:bn) (s:aC) (σ:St) (H:Hp) (D:Ends),Inv X pins σ H s->t D σ H->wpAny (model X.prog X.w) X.A (exec st X.env) (SP X pins D) X.xe s
abbrev C8 (X:Cx)(st:List aF)(t:TS):Prop:=
 ∀(pins:bn) (s:aC) (σ:St) (H:Hp) (D:Ends),Inv X pins σ H s->t D σ H->wpAny (model X.prog X.w) X.A (execs st X.env) (SP X pins D) X.xe s
def nL{α:Type}{t:Sem α}{Q Q':α->aC->Prop}{A:aA}{E:af->aC->Prop}(h:wpAny M A t Q E s)(hQ:∀a s,Q a s->Q' a s):wpAny M A t Q' E s:=fN h hQ λ_ _ x=>x
section
variable {X:Cx}
abbrev ab_ (i:Nat):TE:=λσ H Q=>∃v,σ[i]?=some (some v)/\Q v H
abbrev tC (v:V):TE:=λ_ H Q=>Q v H
def Yp{i:Nat}{x:Str}(hN:X.N[i]?=some x)(hv:Z5 X.env.scope x)(hd:(x == ("__debug__" : Str))=false:=by decide)(hcd:(x == ("__classdict__" : Str))=false:=by decide):PE X (.Name x pos) (ab_ i):=by
 gn_on;obtain⟨v,e,h⟩:=h;obtain⟨m,hn,k⟩:=I.loc;obtain⟨u,r,l⟩:=k i x v hN e hv;have g:EP X pins σ Q u s:=⟨v,H,I,r,h⟩
 rcases l with⟨f,j⟩|⟨f,c,hc,d⟩
 ·exact wpAny_Name (wpAny_loadName_local I.ok.kind f hn j g) hd
 ·rcases f with f|f
  ·exact wpAny_Name (wpAny_loadName_cell I.ok.kind f hc d g) hd
  ·exact wpAny_Name (wpAny_loadName_free I.ok.kind f hc d g hcd) hd
def Ys{i j pos}:PE X (.Constant (.int i) j pos) (tC<|.int i):=λ_ _ _ H _ I h=>wpAny_Constant_int ⟨.int i,H,I.tok _,⟨_,rfl⟩,h⟩
def aat{b j pos}:PE X (.Constant (.bool b) j pos) (tC<|.bl b):=λ_ _ _ H _ I h=>Constant_bool ⟨.bl b,H,I,rfl,h⟩
def WN{j pos}:PE X (.Constant .none j pos) (tC .non):=λ_ _ _ H _ I h=>Constant_none ⟨.non,H,I,rfl,h⟩
abbrev Gl (X:Cx)(x:Str):Prop:=X.env.kindOf x=some .globalImplicit
def Jz{E:af->aC->Prop}{H:Hp}{x:Str}{Q:af->aC->Prop}(I:Inv X pins σ H s)(hg:Gl X x)(hm:X.mg x=some u)(h:Q u s)
  (hd:(x == ("__debug__" : Str))=false:=by decide):wpAny (model X.prog X.w) X.A (eval (.Name x pos) X.env) Q E s:=
 Calls.Name_function_global I.ok.kind hg (Calls.loadGlobal_global (by rw[I.ok.glob];exact I.mod.glob.keeps I.bk) hm h) hd
def yW{E:af->aC->Prop}{H:Hp}{x:Str}{Q:af->aC->Prop}(I:Inv X pins σ H s)(hg:Gl X x)(hm:X.mg x=none)(hv:bootBuiltins x=some u)(h:Q u s)
  (hn:x ≠ "__name__" := by decide) (hd:(x == ("__debug__" : Str))=false:=by decide):wpAny (model X.prog X.w) X.A (eval (.Name x pos) X.env) Q E s:=by
 obtain⟨d,h1,h2⟩:=I.mod.blt;exact Calls.Name_function_global I.ok.kind hg (Calls.loadGlobal_builtin (by rw[I.ok.glob];exact I.mod.glob.keeps I.bk) hm (by rw[I.ok.blt];exact h1.keeps I.bk) ((h2 x hn).trans hv) h) hd
def JC{x:Str}{v:V}(hg:Gl X x)(hm:X.mg x=some u)(r:RelV v u)(hd:(x == ("__debug__" : Str))=false:=by decide):PE X (.Name x pos) (tC v):=
 λ_ _ _ H _ I h=>Jz I hg hm ⟨v,H,I,r,h⟩ hd
def Vo{x:Str}{v:V}(hg:Gl X x)(hm:X.mg x=none)(hv:bootBuiltins x=some u)(r:RelV v u)(hn:x ≠ "__name__" := by decide)(hd:(x == ("__debug__" : Str))=false:=by decide):PE X (.Name x pos) (tC v):=
 λ_ _ _ H _ I h=>yW I hg hm hv ⟨v,H,I,r,h⟩ hn hd
variable {a b:aE}{ta tb:TE}{pos:Pos}
variable {tA tB':TT}{rest:List aE}
abbrev aaJ (t u:TT):TT:=λσ H Q=>t σ H λc H1=>if c=true then u σ H1 Q else Q false H1
abbrev tOr (t u:TT):TT:=λσ H Q=>t σ H λc H1=>if c=true then Q true H1 else u σ H1 Q
abbrev acM (t:TT):TT:=λσ H Q=>t σ H λc H1=>Q (!c) H1
def Tf(ha:PT X a tA):PW X (.BoolOp .And [a] pos) tA:=by
 intro d pins s σ H Q I h;refine isTrue_and (nL (ha pins s σ H Q I h) λc f e=>?_)
 cases c with
 | true=>exact isTrue_and_nil e
 | false=>exact e
def WW(ha:PT X a tA):PW X (.BoolOp .Or [a] pos) tA:=by
 intro d pins s σ H Q I h;refine isTrue_or (nL (ha pins s σ H Q I h) λc f e=>?_)
 cases c with
 | false=>exact isTrue_or_nil e
 | true=>exact e
def YZ(ha:PT X a tA)(hb:PW X (.BoolOp .And (b::rest) pos) tB'):PW X (.BoolOp .And (a::b::rest) pos) (aaJ tA tB'):=by
 intro g pins s σ H Q I h;refine isTrue_and (nL (ha pins s σ H _ I h) λc j ⟨H1,f,d⟩=>?_)
 cases c with
 | true=>exact hb g pins j σ H1 Q f d
 | false=>exact⟨H1,f,d⟩
def aam(ha:PT X a tA)(hb:PW X (.BoolOp .Or (b::rest) pos) tB'):PW X (.BoolOp .Or (a::b::rest) pos) (tOr tA tB'):=by
 intro g pins s σ H Q I h;refine isTrue_or (nL (ha pins s σ H _ I h) λc j ⟨H1,f,d⟩=>?_)
 cases c with
 | true=>exact⟨H1,f,d⟩
 | false=>exact hb g pins j σ H1 Q f d
def X_(ha:PT X a tA):PT X (.UnaryOp .Not a pos) (acM tA):=by
 gn_on;exact isTrue_not<|ha pins s σ H (λc H1=>Q (!c) H1) I h
abbrev aaf (ta tb:TE):TE:=λσ H Q=>ta σ H λx H1=>∃c,x=.bl c/\if c=true then tb σ H1 Q else Q (.bl false) H1
abbrev aaz (ta:TE):TE:=λσ H Q=>ta σ H λx H1=>∃c,x=.bl c/\Q (.bl<|!c) H1
def W4{op}{t:TE}(h:PE X a t):PE X (.BoolOp op [a] pos) t:=λpins s σ H Q I hw=>BoolOp_one<|h pins s σ H Q I hw
def WM(ha:PE X a ta)(hb:PE X (.BoolOp .And (b::rest) pos) tb):PE X (.BoolOp .And (a::b::rest) pos) (aaf ta tb):=by
 gn_on;refine BoolOp_and<|nL (ha pins s σ H _ I h) λv g ⟨x,H1,f,r1,d⟩=>?_;obtain⟨c,rfl,d⟩:=d
 cases r1
 refine cT ?_
 cases c with
 | true=>exact hb pins g σ H1 Q f d
 | false=>exact⟨.bl false,H1,f,rfl,d⟩
def WU(ha:PE X a ta):PE X (.UnaryOp .Not a pos) (aaz ta):=by
 gn_on;refine UnaryOp_<|nL (ha pins s σ H _ I h) λv g ⟨x,H1,f,r1,d⟩=>?_;obtain⟨c,rfl,d⟩:=d
 cases r1
 exact not_of<|cT ⟨.bl<|!c,H1,f,rfl,d⟩
end
abbrev qe (K:au)(H:Hp)(a:ak)(xs:List V):Prop:=
 Rd H a (.lst xs) \/
  ∃(o:Obj) (d:Array af) (n:Nat),K.lookup a=some o/\o.cls=.type "list" /\ o.dict=none/\o.data=.seq d n/\d.size<=sizeLine/\Vals xs d.toList
abbrev nO (K:au)(H:Hp)(a:ak)(xs:List V):Prop:=
 Rd H a (.tup xs) \/
  ∃(o:Obj) (d:Array af) (n:Nat),K.lookup a=some o/\o.cls=.type "tuple" /\ o.dict=none/\o.data=.seq d n/\d.size<=sizeLine/\Vals xs d.toList
abbrev acH:af->Option V
 | .none=>some .non
 | .bool b=>some (.bl b)
 | .int i _=>some (.int i)
 | .str x _=>some (.str x)
 | .bytes b _=>some (.byt b)
 | .float b _=>some (.flt b)
 | .ref a=>some (.ref a)
 | .type n=>some (.ty n)
 | _=>none
def RelV.abs{x:V}(r:RelV x u):acH u=some x:=by
 cases x with
 | non=>cases r;rfl
 | bl _=>cases r;rfl
 | int _=>obtain⟨t,rfl⟩:=r;rfl
 | str _=>obtain⟨t,rfl⟩:=r;rfl
 | byt _=>obtain⟨t,rfl⟩:=r;rfl
 | flt _=>obtain⟨t,rfl⟩:=r;rfl
 | ref _=>cases r;rfl
 | ty _=>cases r;rfl
def RelV.inj{x:V}(r:RelV x u)(q:RelV y u):x=y:=br<|r.abs.symm.trans q.abs
theorem Vals.inj:∀{xs ys:List V}{us:ba},Vals xs us->Vals ys us->xs=ys
 | _,_,_,.nil,.nil=>rfl
 | _,_,_,.cons r t,.cons d f=>by rw[r.inj d,Vals.inj t f]
section
variable {X:Cx}{pins:bn}{σ:St}{H:Hp}{s:aC}{a:ak}{xs ys:List V}
def qe.of{K:au}(h:H a=some (.lst xs)):qe K H a xs:=.inl<|.inl h
def nO.of{K:au}(h:H a=some (.tup xs)):nO K H a xs:=.inl<|.inl h
def Inv.list(I:Inv X pins σ H s)(h:qe X.K H a xs):∃its:ba,Vals xs its/\PlainL s.heap a its.toArray/\xs.length<=sizeLine:=by
 rcases h with h|⟨o,its,n,d,hc,f,hs,g,r⟩
 ·obtain⟨z,its,n,r,e⟩:=h.ok I.hok;exact⟨its,r,⟨_,n,e,rfl,rfl,rfl⟩,z⟩
 ·refine⟨its.toList,r,⟨o,n,I.El a o d,hc,f,by simpa using hs⟩,?_⟩;have e:=r.length;dsimp[eF]at e
  lia
def Inv.tuple(I:Inv X pins σ H s)(h:nO X.K H a xs):∃its:ba,Vals xs its/\IsTup s.heap a its.toArray/\xs.length<=sizeLine:=by
 rcases h with h|⟨o,its,n,d,hc,_,hs,f,r⟩
 ·obtain⟨z,its,r,p⟩:=h.ok I.hok;exact⟨its,r,p.tup,z⟩
 ·refine⟨its.toList,r,⟨o,I.El a o d,hc,n,by simpa using hs⟩,?_⟩;have e:=r.length;dsimp[eF]at e
  lia
def Inv.Q6(I:Inv X pins σ H s)(h:qe X.K H a xs)(h':qe X.K H a ys):xs=ys:=by
 obtain⟨g,r,⟨o,n,e,_,_,d⟩,_⟩:=I.list h;obtain⟨f,p,⟨o',t,k,_,_,j⟩,_⟩:=I.list h';rw[e]at k;cases k;rw[d]at j
 injection j with q _
 have:g=f:=by simpa using cV Array.toList q
 subst this;exact r.inj p
def Inv.vX(I:Inv X pins σ H s)(h:nO X.K H a xs)(h':nO X.K H a ys):xs=ys:=by
 obtain⟨g,r,⟨o,e,_,n,d⟩,_⟩:=I.tuple h;obtain⟨f,p,⟨o',k,_,t,j⟩,_⟩:=I.tuple h';rw[e]at k;cases k;rw[d]at j
 injection j with q _
 have:g=f:=by simpa using cV Array.toList q
 subst this;exact r.inj p
end
meta abbrev Cx.BF (X:Cx)(E:af->aC->Prop):Cx:={ X with xe:=E }
meta abbrev Cx.nox (X:Cx):Cx:=X.BF λ_ _=>False
def Cx.Ok.BF{X:Cx}(ok:X.Ok)(E:af->aC->Prop):(X.BF E).Ok:=
 ⟨ok.mod,ok.kind,ok.glob,ok.blt,ok.above,ok.inj,ok.has,ok.cab,ok.hd,ok.frames,ok.stk,ok.exf,ok.bs,ok.bsz,ok.noex,ok.exfs,ok.AK,ok.frf⟩
def Cx.Ok.vE{X:Cx}{E:af->aC->Prop}(ok:(X.BF E).Ok):X.Ok:=
 ⟨ok.mod,ok.kind,ok.glob,ok.blt,ok.above,ok.inj,ok.has,ok.cab,ok.hd,ok.frames,ok.stk,ok.exf,ok.bs,ok.bsz,ok.noex,ok.exfs,ok.AK,ok.frf⟩
section
variable {X:Cx}{pins:bn}{σ:St}{H:Hp}{s:aC}{E:af->aC->Prop}
def Inv.BF(I:Inv X pins σ H s)(E:af->aC->Prop):Inv (X.BF E) pins σ H s:=⟨I.ok.BF E,I.os,I.bare,I.base,I.loc,I.cell,I.free,I.freeC,I.pin,I.hok,I.len⟩
def Inv.vE(I:Inv (X.BF E) pins σ H s):Inv X pins σ H s:=⟨I.ok.vE,I.os,I.bare,I.base,I.loc,I.cell,I.free,I.freeC,I.pin,I.hok,I.len⟩
def SP.vE{D:Ends}{f:Flow}(h:SP (X.BF E) pins D f s'):SP X pins D f s':=by
 cases f with
 | next=>obtain⟨d,H',I,q⟩:=h;exact⟨d,H',I.vE,q⟩
 | brk=>obtain⟨d,H',I,q⟩:=h;exact⟨d,H',I.vE,q⟩
 | cont=>obtain⟨d,H',I,q⟩:=h;exact⟨d,H',I.vE,q⟩
 | ret u=>obtain⟨v,d,H',I,r,q⟩:=h;exact⟨v,d,H',I.vE,r,q⟩
def C8.nox{st:List aF}{t:TS}(h:C8 X.nox st t):C8 X st t:=λpins s σ H D I hw=>
 fN (h pins s σ H D (I.BF _) hw) (λ_ _ q=>q.vE) λ_ _ z=>False.elim z
end
section
variable {X:Cx}{st:aF}{rest:List aF}{t u:TS}{e:aE}{te:TE}{pos:Pos}
abbrev abe:TS:=λD σ H=>D.nx σ H
abbrev abm (t u:TS):TS:=λD σ H=>t { D with nx:=u D } σ H
def Um:C8 X [] abe:=λ_ _ σ H _ I h=>i9 ⟨σ,H,I,h⟩
def QX(h1:PS X st t)(h2:C8 X rest u):C8 X (st::rest) (abm t u):=by
 mg_lt;refine wpAny_execs_cons (nL (h1 pins s σ H { D with nx:=u D } I h) λf j q=>?_)
 cases f with
 | next=>
  obtain⟨d,H',g,q⟩:=q;exact h2 pins j d H' D g q
 | ret v=>exact q
 | brk=>exact q
 | cont=>exact q
def UK(h1:PS X st t):C8 X [st] t:=by
 mg_lt;refine wpAny_execs_cons (nL (h1 pins s σ H D I h) λf d q=>?_)
 cases f with
 | next=>exact i9 q
 | ret v=>exact q
 | brk=>exact q
 | cont=>exact q
def Inv.quiet{H:Hp}(I:Inv X pins σ H s):interactive X.env=false:=by simp[interactive,I.ok.kind]
abbrev Z_ (te:TE):TS:=λD σ H=>te σ H λ_ H1=>D.nx σ H1
def Vc(he:PE X e te)(hs:swapsWith e none pos.line X.env=pure false:=by rfl):PS X (.Expr e pos) (Z_ te):=by
 mg_lt;exact wpAny_Expr_any (nL (he pins s σ H _ I h) λv g ⟨x,H1,f,r1,d⟩=>⟨σ,H1,f,d⟩) I.quiet hs
abbrev acv (te:TE):TS:=λD σ H=>te σ H D.rt
def Y8(he:PE X e te):PS X (.Return (some e) pos) (acv te):=by
 mg_lt;exact wpAny_Return_some<|nL (he pins s σ H _ I h) λv g ⟨x,H1,f,r1,d⟩=>⟨x,σ,H1,f,r1,d⟩
abbrev ab8 (c:TT)(t u:TS):TS:=λD σ H=>c σ H λb H1=>if b=true then t D σ H1 else u D σ H1
def aa_{c:aE}{a:List aF}{tc:TT}(hc:PT X c tc)(ha:C8 X a t)(hb:C8 X b u):PS X (.If c a b pos) (ab8 tc t u):=by
 mg_lt;refine wpAny_If (nL (hc pins s σ H _ I h) λd g ⟨H1,j,f⟩=>?_)
 cases d with
 | true=>exact ha pins g σ H1 D j f
 | false=>exact hb pins g σ H1 D j f
abbrev Zm:TS:=λ_ _ _=>False
def Pj:PS X st Zm:=λ_ _ _ _ _ _ h=>h.elim
end
meta abbrev TG:=V->St->Hp->(St->Hp->Prop)->Prop
meta abbrev We:=List V->St->Hp->(St->Hp->Prop)->Prop
abbrev PG (X:Cx)(target:aE)(t:TG):Prop:=
 ∀(pins:bn) (s:aC) (σ:St) (H:Hp) (v:V) (u:af) (Q:St->Hp->Prop),Inv X pins σ H s->RelV v u->t v σ H Q ->
  wpAny (model X.prog X.w) X.A (assign target X.env u) (λ_ s'=>∃d H',Inv X pins d H' s'/\Q d H') X.xe s
abbrev PGs (X:Cx)(ts:List aE)(t:We):Prop:=
 ∀(pins:bn) (s:aC) (σ:St) (H:Hp) (f:List V) (us:ba) (Q:St->Hp->Prop),Inv X pins σ H s->Vals f us->t f σ H Q ->
  wpAny (model X.prog X.w) X.A (assignInOrder ((assignEach ts X.env).map (·.2)) us) (λ_ s'=>∃d H',Inv X pins d H' s'/\Q d H') X.xe s
meta abbrev GC:=V->V->V->Hp->(Hp->Prop)->Prop
abbrev E2 (X:Cx)(t:GC):Prop:=
 ∀(pins:bn) (s:aC) (σ:St) (H:Hp) (o i v:V) (d iv u:af) (Q:Hp->Prop),Inv X pins σ H s->RelV o d->RelV i iv->RelV v u->t o i v H Q ->
  wpAny (model X.prog X.w) X.A (setItem d iv u) (λ_ s'=>∃H',Inv X pins σ H' s'/\Q H') X.xe s
meta abbrev TIp:=V->V->Hp->VK->Prop
abbrev PIp (X:Cx)(op:Operator)(t:TIp):Prop:=
 ∀(pins:bn) (s:aC) (σ:St) (H:Hp) (x y:V) (v u:af) (Q:VK),Inv X pins σ H s->RelV x v->RelV y u->t x y H Q ->
  wpAny (model X.prog X.w) X.A (inplaceOp op v u) (EP X pins σ Q) X.xe s
section
variable {X:Cx}{pos:Pos}
abbrev H_ (i:Nat):TG:=λv σ H Q=>Q (σ.set i<|some v) H
def DU{i:Nat}{x:Str}(hN:X.N.Nodup)(hi:X.N[i]?=some x)(hx:Loc X.env.scope x)(hf:X.fn x=true\/X.env.scope.names.lookup x=some .local:=by first|exact .inl rfl|exact .inr rfl|assumption):PG X (.Name x pos) (H_ i):=by
 intro pins s σ H v u Q I r h;exact wpAny_assign_Name<|Ax I hN hi hx r (λs' d=>⟨_,H,d,h⟩) hf
abbrev ac0:We:=λd σ H Q=>d=[]/\Q σ H
abbrev aas (t:TG)(u:We):We:=λf σ H Q=>∃v r,f=v::r/\t v σ H λd H'=>u r d H' Q
def Vj:PGs X [] ac0:=by
 intro pins s σ H d us Q I r h;obtain⟨e,h⟩:=h;subst e
 cases r
 exact assignInOrder_nil ⟨σ,H,I,h⟩
def Rl{e:aE}{t:TG}{u:We}(h1:PG X e t)(h2:PGs X es u)
  (hs:(assignEach (e::es) X.env).map (·.2)=assign e X.env::(assignEach es X.env).map (·.2):=by rfl):PGs X (e::es) (aas t u):=by
 intro pins s σ H q us Q I r h;obtain⟨v,p,e1,h⟩:=h;subst e1
 cases r with
 | cons r f=>
  rw[hs];refine assignInOrder_cons<|nL (h1 pins s σ H _ _ _ I r h) λ_ j ⟨d,H1,k,g⟩=>?_;exact h2 pins j d H1 _ _ Q k f g
abbrev abT (K:au)(n:Nat)(t:We):TG:=λv σ H Q=>∃a xs,v=.ref a/\nO K H a xs/\xs.length=n/\t xs σ H Q
def Y0{k:Nat}{t:We}{n:Nat}(hc:X.calm=true)(h:PGs X es t)
  (hn:(assignEach es X.env).length=n:=by rfl) (hst:(assignEach es X.env).findIdx? (·.1)=none:=by rfl):PG X (.Tuple es k pos) (abT X.K n t):=by
 intro pins s σ H v u Q I r hw;obtain⟨a,xs,e1,hq,j,hw⟩:=hw;subst e1
 cases r
 obtain⟨q,d,p,z⟩:=I.tuple hq;refine assign_Tuple_tuple (I.ok.hd hc) p (by simp[hn,<- j,d.length]) hst λh' f=>?_;have g:Inv X pins σ H { s with heap:=h' }:=I.kept (t':=s.toks) λb o e=>f b o (bD<|bq e) e;exact h pins _ σ H xs _ Q g (by simpa using d) hw
abbrev abY (to ti:TE)(t:GC):TG:=λv σ H Q=>to σ H λo H1=>ti σ H1 λi H2=>t o i v H2 λH3=>Q σ H3
def D4{to ti:TE}{t:GC}(ho:PE X o to)(hi:PE X i ti)(hs:E2 X t)
  (ha:∀v,assign (.Subscript o i pos) X.env v=(do
   let ov <- holding [v] (eval o X.env)
   let iv <- holding [v,ov] (eval i X.env)
   standAt pos
   holding [v,ov,iv] (setItem ov iv v)
   release [v,ov,iv] []):=by intro _;rfl):PG X (.Subscript o i pos) (abY to ti t):=by
 intro pins s σ H v u Q I r h;rw[ha];refine aH<|cZ<|nL (ho pins s σ H _ I h) λov j ⟨x,H1,p,r1,g⟩=>?_;refine aH<|cZ<|nL (hi pins j σ H1 _ p g) λiv k ⟨y,H2,q,r2,d⟩=>?_;refine aH<|fy<|aH<|cZ<|nL (hs pins k σ H2 x y v ov iv u _ q r1 r2 r d) λ_ B ⟨H3,z,f⟩=>?_;exact wpAny_release ⟨σ,H3,z,f⟩
abbrev Nz (te:TE)(g:TG):TS:=λD σ H=>te σ H λx H1=>g x σ H1 D.nx
def Xk{tg e:aE}{te:TE}{g:TG}(he:PE X e te)(hg:PG X tg g)(hs:swapsWithSole [tg] e pos.line X.env=pure false:=by rfl)(hw:swappedStores [tg] e X.env=pure none:=by rfl)
  (h1:(assignEach [tg] X.env).map (·.2)=[assign tg X.env]:=by rfl):PS X (.Assign [tg] e pos) (Nz te g):=by
 mg_lt;refine wpAny_Assign_stores (nL (he pins s σ H _ I h) λv f ⟨x,H1,j,r1,d⟩=>?_) hs hw;rw[h1];exact nL (hg pins f σ H1 x v _ j r1 d) λ_ k q=>q
def XR{i:Nat}{x:Str}{e:aE}{te:TE}(hN:X.N.Nodup)(hi:X.N[i]?=some x)(hx:Loc X.env.scope x)(he:PE X e te)(hs:swapsWith e (some<|.Name x pos') pos.line X.env=pure false:=by rfl)(hf:X.fn x=true\/X.env.scope.names.lookup x=some .local:=by first|exact .inl rfl|exact .inr rfl|assumption) :
  PS X (.Assign [.Name x pos'] e pos) (Nz te<|H_ i):=by
 mg_lt;refine wpAny_Assign_Name (nL (he pins s σ H _ I h) λv j ⟨y,H1,g,r1,d⟩=>?_) hs;exact Ax g hN hi hx r1 (λk f=>⟨_,H1,f,d⟩) hf
abbrev ab5 (i:Nat)(te:TE)(ti:TIp):TS:=λD σ H=>∃x,σ[i]?=some (some x)/\te σ H λy H1=>ti x y H1 λz H2=>D.nx (σ.set i<|some z) H2
def Wz{i:Nat}{x:Str}{e:aE}{te:TE}{ti:TIp}(hN:X.N.Nodup)(hi:X.N[i]?=some x)(hx:Loc X.env.scope x)(he:PE X e te)(ho:PIp X op ti)(hf:X.fn x=true\/X.env.scope.names.lookup x=some .local:=by first|exact .inl rfl|exact .inr rfl|assumption) :
  PS X (.AugAssign (.Name x pos') op e pos) (ab5 i te ti):=by
 mg_lt;obtain⟨v,e1,h⟩:=h;obtain⟨m,hn,K⟩:=I.loc;have p:Z5 X.env.scope x:=by rcases hx with k|k;exact .inl k;exact .inr (.inl k)
 obtain⟨u,r,l⟩:=K i x v hi e1 p;refine wpAny_AugAssign_Name ?_;have q:wpAny (model X.prog X.w) X.A (eval e X.env) (λw g=>wpAny (model X.prog X.w) X.A (inplaceOp op u w) (λr j=>wpAny (model X.prog X.w) X.A (storeName X.env x r) (λ_=>SP X pins D .next) X.xe j) X.xe g) X.xe s:=by
  refine nL (he pins s σ H _ I h) λw F ⟨y,H1,G,r1,C⟩=>?_;refine nL (ho pins F σ H1 v y u w _ G r r1 C) λz M ⟨O,H2,J,r2,t⟩=>?_;exact Ax J hN hi hx r2 (λP L=>⟨_,H2,L,t⟩) hf
 rcases l with⟨d,B⟩|⟨d,c,hc,f⟩
 ·exact wpAny_loadName_local I.ok.kind d hn B q
 ·rcases d with d|d
  ·exact wpAny_loadName_cell I.ok.kind d hc f q
  ·rcases hx with k|k
   ·have:X.env.scope.names.lookup x=some .free:=d;rw[k]at this;cases this
   ·have:X.env.scope.names.lookup x=some .free:=d;rw[k]at this;cases this
end
section
variable {X:Cx}{pos:Pos}
abbrev Qp (c:TT)(tb:TS):TS:=λD σ H=>∃W:Nat->St->Hp->Prop,(∃m,W m σ H)/\∀m σ H,W m σ H ->
 c σ H λb H1=>if b=true then ∃N:St->Hp->Prop,(∀d H',N d H'->∃f,f<m/\W f d H')/\tb { D with nx:=N,ct:=N,bk:=D.nx } σ H1 else D.nx σ H1
def Rg{c:aE}{tc:TT}{tb:TS}(hp:PassesOwn (model X.prog X.w) X.A X.env X.xe)(hc:PT X c tc)(hb:C8 X body tb):PS X (.While c body [] pos) (Qp tc tb):=by
 mg_lt;obtain⟨W,⟨L,J⟩,turn⟩:=h;refine wpAny_While<|codeAny_whileLoop (λn s'=>∃j H',Inv X pins j H' s'/\W n j H') ?_ L ⟨σ,H,I,J⟩;rintro n M ⟨g,H1,O,K⟩;refine fh hp (nL (hc pins M g H1 _ O<|turn n g H1 K) λb P ⟨H2,F,k⟩=>?_)
 cases b with
 | true=>
  obtain⟨N,G,k⟩:=k;rw[aV rfl];refine fh hp (nL (hb pins P g H2 _ F k) λf T p=>?_)
  cases f with
  | next=>
   obtain⟨d,H3,t,z⟩:=p;obtain⟨B,q,C⟩:=G d H3 z;exact⟨B,q,d,H3,t,C⟩
  | cont=>
   obtain⟨d,H3,t,z⟩:=p;obtain⟨B,q,C⟩:=G d H3 z;exact⟨B,q,d,H3,t,C⟩
  | brk=>exact p
  | ret v=>exact p
 | false=>
  rw[aR bF];exact i9 ⟨g,H2,F,k⟩
end
structure It where
 go:Nat->Hp->Prop
 yld:Nat->Hp->V->Hp->Prop
 stop:Nat->Hp->Prop
abbrev wu (X:Cx)(pins:bn)(H:Hp)(b:ak):Prop:=
 H b=none/\b≠X.env.locals/\b∉X.fs/\(b∈X.ex\/X.s₀.heap.objs.size<=b)/\(∀x c,X.env.cells.lookup x=some c->c≠b)/\∀p∈X.pn++pins,p.1≠b
def Inv.DH{X:Cx}{H H':Hp}{s:aC}(I:Inv X pins σ H s)(hb:s.heap.objs.size<=b)(hn:H' b=none):wu X pins H' b:=by
 refine⟨hn,jD<|bV I.lt hb,I.acO hb,.inr<|bJ I.sz hb,λx c e z=>?_,λp d z=>?_⟩
 ·obtain⟨v,q⟩:=I.cell x c e;exact absurd (bV q.lt<|by rw[z];exact hb) (f6 _)
 ·exact absurd (bV (bq (I.pin p d).1)<|by rw[z];exact hb)<|f6 _
structure Turn (P:aj)(w:ah)(K:au)(tg:aE)(J:It)(fp:bb)(it:ak)(tn:Nat->aq->Prop):Prop where
 mem:it∈fp
 obj:∀i h,tn i h->∀b∈fp,∃o,h.get? b=some o/\∀v,o.data≠.cell v
 keep:∀i h h',tn i h->(∀b∈fp,∀o,h.get? b=some o->h'.get? b=some o)->tn i h'
 item:∀(X:Cx),X.prog=P->X.w=w->X.K=K->X.calm=true->∀(i:Nat) (pins:bn) (s:aC) (σ:St) (H:Hp) (E:af->aC->Prop),Inv X pins σ H s->(∀b∈fp,wu X pins H b)->tn i s.heap->J.go i H ->
  wpAny (model P w) X.A (pyNext<|.ref it) (λr s1=>∃u,r=some u /\
   wpAny (model P w) X.A (letOwnedTupleGo tg (.ref it) u) (λ_ s2=>∃x H',Inv X pins σ H' s2/\RelV x u/\J.yld i H x H'/\tn (i+1) s2.heap/\∀b∈fp,H' b=none) E s1) E s
 done:∀(X:Cx),X.prog=P->X.w=w->X.K=K->X.calm=true->∀(i:Nat) (pins:bn) (s:aC) (σ:St) (H:Hp) (E:af->aC->Prop),Inv X pins σ H s->(∀b∈fp,wu X pins H b)->tn i s.heap->J.stop i H ->
  wpAny (model P w) X.A (pyNext<|.ref it) (λr s1=>r=none/\Inv X pins σ H s1) E s
 self:∀(A:aA) (i:Nat) (s:aC) (Q:af->aC->Prop) (E:af->aC->Prop),tn i s.heap->Q (.ref it) s->wpAny (model P w) A (pyIter<|.ref it) Q E s
meta abbrev TI:=St->Hp->(It->Hp->Prop)->Prop
abbrev PIE (X:Cx)(pins:bn)(σ:St)(tg:aE)(R:It->Hp->Prop)(itv:af)(s2:aC):Prop:=
 ∃(it:ak) (f:bb) (d:Nat->aq->Prop) (J:It) (H':Hp),itv=.ref it/\Inv X pins σ H' s2/\Turn X.prog X.w X.K tg J f it d/\d 0 s2.heap/\(∀b∈f,wu X pins H' b)/\R J H'
abbrev PI (X:Cx)(tg iter:aE)(wi:TI):Prop:=
 ∀(pins:bn) (s:aC) (σ:St) (H:Hp) (R:It->Hp->Prop),Inv X pins σ H s->wi σ H R ->
  wpAny (model X.prog X.w) X.A (eval iter X.env) (λv d=>wpAny (model X.prog X.w) X.A (pyIter v) (PIE X pins σ tg R) X.xe d) X.xe s
def Ff{A:aA}{E:af->aC->Prop}{s:aC}{o:Obj}{n:String}{Q:Unit->aC->Prop}(ho:s.heap.get? it=some o)(hc:o.cls=.type n)(hd:o.data=.fields vs)
  (hn:["enumerate", "zip", "dict_itemiterator", "dict_reverseitemiterator", "odict_iterator", "itertools.zip_longest", "itertools.pairwise"].contains n=false) (hQ:Q Unit.unit s):wpAny M A (letOwnedTupleGo tg (.ref it) u) Q E s:=by
 unfold letOwnedTupleGo
 cases tg<;>first
  | exact aN hQ
  | (cases u<;>first
    | exact aN hQ
    | (refine aH (wpAny_load ho ?_)
       rw[hc,hd];show wpAny M A (if (["enumerate", "zip", "dict_itemiterator", "dict_reverseitemiterator", "odict_iterator", "itertools.zip_longest", "itertools.pairwise"].contains n && vs[0]? == some (rawInt _))=true then _ else _) Q E s;rw[aR<|by intro h;rw[hn,Bool.false_and]at h;cases h];exact aN hQ))
abbrev Itl (K:au)(a:ak):It:=
 ⟨λi H=>∃xs x,qe K H a xs/\xs[i]?=some x,λi H x H'=>H'=H/\∀xs,qe K H a xs->xs[i]?=some x,λi H=>∃xs,qe K H a xs/\xs.length<=i⟩
abbrev Itt (K:au)(a:ak):It:=
 ⟨λi H=>∃xs x,nO K H a xs/\xs[i]?=some x,λi H x H'=>H'=H/\∀xs,nO K H a xs->xs[i]?=some x,λi H=>∃xs,nO K H a xs/\xs.length<=i⟩
abbrev Itr (lo:Int)(n:Nat):It:=⟨λi _=>i<n,λi H x H'=>H'=H/\x=.int (lo+i),λi _=>n<=i⟩
def MB{P:aj}{w:ah}{K:au}(a it:ak):Turn P w K tg (Itl K a) [it] it (λi h=>h.IsListIter it a i) where
 mem:=by simp
 obj:=λi h st b hb=>by
  have e:b=it:=by simpa using hb
  subst e;obtain⟨o,e,c,d⟩:=st;exact⟨o,e,λv z=>by rw[d]at z;cases z⟩
 keep:=λi h h' st k=>st.at λo e=>k it (by simp) o e
 item:=by
  w_up;subst hP hw hK;obtain⟨xs,x,hq,g⟩:=hg;obtain⟨q,j,p,B⟩:=I.list hq;obtain⟨u,C,F⟩:=j.get g;kpc_g;refine wpAny_pyNext_list_item st p.isList (x:=u) (by simpa using C) λh' f t=>?_;have J:Inv X pins σ H { s with heap:=h' }:=I.turned (t':=s.toks) (λb o hb e=>(t.2 b hb).trans e) f0 f1 f3 f4 f5;obtain⟨o,e,c,d⟩:=id f;exact⟨u,rfl,Ff (s:={ s with heap:=h' }) e c d ⋯ ⟨x,H,J,F,⟨rfl,λys hy=>by rw[I.Q6 hy hq];exact g⟩,f,λb hb=>(hf b hb).1⟩⟩
 done:=by
  w_up;subst hP hw hK;obtain⟨xs,hq,g⟩:=hg;obtain⟨q,j,p,B⟩:=I.list hq;kpc_g;have L:=j.length;exact wpAny_pyNext_list_end (I.ok.hd hc) st p.isList (by simp;omega) λh' G=>⟨rfl,I.turned (t':=s.toks) (λb o hb e=>G b o hb e) f0 f1 f3 f4 f5⟩
 self:=λ_ _ _ _ _ st h=>wpAny_pyIter_listiter st h
def GZ{P:aj}{w:ah}{K:au}(a it:ak):Turn P w K tg (Itt K a) [it] it (λi h=>h.IsTupleIter it a i) where
 mem:=by simp
 obj:=λi h st b hb=>by
  have e:b=it:=by simpa using hb
  subst e;obtain⟨o,e,c,d⟩:=st;exact⟨o,e,λv z=>by rw[d]at z;cases z⟩
 keep:=λi h h' st k=>st.at λo e=>k it (by simp) o e
 item:=by
  w_up;subst hP hw hK;obtain⟨xs,x,hq,j⟩:=hg;obtain⟨f,q,p,B⟩:=I.tuple hq;obtain⟨u,C,F⟩:=q.get j;kpc_g;refine wpAny_pyNext_tuple_item st (show s.heap.IsTuple a f.toArray from p) (x:=u) (by simpa using C) λh' g t=>?_;have J:Inv X pins σ H { s with heap:=h' }:=I.turned (t':=s.toks) (λb o hb e=>(t.2 b hb).trans e) f0 f1 f3 f4 f5;obtain⟨o,e,c,d⟩:=id g;exact⟨u,rfl,Ff (s:={ s with heap:=h' }) e c d ⋯ ⟨x,H,J,F,⟨rfl,λys hy=>by rw[I.vX hy hq];exact j⟩,g,λb hb=>(hf b hb).1⟩⟩
 done:=by
  w_up;subst hP hw hK;obtain⟨xs,hq,j⟩:=hg;obtain⟨f,q,p,B⟩:=I.tuple hq;kpc_g;have L:=q.length;exact wpAny_pyNext_tuple_end (I.ok.hd hc) st (show s.heap.IsTuple a f.toArray from p) (by simp;omega) λh' G=>⟨rfl,I.turned (t':=s.toks) (λb o hb e=>G b o hb e) f0 f1 f3 f4 f5⟩
 self:=λ_ _ _ _ _ st h=>wpAny_pyIter_tupleiter st h
def Hl{P:aj}{w:ah}{K:au}(it:ak)(lo:Int)(n:Nat):Turn P w K tg (Itr lo n) [it] it (λi h=>IsRangeIter h it (lo+(i:Nat) * 1) ((n:Int)-(i:Nat)) 1) where
 mem:=by simp
 obj:=λi h st b hb=>by
  have e:b=it:=by simpa using hb
  subst e;exact⟨_,st,λv z=>by
   have j:Data.fields _=Data.cell v:=z
   cases j⟩
 keep:=λi h h' st k=>k it (by simp) _ st
 item:=by
  w_up;subst hP hw hK;kpc_g;have W:=Walks.range (prog:=X.prog) (w:=X.w) (I.ok.hd hc) it lo 1 n;refine W.item i s _ _ hg st λv h' f hv d g=>?_;obtain⟨t,rfl⟩:=hv;have q:Inv X pins σ H { s with heap:=h',toks:=f }:=I.turned (λb o hb e=>g b o (by simpa using hb) e) f0 f1 f3 f4 f5;refine⟨_,rfl,Ff (s:={ s with heap:=h',toks:=f }) (n := "range_iterator") d rfl rfl ⋯ ⟨.int<|lo+i,H,q,⟨t,?_⟩,⟨rfl,rfl⟩,d,λb hb=>(hf b hb).1⟩⟩;rw[Int.mul_one]
 done:=by
  w_up;subst hP hw hK;kpc_g;exact wpAny_pyNext_range_end (I.ok.hd hc) st (by have:n<=i:=hg;lia) λh' p=>⟨rfl,I.turned (t':=s.toks) (λb o hb e=>p b o hb e) f0 f1 f3 f4 f5⟩
 self:=λ_ _ _ _ _ st h=>wpAny_pyIter_rangeiter st h
section
variable {X:Cx}{tg:aE}
abbrev aaF (K:au)(tl:TE):TI:=λσ H R=>tl σ H λx H1=>∃a,x=.ref a/\(∃xs,qe K H1 a xs)/\R (Itl K a) H1
abbrev acN (K:au)(tl:TE):TI:=λσ H R=>tl σ H λx H1=>∃a,x=.ref a/\(∃xs,nO K H1 a xs)/\R (Itt K a) H1
def JB{l:aE}{tl:TE}(hl:PE X l tl):PI X tg l (aaF X.K tl):=by
 intro pins s σ H R I h;refine nL (hl pins s σ H _ I h) λv d ⟨x,H1,I1,r1,f⟩=>?_;obtain⟨a,e,⟨xs,hq⟩,q⟩:=f;subst e
 cases r1
 obtain⟨g,k,p,j⟩:=I1.list hq;refine gY p.isList ?_;refine⟨d.heap.objs.size,[d.heap.objs.size],_,_,H1,rfl,I1.kept (t':=d.toks) λb o e=>aS _ e,MB a _,⟨_,bw _ rfl,rfl,rfl⟩,λb hb=>?_,q⟩;have e:b=d.heap.objs.size:=by simpa using hb
 subst e;exact I1.DH (aM _)<|I1.hok.fresh<|aM _
def RE{l:aE}{tl:TE}(hl:PE X l tl):PI X tg l (acN X.K tl):=by
 intro pins s σ H R I h;refine nL (hl pins s σ H _ I h) λv d ⟨x,H1,I1,r1,g⟩=>?_;obtain⟨a,e,⟨xs,hq⟩,q⟩:=g;subst e
 cases r1
 obtain⟨f,k,p,j⟩:=I1.tuple hq;refine gP (show d.heap.IsTuple a f.toArray from p) ?_;refine⟨d.heap.objs.size,[d.heap.objs.size],_,_,H1,rfl,I1.kept (t':=d.toks) λb o e=>aS _ e,GZ a _,⟨_,bw _ rfl,rfl,rfl⟩,λb hb=>?_,q⟩;have e:b=d.heap.objs.size:=by simpa using hb
 subst e;exact I1.DH (aM _)<|I1.hok.fresh<|aM _
def Fx{H:Hp}{s:aC}{R:It->Hp->Prop}{E:af->aC->Prop}{lo hi:Int}{t v:Tok}{tk:Nat}(I:Inv X pins σ H s)(h1:-(2 ^ 62)<=lo)(h2:lo<2 ^ 62)(h3:-(2 ^ 62)<=hi)(h4:hi<2 ^ 62)
  (q:R (Itr lo (hi-lo).toNat) H):wpAny (model X.prog X.w) X.A (pyIter<|.ref s.heap.objs.size) (PIE X pins σ tg R) E { s with heap:=s.heap.push { cls:=.type "range",data:=.fields #[.int lo t,.int hi u,.int 1 v]},toks:=tk }:=by
 refine wpAny_pyIter_range (IsRange.new ..) (small_one h1 h2 h3 h4) ?_;have I1:Inv X pins σ H { s with heap:=s.heap.push { cls:=.type "range",data:=.fields #[.int lo t,.int hi u,.int 1 v]},toks:=tk }:=I.kept λb o e=>aS _ e;refine⟨(s.heap.push { cls:=.type "range",data:=.fields #[.int lo t,.int hi u,.int 1 v]}).objs.size,[(s.heap.push { cls:=.type "range",data:=.fields #[.int lo t,.int hi u,.int 1 v]}).objs.size],_,_,H,rfl,
  I1.kept (t':=tk) λb o e=>aS _ e,Hl _ lo (hi-lo).toNat,?_,λb hb=>?_,q⟩
 ·have e1:lo+((0:Nat):Int) * 1=lo:=by simp
  have e2:(((hi-lo).toNat:Nat):Int)-((0:Nat):Int)=Builtin.Range.rangeSize lo hi 1:=by rw[rangeSize_one];split<;>lia
  skip
  rw[e1,e2];exact bw _ rfl
 ·have e:b=(s.heap.push { cls:=.type "range",data:=.fields #[.int lo t,.int hi u,.int 1 v]}).objs.size:=by simpa using hb
  subst e;exact I1.DH (aM _)<|I1.hok.fresh<|aM _
abbrev tR (ta:TA):TI:=λσ H R=>ta σ H λd H1=>∃j:Int,d=[.int j]/\-(2 ^ 62)<=j/\j<2 ^ 62/\R (Itr 0 j.toNat) H1
abbrev wJ (ta:TA):TI:=λσ H R=>ta σ H λd H1=>∃i j:Int,d=[.int i,.int j]/\(-(2 ^ 62)<=i/\i<2 ^ 62/\-(2 ^ 62)<=j/\j<2 ^ 62)/\R (Itr i (j-i).toNat) H1
def Lu{a:aE}{ta:TA}{p:Pos}(hg:Gl X "range")(hm:X.mg "range" = none)(ha:PA X [a] ta)(hs:starEach [a] X.env=[(false,eval a X.env)]:=by rfl):PI X tg (.Call (.Name "range" p) [a] [] pos) (tR ta):=by
 intro pins s σ H R I h;refine Call_<|yW I hg hm boot_range<|eL (nL (ha pos pins s σ H _ I h) λus B ⟨z,H1,k,r1,d⟩=>?_) hs rfl;obtain⟨j,e,d,f,q⟩:=d;subst e
 cases r1 with
 | cons r g=>
  cases g
  obtain⟨t,rfl⟩:=r;exact call_range_1<|Fx k () () d f<|by simpa using q
def Li{a b:aE}{ta:TA}{p:Pos}(hg:Gl X "range")(hm:X.mg "range" = none)(ha:PA X [a,b] ta)(hs:starEach [a,b] X.env=[(false,eval a X.env),(false,eval b X.env)]:=by rfl)(hs2:starEach [b] X.env=[(false,eval b X.env)]:=by rfl) :
  PI X tg (.Call (.Name "range" p) [a,b] [] pos) (wJ ta):=by
 intro pins s σ H R I h;refine Call_ (yW I hg hm boot_range<|eL (nL (ha pos pins s σ H _ I h) λus F ⟨J,H1,z,r1,f⟩=>?_) (by rw[hs,hs2])<|by rw[hs2];rfl);obtain⟨i,j,e,⟨f,g,k,C⟩,q⟩:=f;subst e
 cases r1 with
 | cons r d=>
  cases d with
  | cons B d=>
   cases d
   obtain⟨t,rfl⟩:=r;obtain⟨G,rfl⟩:=B;exact call_range_2<|Fx z f g k C q
abbrev ac5 (wi:TI)(g:TG)(tb:TS):TS:=λD σ H=>wi σ H λJ H1=>∃W:Nat->Nat->St->Hp->Prop,(∃m,W 0 m σ H1)/\∀i m σ H,W i m σ H ->
 (J.stop i H/\D.nx σ H)\/(J.go i H/\∃N:St->Hp->Prop,(∀d H',N d H'->∃j,j<m/\W (i+1) j d H')/\∀x H',J.yld i H x H'->g x σ H' λf H2=>tb { D with nx:=N,ct:=N,bk:=D.nx } f H2)
abbrev yG (fp:bb)(h:aq):bn:=fp.filterMap λb=>(h.get? b).map λo=>(b,o)
def nR{fp:bb}{h:aq}{b:ak}(hb:b∈fp)(e:h.get? b=some o):(b,o)∈yG fp h:=List.mem_filterMap.mpr ⟨b,hb,by rw[e];rfl⟩
def Mw{fp:bb}{h:aq}{p:ak×Obj}(hp:p∈yG fp h):p.1∈fp/\h.get? p.1=some p.2:=by
 obtain⟨b,hb,e⟩:=List.mem_filterMap.mp hp
 cases q:h.get? b with
 | none=>rw[q]at e;cases e
 | some o=>
  rw[q]at e;have d:(b,o)=p:=br e;subst d;exact⟨hb,q⟩
def Inv.pinned{H:Hp}{s:aC}{fp:bb}(I:Inv X pins σ H s)(hf:∀b∈fp,wu X pins H b)(ho:∀b∈fp,∃o,s.heap.get? b=some o/\∀v,o.data≠.cell v):Inv X (pins++yG fp s.heap) σ H s:=
 I.Jo λp g=>(bG.mp g).elim (λz=>I.pin p<|bL _ z) λz=>by
  obtain⟨hb,e⟩:=Mw z;obtain⟨f0,f1,f2,_⟩:=hf p.1 hb;obtain⟨o,f,d⟩:=ho p.1 hb;rw[e]at f;cases f;exact⟨e,f0,f1,f2,d⟩
def Inv.sd{pl:bn}{H:Hp}(I:Inv X (pins++pl) σ H s):Inv X pins σ H s:=I.Jo λp d=>I.pin p<|bL _<|gg _ d
def Yy{iter:aE}{wi:TI}{g:TG}{tb:TS}(hp:PassesOwn (model X.prog X.w) X.A X.env X.xe)(hc:X.calm=true)(hi:PI X tg iter wi)(hg:PG X tg g)(hb:C8 X body tb)
  (hs:∀x,foldedSetIterable iter X.env x=pure x:=by intro _;rfl):PS X (.For tg iter body [] pos) (ac5 wi g tb):=by
 mg_lt;refine wpAny_For (nL (hi pins s σ H _ I h) λv s1 h1=>nL h1 λitv s2 h2=>?_) hs;obtain⟨it,G,tn,J,H2,e,I2,T,U,f2,W,⟨m0,w0⟩,turn⟩:=h2;subst e;have p:∀{H':Hp},(∀b∈G,H' b=none)->∀b∈G,wu X pins H' b:=λhn b hb=>⟨hn b hb,(f2 b hb).2⟩;refine codeAny_forLoop_any (λn s'=>∃i k H',Inv X pins k H' s'/\tn i s'.heap/\(∀b∈G,H' b=none)/\W i n k H') ?_ m0 ⟨0,σ,H2,I2,U,λb hb=>(f2 b hb).1,w0⟩;rintro n s3 ⟨i,z,H3,I3,F,M,w3⟩
 rcases turn i n z H3 w3 with⟨L,qn⟩|⟨go,N,hN,step⟩
 ·refine fh hp<|nL (T.done X rfl rfl rfl hc i pins s3 z H3 X.xe I3 (p M) F L) λr s4 ⟨Y,I4⟩=>?_;subst Y;exact i9 ⟨z,H3,I4,qn⟩
 ·refine fh hp<|nL (T.item X rfl rfl rfl hc i pins s3 z H3 X.xe I3 (p M) F go) λr s4 ⟨u,Y,h4⟩=>?_;subst Y;refine fh hp<|nL h4 λ_ s5 ⟨x,H5,I5,r5,y5,C,Z⟩=>?_;have V:=I5.pinned (p Z)<|T.obj _ _ C;refine fh hp<|nL (hg _ s5 z H5 x u _ V r5<|step x H5 y5) λ_ s6 ⟨P,H6,I6,q6⟩=>?_;refine fh hp<|nL (hb _ s6 P H6 _ I6 q6) λf O B=>?_;have again:∀{j:St} {t:Hp},Inv X (pins++yG G s5.heap) j t O->N j t->∃m,m<n/\∃i k H',Inv X pins k H' O/\tn i O.heap/\(∀b∈G,H' b=none)/\W i m k H':=λ{j t} q K=>by
   obtain⟨m',hm,w7⟩:=hN j t K;refine⟨m',hm,i+1,j,t,q.sd,T.keep _ _ _ C λb hb o e=>(q.pin (b,o)<|bL _<|bL _<|nR hb e).1,λb hb=>?_,w7⟩;obtain⟨o,e,d⟩:=T.obj _ _ C b hb;exact(q.pin (b,o)<|bL _<|bL _<|nR hb e).2.1
  cases f with
  | next=>obtain⟨j,t,q,K⟩:=B;exact again q K
  | cont=>obtain⟨j,t,q,K⟩:=B;exact again q K
  | brk=>obtain⟨j,t,q,B⟩:=B;exact⟨j,t,q.sd,B⟩
  | ret v=>obtain⟨x7,j,t,q,r7,B⟩:=B;exact⟨x7,j,t,q.sd,r7,B⟩
end
def Ay{c:TT}{tb:TS}{D:Ends}{H:Hp}(Pv:St->Hp->Prop)(μ:St->Hp->Nat)(h0:Pv σ H)
  (hs:∀σ H,Pv σ H->c σ H λb H1=>if b=true then tb { D with nx:=λσ' H'=>Pv σ' H'/\μ σ' H'<μ σ H,ct:=λσ' H'=>Pv σ' H'/\μ σ' H'<μ σ H,bk:=D.nx } σ H1 else D.nx σ H1)
  (mono:∀σ H Q Q',(∀b H1,Q b H1->Q' b H1)->c σ H Q->c σ H Q'):Qp c tb D σ H:=by
 refine⟨λm σ H=>m=μ σ H/\Pv σ H,⟨_,rfl,h0⟩,?_⟩;rintro m σ H ⟨rfl,p⟩;refine mono σ H _ _ (λb H1 q=>?_) (hs σ H p)
 cases b with
 | true=>exact⟨_,λσ' H' ⟨d,l⟩=>⟨_,l,rfl,d⟩,q⟩
 | false=>exact q
meta abbrev R2:=V->V->Hp->VK->Prop
abbrev oY (X:Cx)(f:af->af->Sem af)(r:R2):Prop:=
 ∀(pins:bn) (s:aC) (σ:St) (H:Hp) (x y:V) (v u:af) (Q:VK),Inv X pins σ H s->RelV x v->RelV y u->r x y H Q ->
  wpAny (model X.prog X.w) X.A (f v u) (EP X pins σ Q) X.xe s
abbrev UnR (X:Cx)(f:af->Sem af)(r:V->Hp->VK->Prop):Prop:=
 ∀(pins:bn) (s:aC) (σ:St) (H:Hp) (x:V) (v:af) (Q:VK),Inv X pins σ H s->RelV x v->r x H Q ->
  wpAny (model X.prog X.w) X.A (f v) (EP X pins σ Q) X.xe s
abbrev kP (X:Cx)(f:af)(r:List V->Hp->VK->Prop):Prop:=
 ∀(pins:bn) (s:aC) (σ:St) (H:Hp) (xs:List V) (us:ba) (Q:VK),Inv X pins σ H s->Vals xs us->r xs H Q ->
  wpAny (model X.prog X.w) X.A (call f us) (EP X pins σ Q) X.xe s
abbrev adb (X:Cx)(r:V->Hp->(Bool->Hp->Prop)->Prop):Prop:=
 ∀(pins:bn) (s:aC) (σ:St) (H:Hp) (x:V) (v:af) (Q:Bool->Hp->Prop),Inv X pins σ H s->RelV x v->r x H Q ->
  wpAny (model X.prog X.w) X.A (truthy v) (TP X pins σ Q) X.xe s
abbrev tOp (r:R2)(ta tb:TE):TE:=λσ H Q=>ta σ H λx H1=>tb σ H1 λy H2=>r x y H2 Q
abbrev tUn (r:V->Hp->VK->Prop)(ta:TE):TE:=λσ H Q=>ta σ H λx H1=>r x H1 Q
abbrev rI (C:Int->Int->Prop)(g:Int->Int->V):R2:=λx y H Q=>∃i j,x=.int i/\y=.int j/\C i j/\Q (g i j) H
abbrev V1 (g:Int->Int->V):R2:=λx y H Q=>∃i j,x=.int i/\y=.int j/\Q (g i j) H
abbrev rU (g:Int->V):V->Hp->VK->Prop:=λx H Q=>∃i,x=.int i/\Q (g i) H
section
variable {X:Cx}{a b:aE}{ta tb:TE}{pos:Pos}
def WJ(ha:PE X a ta)(hb:PE X b tb){H:Hp}{R:V->V->Hp->Prop}(I:Inv X pins σ H s)
  (h:ta σ H λx H1=>tb σ H1 λy H2=>R x y H2) {Q:af->aC->Prop} {f:af->af->Sem af}
  (hf:∀v u s2 x y H2,Inv X pins σ H2 s2->RelV x v->RelV y u->R x y H2->wpAny (model X.prog X.w) X.A (f v u) Q X.xe s2) :
  wpAny (model X.prog X.w) X.A (eval a X.env) (λv s₁=>wpAny (model X.prog X.w) X.A (eval b X.env) (λu s₂=>wpAny (model X.prog X.w) X.A (f v u) Q X.xe s₂) X.xe s₁) X.xe s:=by
 refine nL (ha pins s σ H _ I h) λv k ⟨x,H1,p,r1,d⟩=>?_;refine nL (hb pins k σ H1 _ p d) λu s2 ⟨y,H2,j,r2,g⟩=>?_;exact hf v u s2 x y H2 j r1 r2 g
def aaB{r:R2}(ho:oY X (binaryOp op) r)(ha:PE X a ta)(hb:PE X b tb):PE X (.BinOp a op b pos) (tOp r ta tb):=by
 gn_on;exact wpAny_BinOp<|WJ ha hb I h λv u f x y H2 d rx ry q=>ho pins f σ H2 x y v u Q d rx ry q
def aaa{r:V->Hp->VK->Prop}(ho:UnR X (unaryOp op) r)(ha:PE X a ta):PE X (.UnaryOp op a pos) (tUn r ta):=by
 gn_on;exact UnaryOp_<|nL (ha pins s σ H _ I h) λv f ⟨x,H1,g,r1,d⟩=>ho pins f σ H1 x v Q g r1 d
def opI{f:af->af->Sem af}{C:Int->Int->Prop}{g:Int->Int->Int}
  (rule:∀(i j:Int) (t u:Tok) (s:aC) (Q:af->aC->Prop) (E:af->aC->Prop),C i j->Q (.int (g i j) s.toks) { s with toks:=s.toks+1 }->wpAny (model X.prog X.w) X.A (f (.int i t)<|.int j u) Q E s) :
  oY X f (rI C λi j=>.int<|g i j):=by
 kcf_m;obtain⟨i,j,rfl,rfl,hc,q⟩:=h;obtain⟨t,rfl⟩:=rx;obtain⟨d,rfl⟩:=ry;exact rule i j t d s _ _ hc ⟨.int<|g i j,H,I.tok _,⟨_,rfl⟩,q⟩
def aa0{f:af->af->Sem af}{g:Int->Int->Int}
  (rule:∀(i j:Int) (t u:Tok) (s:aC) (Q:af->aC->Prop) (E:af->aC->Prop),Q (.int (g i j) s.toks) { s with toks:=s.toks+1 }->wpAny (model X.prog X.w) X.A (f (.int i t)<|.int j u) Q E s) :
  oY X f (V1 λi j=>.int<|g i j):=by
 kcf_m;obtain⟨i,j,rfl,rfl,q⟩:=h;obtain⟨t,rfl⟩:=rx;obtain⟨d,rfl⟩:=ry;exact rule i j t d s _ _ ⟨.int<|g i j,H,I.tok _,⟨_,rfl⟩,q⟩
def TY{f:af->af->Sem af}{g:Int->Int->Bool}
  (rule:∀(i j:Int) (t u:Tok) (s:aC) (Q:af->aC->Prop) (E:af->aC->Prop),Q (.bool<|g i j) s->wpAny (model X.prog X.w) X.A (f (.int i t)<|.int j u) Q E s) :
  oY X f (V1 λi j=>.bl<|g i j):=by
 kcf_m;obtain⟨i,j,rfl,rfl,q⟩:=h;obtain⟨t,rfl⟩:=rx;obtain⟨d,rfl⟩:=ry;exact rule i j t d s _ _ ⟨.bl<|g i j,H,I,rfl,q⟩
abbrev adl (i j:Int):Prop:=0<=j/\j<=1000000/\i.natAbs<2 ^ 64
abbrev Vs (i j:Int):Prop:=(-(2 ^ 64)<i/\i<2 ^ 64)\/(-(2 ^ 64)<j/\j<2 ^ 64)
def Vs.ok{i j:Int}(h:Vs i j):IntMulOk i j:=by
 rcases h with⟨h1,h2⟩|⟨h1,h2⟩
 ·exact .of_left (intBits_le_64 h1 h2)
 ·exact .of_right<|intBits_le_64 h1 h2
def Xz:oY X (binaryOp .Add) (V1 λi j=>.int<|i+j):=aa0 λ_ _ _ _ _ _ _ q=>add_int q
def X5:oY X (binaryOp .Sub) (V1 λi j=>.int<|i-j):=aa0 λ_ _ _ _ _ _ _ q=>sub_int q
def W3:oY X (binaryOp .Mult) (rI Vs λi j=>.int<|i * j):=opI λ_ _ _ _ _ _ _ hc q=>mul_int q hc.ok
def X4:oY X (binaryOp .Mod) (rI (λ_ j=>0<j) λi j=>.int<|i % j):=opI λi j _ _ _ _ _ hc q=>by
 have h1:(0:Int)<j:=hc;exact mod_int' ()<|by rw[Int.fmod_eq_emod_of_nonneg i ()];exact q
def Y6:oY X (binaryOp .Pow) (rI adl λi j=>.int<|i ^ j.toNat):=opI λ_ _ _ _ _ _ _ hc q=>pow_int_small hc.1 hc.2.1 hc.2.2 q
def unI{f:af->Sem af}{g:Int->Int}
  (rule:∀(i:Int) (t:Tok) (s:aC) (Q:af->aC->Prop) (E:af->aC->Prop),Q (.int (g i) s.toks) { s with toks:=s.toks+1 }->wpAny (model X.prog X.w) X.A (f<|.int i t) Q E s) :
  UnR X f (rU λi=>.int<|g i):=by
 intro pins s σ H x v Q I rx h;obtain⟨i,rfl,q⟩:=h;obtain⟨t,rfl⟩:=rx;exact rule i t s _ _ ⟨.int<|g i,H,I.tok _,⟨_,rfl⟩,q⟩
def Yu:UnR X (unaryOp .USub) (rU λi=>.int<|-i):=unI λ_ _ _ _ _ q=>neg_int q
end
abbrev Y9:V->V->Bool
 | .non,.non=>true | .non,.int _=>true | .int _,.non=>true | .non,.bl _=>true | .bl _,.non=>true | .non,.str _=>true | .str _,.non=>true
 | .int _,.int _=>true | .bl _,.bl _=>true | .str _,.str _=>true | .byt _,.byt _=>true
 | .int _,.str _=>true | .str _,.int _=>true | .bl _,.str _=>true | .str _,.bl _=>true
 | _,_=>false
section
variable {X:Cx}{a b c:aE}{ta tb tc:TE}{pos:Pos}
def Y5{H:Hp}{Q:VK}{k:Bool}(I:Inv X pins σ H s)(q:Q (.bl k) H)(e:k=k'):EP X pins σ Q (.bool k') s:=by
 subst e;exact⟨.bl k,H,I,rfl,q⟩
def abx:oY X (compareOp .Lt) (V1 λi j=>.bl<|decide<|i<j):=TY λ_ _ _ _ _ _ _ q=>lt_int q
def aa2:oY X (compareOp .LtE) (V1 λi j=>.bl<|decide<|i<=j):=TY λ_ _ _ _ _ _ _ q=>le_int q
def aa4:oY X (compareOp .Gt) (V1 λi j=>.bl<|decide<|j<i):=TY λ_ _ _ _ _ _ _ q=>gt_int q
def aa9:oY X (compareOp .GtE) (V1 λi j=>.bl<|decide<|j<=i):=TY λ_ _ _ _ _ _ _ q=>ge_int q
def Vr:oY X (compareOp .IsNot) (λx y H Q=>y=.non/\Q (.bl<|!decide (x=.non)) H):=by
 kcf_m;obtain⟨rfl,q⟩:=h
 cases ry
 refine isnot_none_gen (Y5 I q ?_)
 cases x<;>first
  | (cases rx;rfl)
  | (obtain⟨t,rfl⟩:=rx;rfl)
def OY(b:aE)(h:op≠.In:=by decide)(h2:op≠.NotIn:=by decide):behindInMarks op b=false:=by
 have e1:(op == CmpOp.In)=false:=by cases op<;>first|rfl|exact absurd rfl h
 have e2:(op == CmpOp.NotIn)=false:=by cases op<;>first|rfl|exact absurd rfl h2
 cases b<;>simp[behindInMarks,e1,e2]
def SS{op:CmpOp}{r:R2}(ho:oY X (compareOp op) r)(ha:PE X a ta)(hb:PE X b tb)(hm:behindInMarks op b=false):PE X (.Compare a [op] [b] pos) (tOp r ta tb):=by
 gn_on;exact wpAny_Compare1 (WJ ha hb I h λv u f x y H2 d rx ry q=>ho pins f σ H2 x y v u Q d rx ry q) hm
abbrev aah (t:TE):TT:=λσ H Q=>t σ H λx H'=>∃k,x=.bl k/\Q k H'
def UX{op:CmpOp}{r:R2}(ho:oY X (compareOp op) r)(ha:PE X a ta)(hb:PE X b tb)(hm:behindInMarks op b=false):PT X (.Compare a [op] [b] pos) (aah<|tOp r ta tb):=by
 gn_on;refine wpAny_isTrue_Compare1 (nL (ha pins s σ H _ I h) λv p ⟨x,H1,t,r1,j⟩=>nL (hb pins p σ H1 _ t j) λu q ⟨y,H2,B,r2,d⟩=>
  nL (ho pins q σ H2 x y v u _ B r1 r2 d) λc F ⟨z,H3,C,f,k,e,g⟩=>?_) hm
 subst e
 cases f
 exact cT ⟨H3,C,g⟩
abbrev Pq (r r':R2)(ta tb tc:TE):TE:=λσ H Q=>ta σ H λx H1=>tb σ H1 λy H2=>r x y H2 λz H3=>∃k,z=.bl k /\
 (if k=true then tc σ H3 λd f=>r' y d f Q else Q (.bl false) H3)
def QY{r r':R2}(ho:oY X (compareOp op) r)(ho':oY X (compareOp op') r')(ha:PE X a ta)(hb:PE X b tb)(hc:PE X c tc)
  (hm:lastMarks [op,op'] [b,c]=false:=by with_unfolding_all rfl):PE X (.Compare a [op,op'] [b,c] pos) (Pq r r' ta tb tc):=by
 gn_on;refine Compare_chain (nL (ha pins s σ H _ I h) λv C ⟨x,H1,G,r1,t⟩=>chain_link (nL (hb pins C σ H1 _ G t) λu F ⟨y,H2,K,r2,j⟩=>
  nL (ho pins F σ H2 x y v u _ K r1 r2 j) λd N ⟨z,H3,g,q,k,e,f⟩=>?_)) hm
 subst e
 cases q
 refine cT ?_
 cases k with
 | false=>exact ite_ff ⟨.bl false,H3,g,rfl,f⟩
 | true=>exact ite_tt<|chain_last<|nL (hc pins N σ H3 _ g f) λp M ⟨B,J,O,r4,L⟩=>ho' pins M σ J y B u p Q O r2 r4 L
abbrev Xi (K:au)(x:V)(H:Hp)(k:Bool):Prop:=
 match x with
 | .non=>k=false
 | .bl b=>k=b
 | .int i=>k=(i != 0)
 | .str y=>y.length<=sizeLine/\k=((y.length:Int) != 0)
 | .byt y=>y.size<=sizeLine/\k=((y.size:Int) != 0)
 | .ref p=>(∃xs,qe K H p xs/\k=!xs.isEmpty)\/(∃xs,nO K H p xs/\k=!xs.isEmpty)\/∃kvs,H p=some (.dK kvs)/\k=!kvs.isEmpty
 | _=>False
def GU{κ:Type}{kvs:List<|κ×V}{vs:List<|κ×af}(r:KV kvs vs):(!vs.isEmpty)=!kvs.isEmpty:=by
 cases r<;>rfl
def AU{xs:List V}{its:ba}(r:Vals xs its):(!its.toArray.isEmpty)=!xs.isEmpty:=by
 cases r<;>simp
def yI:(sizeLine:Nat)<2 ^ 63:=by rw[eN];decide
def Xv:adb X (λx H Q=>∃k,Xi X.K x H k/\Q k H):=by
 intro pins s σ H x v Q I rx h;obtain⟨k,e,q⟩:=h;have C:=yI;have hs:sizeLine=16777216:=eN
 cases x with
 | non=>
  cases rx
  have d:k=false:=e;subst d;exact truthy_none ⟨H,I,q⟩
 | bl b=>
  cases rx
  have d:k=b:=e;subst d;exact cT ⟨H,I,q⟩
 | int i=>
  obtain⟨t,rfl⟩:=rx;have d:k=(i != 0):=e;subst d;exact PySem.P.truthy_int ⟨H,I,q⟩
 | str y=>
  obtain⟨t,rfl⟩:=rx;obtain⟨hy,d⟩:y.length<=sizeLine/\k=((y.length:Int) != 0):=e;subst d;exact PySem.P.truthy_str () ⟨H,I.tok _,q⟩
 | byt y=>
  obtain⟨t,rfl⟩:=rx;obtain⟨hy,d⟩:y.size<=sizeLine/\k=((y.size:Int) != 0):=e;subst d;exact PySem.W.truthy_bytes () ⟨H,I.tok _,q⟩
 | ref p=>
  cases rx
  have d:(∃xs,qe X.K H p xs/\k=!xs.isEmpty)\/(∃xs,nO X.K H p xs/\k=!xs.isEmpty)\/∃kvs,H p=some (.dK kvs)/\k=!kvs.isEmpty:=e
  rcases d with⟨xs,g,d⟩|⟨xs,g,d⟩|⟨kvs,g,d⟩
  ·subst d;obtain⟨z,r,pl,B⟩:=I.list g;have f:=r.length;exact wpAny_truthy_list pl.isList (by dsimp[aZ];lia) ⟨H,I.tok _,by rw[AU r];exact q⟩
  ·subst d;obtain⟨z,r,pl,B⟩:=I.tuple g;have f:=r.length;exact truthy_tuple pl (by dsimp[aZ];lia) ⟨H,I.tok _,by rw[AU r];exact q⟩
  ·subst d;obtain⟨B,hS,j,r,m⟩:kvs.length<=sizeLine/\(p == sysModules)=false/\∃j,KV kvs j/\s.heap.DictOf (lK X.prog X.w) p j:=I.hok p _ g;have f:kvs.length=j.length:=iR r;exact wpAny_truthy_dict hS m () ⟨H,I.tok _,by rw[GU r];exact q⟩
 | _=>exact(show False from e).elim
def Q4(ha:PE X a ta)(he:∀whole,isTrue a X.env whole=(do let v <- whole;standAt a.pos;holding [v] (truthy v))) :
  PT X a (λσ H Q=>ta σ H λx H'=>∃k,Xi X.K x H' k/\Q k H'):=by
 gn_on;exact isTrue_plain (nL (ha pins s σ H _ I h) λv f ⟨x,H1,g,r1,d⟩=>Xv pins f σ H1 x v Q g r1 d)<|he _
def GY:oY X (binaryOp .Add) (λx y H Q=>∃i j,x=.str i/\y=.str j/\i.length+j.length<=sizeLine/\Q (.str<|i++j) H):=by
 kcf_m;obtain⟨i,j,rfl,rfl,d,q⟩:=h;obtain⟨t,rfl⟩:=rx;obtain⟨f,rfl⟩:=ry;exact add_str (λf g=>⟨.str<|i++j,H,I.tok _,⟨_,rfl⟩,q⟩) d
def vals1{x:V}(r:Vals [x] us):∃u,us=[u]/\RelV x u:=by
 cases r with
 | cons r1 r2=>cases r2;exact⟨_,rfl,r1⟩
def vals2{x:V}(r:Vals [x,y] us):∃u w',us=[u,w']/\RelV x u/\RelV y w':=by
 cases r with
 | cons r1 r2=>
  cases r2 with
  | cons d r4=>cases r4;exact⟨_,_,rfl,r1,d⟩
def QN:kP X (.builtin "abs") (λxs H Q=>∃i,xs=[.int i]/\Q (.int<|if i<0 then -i else i) H):=by
 fin2;obtain⟨i,rfl,q⟩:=h;obtain⟨u,rfl,t,rfl⟩:=vals1 r;exact call_abs_int λu d=>⟨.int<|if i<0 then -i else i,H,I.tok _,⟨_,rfl⟩,q⟩
abbrev acm (K:au)(x:V)(H:Hp)(n:Nat):Prop:=
 match x with
 | .str y=>y.length<=sizeLine/\n=y.length
 | .byt y=>y.size<=sizeLine/\n=y.size
 | .ref p=>(∃xs,qe K H p xs/\n=xs.length)\/∃xs,nO K H p xs/\n=xs.length
 | _=>False
def OO:kP X (.builtin "len") (λxs H Q=>∃x n,xs=[x]/\acm X.K x H n/\Q (.int n) H):=by
 fin2;obtain⟨x,n,rfl,e,q⟩:=h;kcj_m;have B:=yI;have hs:sizeLine=16777216:=eN
 cases x with
 | str y=>
  obtain⟨t,rfl⟩:=rx;obtain⟨hy,f⟩:y.length<=sizeLine/\n=y.length:=e;subst f;exact len_str () ⟨.int _,H,I.tok _,⟨_,rfl⟩,q⟩
 | byt y=>
  obtain⟨t,rfl⟩:=rx;obtain⟨hy,f⟩:y.size<=sizeLine/\n=y.size:=e;subst f;exact PySem.W.len_bytes () ⟨.int _,H,I.tok _,⟨_,rfl⟩,q⟩
 | ref p=>
  cases rx
  have f:(∃xs,qe X.K H p xs/\n=xs.length)\/∃xs,nO X.K H p xs/\n=xs.length:=e
  rcases f with⟨xs,g,f⟩|⟨xs,g,f⟩
  ·subst f;obtain⟨k,j,pl,z⟩:=I.list g;have d:=j.length;exact Calls.call_len_list pl.isList (by dsimp[aZ];lia) ⟨.int xs.length,H,I.tok _,⟨_,by dsimp[aZ];rw[d]⟩,q⟩
  ·subst f;obtain⟨k,j,pl,z⟩:=I.tuple g;have d:=j.length;exact len_tuple pl (by dsimp[aZ];lia) ⟨.int xs.length,H,I.tok _,⟨_,by dsimp[aZ];rw[d]⟩,q⟩
 | _=>exact(show False from e).elim
end
structure ObjM (h:aq)(x dx C:ak)(mA:Str->bd):Prop where
 obj:h.get? x=some (PySem.W.instObj C dx)
 ns:h.Ns1 dx mA
 ne:dx≠x
def Lp{h:aq}{mA:Str->bd}(n:h.Ns1 dx mA):∃od,h.get? dx=some od/\∀name,PySem.W.lookIn name od=some (mA name):=by
 obtain⟨o,es,ep,g,j,f,_,k⟩:=n;refine⟨o,g,λname=>?_⟩;have e:=k name;unfold nsFind findBy at e;rw[<- Array.find?_toList]at e;unfold PySem.W.lookIn;rw[j];dsimp only;split
 ·rename_i y q;rw[q]at e;exact cV some e
 ·rename_i q;rw[q]at e;have a:es.toList.any (·.refKey)=false:=by
   rw[List.any_eq_false];intro y hy;obtain⟨z,t,d⟩:=f y<|Array.mem_toList_iff.mp hy;simp[DictEntry.refKey,d]
  have p:¬es.toList.any (·.refKey)=true:=by rw[a];exact bF
  rw[aR p];exact cV some e
def ObjM.look{x:ak}{mA:Str->bd}(I:ObjM h x dx C mA):∃od,PySem.W.InstAt h x (PySem.W.instObj C dx) C (some od)/\∀name,PySem.W.lookIn name od=some (mA name):=
 let⟨od,ho,hl⟩:=Lp I.ns
 ⟨od,⟨I.obj,rfl,rfl,ho⟩,hl⟩
def yC.some_of{v:V}(r:yC (some v) o):∃u,o=some u/\RelV v u:=by
 cases o with
 | none=>exact(show False from r).elim
 | some u=>exact⟨u,rfl,r⟩
section
variable {P:aj}{w:ah}{H:Hp}{h:aq}{a C dx:ak}{fs:List (Str×V)}
def U1(hok:xx P w H h)(e:H a=some (.ins C dx fs)):∃mA,ObjM h a dx C mA/\(∀f,yC (fs.lookup f)<|mA f)/\PySem.Within mA (fs.map (·.1))/\fs.length<=1000/\H dx=some (.own a):=by
 obtain⟨d,z,ne,ob,mA,n,r,q⟩:=(show lC P w H h a (.ins C dx fs)from hok a _ e);exact⟨mA,⟨ob,n,ne⟩,r,q,z,d⟩
end
structure Cls (K:au)(C:ak):Prop where
 pg:PySem.W.plainGet K C Str.empty=true
 hd:PySem.W.hasDictIn K C=true
 po:PySem.W.plainOver K C=true
 sa:PySem.W.findIn K (.ref C) "__setattr__" = some (some<|.builtin "object.__setattr__")
def Cls.get{K:au}(c:Cls K C)(f:Str):PySem.W.plainGet K C f=true:=c.pg
structure Con (K:au)(C:ak)(f:Str)(v:V)(u:af):Prop where
 at_:PySem.W.findIn K (.ref C) f=some (some u)
 rel:RelV v u
 get:PySem.W.specialIn K u "__get__" = some none
 cp:PySem.W.copiedNames.contains f=false
structure Meth (K:au)(C:ak)(m:Str)(f:ak):Prop where
 at_:PySem.W.findIn K (.ref C) m=some (some<|.ref f)
 fn:PySem.W.isFn K (.ref f)=true
 kp:PySem.W.keepIn K (.ref f)=true
section
variable {X:Cx}{pins:bn}{σ:St}{H:Hp}{s:aC}{A:aA}{E:af->aC->Prop}{Q:af->aC->Prop}{c:af}{b:Bool}
inductive TyOf (K:au) (H:Hp):V->af->Prop where
 | non:TyOf K H .non (.type "NoneType")
 | bl (x:Bool):TyOf K H (.bl x) (.type "bool")
 | int (i:Int):TyOf K H (.int i) (.type "int")
 | str (x:Str):TyOf K H (.str x) (.type "str")
 | flt (x:UInt64):TyOf K H (.flt x) (.type "float")
 | lst {a:ak} {xs:List V} (e:H a=some (.lst xs)):TyOf K H (.ref a) (.type "list")
 | frz {a:ak} {o:Obj} {xs:List V} (e:H a=some (.frz o<|.lst xs)):TyOf K H (.ref a) (.type "list")
 | tup {a:ak} {xs:List V} (e:H a=some (.tup xs)):TyOf K H (.ref a) (.type "tuple")
 | dK {a:ak} {kvs:List<|Key×V} (e:H a=some (.dK kvs)):TyOf K H (.ref a) (.type "dict")
 | dT {a:ak} {kvs:List<|List Key×V} (e:H a=some (.dT kvs)):TyOf K H (.ref a) (.type "dict")
 | ins {a C dx:ak} {fs:List<|Str×V} (e:H a=some (.ins C dx fs)) (cl:Cls K C) (ha:PySem.W.findIn K (.ref C) "__class__" = some (some<|.builtin "object.__class__"))
   (hn:PySem.W.specialIn K (.builtin "object.__class__") "__get__" = some (some<|.builtin "getset_descriptor.__get__")) (htk:PySem.W.takesIn K (.builtin "object.__class__")=some true)
   (hm:PySem.W.mroIn K C (.type "object")=some true):TyOf K H (.ref a)<|.ref C
def MA{x:V}{t:af}(I:Inv X pins σ H s)(rx:RelV x u)(ty:TyOf X.K H x t)(e:PySem.W.kitOne X.K t c=some b)(h:∀tk,Q (.bool b) { s with toks:=tk }) :
  wpAny (model X.prog X.w) A (call (.builtin "isinstance") [u,c]) Q E s:=by
 cases ty with
 | non=>cases(show u=Value.none from rx);exact cX PySem.W.kitx_none I.El True.intro e (λz=>nomatch z) h
 | bl y=>cases(show u=Value.bool y from rx);exact cX PySem.W.kitx_bool I.El True.intro e (λz=>nomatch z) h
 | int i=>obtain⟨t,q⟩:=(show ∃t,u=Value.int i t from rx);cases q;exact cX PySem.W.kitx_int I.El True.intro e (λz=>nomatch z) h
 | str y=>obtain⟨t,q⟩:=(show ∃t,u=Value.str y t from rx);cases q;exact cX PySem.W.kitx_str I.El True.intro e (λz=>nomatch z) h
 | flt y=>obtain⟨t,q⟩:=(show ∃t,u=Value.float y t from rx);cases q;exact cX PySem.W.kitx_float I.El True.intro e (λz=>nomatch z) h
 | @lst a xs d=>
  cases(show u=Value.ref a from rx)
  obtain⟨_,_,n,_,h1⟩:=(show lC X.prog X.w H s.heap a (.lst xs)from I.hok a _ d);exact cX PySem.W.kitx_list I.El ⟨_,h1,rfl⟩ e (λz=>nomatch z) h
 | @frz a ob xs d=>
  cases(show u=Value.ref a from rx)
  obtain⟨_,_,_,n,_,h1⟩:=(show lC X.prog X.w H s.heap a (.frz ob<|.lst xs)from I.hok a _ d);exact cX PySem.W.kitx_list I.El ⟨_,h1,rfl⟩ e (λz=>nomatch z) h
 | @tup a xs d=>
  cases(show u=Value.ref a from rx)
  obtain⟨_,_,_,p⟩:=(show lC X.prog X.w H s.heap a (.tup xs)from I.hok a _ d);obtain⟨o,h1,h2,_⟩:=p;exact cX PySem.W.kitx_tuple I.El ⟨o,h1,h2⟩ e (λz=>nomatch z) h
 | @dK a kvs d=>
  cases(show u=Value.ref a from rx)
  obtain⟨_,_,F,_,p⟩:=(show lC X.prog X.w H s.heap a (.dK kvs)from I.hok a _ d);obtain⟨o,es,ep,h1,h2,_⟩:=p;exact cX PySem.W.kitx_dict I.El ⟨o,h1,h2.1⟩ e (λz=>nomatch z) h
 | @dT a kvs d=>
  cases(show u=Value.ref a from rx)
  obtain⟨_,_,xs,_,o,es,ep,h1,h2,_⟩:=(show lC X.prog X.w H s.heap a (.dT kvs)from I.hok a _ d);exact cX PySem.W.kitx_dict I.El ⟨o,h1,h2.1⟩ e (λz=>nomatch z) h
 | @ins a C dx fs d g ha hn f j=>
  cases(show u=Value.ref a from rx)
  obtain⟨B,O,_⟩:=U1 I.hok d;obtain⟨k,J,_⟩:=O.look;exact cX (PySem.W.kitx_own (g.get _) g.hd ha hn f j) I.El J e (λz=>nomatch z) h
end
structure Room (k:Nat)(A:aA):Prop where
 hd:A.handled=none
 dp:A.depth+3 * k+5<recursionLimit
 un:A.units+16 * k+200<cLine
 gs:A.guards=some []
def Room.mono{k:Nat}{A:aA}(r:Room k A)(h:j<=k):Room j A:=⟨r.hd,by have:=r.dp;lia,by have:=r.un;lia,r.gs⟩
def Room.deeper{k:Nat}{A:aA}(r:Room (k+1) A)(env:Env):Room k (A.deeper env):=
 ⟨r.hd,by have:=r.dp;show A.depth+1+3 * k+5<_;lia,by have:=r.un;show A.units+3+16 * k+200<_;lia,r.gs⟩
def Room.depth{k:Nat}{A:aA}(r:Room k A):A.depth<recursionLimit:=by have:=r.dp;lia
def Room.units{k:Nat}{A:aA}(r:Room k A):A.units+64<cLine:=by have:=r.un;lia
abbrev aci:TA:=λ_ H Q=>Q [] H
abbrev aav (ta:TE)(tr:TA):TA:=λσ H Q=>ta σ H λx H1=>tr σ H1 λxs H2=>Q (x::xs) H2
section
variable {X:Cx}{e:aE}{es:List aE}{te:TE}{t:TA}{pos:Pos}
def Ad:PA X [] aci:=λ_ _ _ _ H Q I h=>Calls.spliced_nil ⟨[],H,I,.nil,h⟩
def wg(ha:PE X e te)(hr:PA X es t)(hs:starEach (e::es) X.env=(false,eval e X.env)::starEach es X.env:=by rfl):PA X (e::es) (aav te t):=by
 intro pos pins s σ H Q I h;rw[hs]
 skip
 refine Calls.spliced_cons<|nL (ha pins s σ H _ I h) λu g ⟨x,H1,j,r1,f⟩=>?_;exact nL (hr pos pins g σ H1 _ j f) λus p ⟨xs,H2,k,r2,d⟩=>⟨x::xs,H2,k,.cons r1 r2,d⟩
abbrev acT (t:TA):TE:=λσ H Q=>t σ H λxs H1=>xs.length<=sizeLine/\∀p,H1 p=none->Q (.ref p) (upd H1 p<|.tup xs)
abbrev adj (t:TA):TE:=λσ H Q=>t σ H λxs H1=>xs.length<=sizeLine/\∀p,H1 p=none->Q (.ref p) (upd H1 p<|.lst xs)
def Zj{x1}(h:PA X es t):PE X (.Tuple es x1 pos) (acT t):=by
 intro pins s σ H Q I hq;refine wpAny_Tuple_spliced (nL (h pos pins s σ H _ I hq) λus d ⟨xs,H1,f,r,z,q⟩=>⟨by rw[<- r.length];exact z,?_⟩);have hf:H1 d.heap.objs.size=none:=f.hok.fresh<|aM _;refine⟨.ref d.heap.objs.size,upd H1 d.heap.objs.size<|.tup xs,f.laid (t':=d.toks) (λb u e=>aS _ e) (aM _) ?_,rfl,q _ hf⟩;exact⟨z,us,r,⟨_,bw _ rfl,rfl,rfl,_,rfl⟩⟩
def WE(h:PA X es t):PE X (.List es pos) (adj t):=by
 intro pins s σ H Q I hq;refine wpAny_List_spliced (nL (h pos pins s σ H _ I hq) λus d ⟨xs,H1,f,r,z,q⟩=>⟨by rw[<- r.length];exact z,?_⟩);have hf:H1 d.heap.objs.size=none:=f.hok.fresh<|aM _;refine⟨.ref d.heap.objs.size,upd H1 d.heap.objs.size<|.lst xs,f.laid (t':=d.toks) (λb u e=>aS _ e) (aM _) ?_,rfl,q _ hf⟩;exact⟨z,us,0,r,bw _ rfl⟩
end
meta abbrev Sp:=List V->Hp->VK->XK->Prop
meta abbrev Sv:=List Env->Hp->aC->XK->af->aC->Prop
structure Env0 (P:aj)(w:ah)(K:au)(mg:Str->bd)(base:aq)(A:aA)(outer:List Env)(s:aC)(H:Hp):Prop where
 frames:A.frames=some outer
 mod:Mod K mg base
 bs:∀b o,base.get? b=some o->s.heap.get? b=some o/\H b=none
 bsz:base.objs.size<=s.heap.objs.size
 AK:s.heap.FunFrames base outer
 frf:∀b∈frs outer,H b=none
 hok:xx P w H s.heap
 bare:AllBare s.gens
abbrev CE (outer:List Env)(P:aj)(w:ah)(H:Hp)(s:aC)(Q:VK)(u:af)(s':aC):Prop:=
 ∃v H',s'.os=s.os/\AllBare s'.gens/\Un (frs outer) [] H H' s.heap s'.heap/\xx P w H' s'.heap/\RelV v u/\Q v H'
abbrev CR (CX:Sv)(outer:List Env)(P:aj)(w:ah)(H:Hp)(s:aC)(Q:VK)(E:XK)(r:Result)(s':aC):Prop:=
 match r with
 | .ok (.ret u)=>CE outer P w H s Q u s'
 | .ok _=>False
 | .error e=>CX outer H s E e s'
structure FnOk (P:aj)(w:ah)(K:au)(mg:Str->bd)(base:aq)(CX:Sv)(k:Nat)(f:ak)(fd:FuncData)(ps:ar)(sp:Sp):Prop where
 len:∀vs H Q E,sp vs H Q E->vs.length=ps.length
 run:∀(A:aA) (outer:List Env) (s:aC) (H:Hp) (args:Args) (us:ba) (vs:List V) (Q:VK) (E:XK),Room k A->Env0 P w K mg base A outer s H->BindsTo s fd args (ps.zip us)->Vals vs us->sp vs H Q E ->
  codeAny (model P w) A (.call (.ref f) args) (CR CX outer P w H s Q E) s
section
variable {X:Cx}{pins:bn}{σ:St}{H:Hp}{s s':aC}
def Inv.abV(I:Inv X pins σ H s):Env0 X.prog X.w X.K X.mg X.base X.A X.stack s H:=
 ⟨I.ok.frames,I.ok.mod,I.bs,bJ I.ok.bsz I.sz,I.stack,I.HZ,I.hok,I.bare⟩
def Inv.after{Q:VK}(I:Inv X pins σ H s)(h:CE X.stack X.prog X.w H s Q u s'):EP X pins σ Q u s':=by
 obtain⟨v,H',os,f,un,j,r,q⟩:=h;obtain⟨p,g,d,t,k⟩:=s';obtain rfl:k=s.os:=os;exact⟨v,H',I.call (h':=p) (g':=g) (d':=d) (t':=t) (ch:=[]) un j f λb z=>absurd z<|by simp,r,q⟩
end
abbrev V5 (sp:Sp)(dvs:List V)(E:XK)(t:TA):TE:=λσ H Q=>t σ H λd H1=>sp (d++dvs) H1 Q E
abbrev Binds (K:au)(fd:FuncData)(ps:ar)(ds:ba):Prop:=
 ∀(s:aC) (us:ba),K.In s.heap->(us++ds).length=ps.length->BindsTo s fd ⟨us,[]⟩ (ps.zip<|us++ds)
def Binds.all{K:au}{ps:ar}(h:∀us:ba,us.length=ps.length->bindArgs fd ⟨us,[]⟩=pure (ps.zip us)):Binds K fd ps []:=λs us _ d=>by
 rw[bZ]at d ⊢;exact .of_eq<|h us d
abbrev Passes (CX:Sv)(X:Cx)(E:XK):Prop:=∀(pins:bn) (σ:St) (H:Hp) (s:aC) (e:af) (s':aC),Inv X pins σ H s->CX X.stack H s E e s'->X.xe e s'
section
variable {X:Cx}{CX:Sv}{k:Nat}{f C:ak}{fd:FuncData}{ps:ar}{sp:Sp}{dvs:List V}{ds:ba}{E:XK}{x:Str}{p pos:Pos}{e:aE}{es:List aE}{t:TA}
def Yb{H:Hp}{Q:VK}(F:FnOk X.prog X.w X.K X.mg X.base CX k f fd ps sp)(hr:Room k X.A)(hb:Binds X.K fd ps ds)(hd:Vals dvs ds)(hx:Passes CX X E)
  (I:Inv X pins σ H s) (r:Vals vs us) (h:sp (vs++dvs) H Q E):wpAny (model X.prog X.w) X.A (call (.ref f) us) (EP X pins σ Q) X.xe s:=by
 have r2:Vals (vs++dvs) (us++ds):=r.append hd;have d:(us++ds).length=ps.length:=by rw[<- r2.length];exact F.len _ _ _ _ h
 refine wpAny_call (jE (F.run X.A X.stack s H ⟨us,[]⟩ (us++ds) (vs++dvs) Q E hr I.abV (hb s us I.El d) r2 h) λr s' hq=>?_)
 cases r with
 | error e=>exact hx pins σ H s e s' I hq
 | ok fl=>
  cases fl with
  | ret u=>exact I.after hq
  | next=>exact False.elim hq
  | brk=>exact False.elim hq
  | cont=>exact False.elim hq
def Tu(F:FnOk X.prog X.w X.K X.mg X.base CX k f fd ps sp)(hr:Room k X.A)(hg:Gl X x)(hm:X.mg x=some (.ref f))(hk:PySem.W.keepIn X.K (.ref f)=true)(hb:Binds X.K fd ps ds)(hd:Vals dvs ds)(hx:Passes CX X E)
  (ha:PA X (e::es) t) (hdb:(x == ("__debug__" : Str))=false:=by decide) (he:starEach (e::es) X.env=(false,eval e X.env)::starEach es X.env:=by rfl) (hpl:(backTo pos<|starEach es X.env).any (·.1)=false:=by rfl) :
  PE X (.Call (.Name x p) (e::es) [] pos) (V5 sp dvs E t):=by
 gn_on;refine je<|Jz I hg hm ?_ hdb;refine PySem.W.callWith_K (h₀:=X.base) I.ok.mod.kin hk (nL (ha pos pins s σ H _ I h) λus g ⟨d,H1,I1,r,q⟩=>⟨I1.El,?_⟩) he hpl;exact Yb F hr hb hd hx I1 r q
structure Mk (K:au)(C f:ak):Prop where
 makes:PySem.W.makesIn K C=true
 init:PySem.W.findIn K (.ref C) "__init__" = some (some<|.ref f)
 fn:PySem.W.isFn K (.ref f)=true
 kp:PySem.W.keepIn K (.ref C)=true
end
section
variable {fd:FuncData}{ps ks:ar}
structure KBinds (K:au)(fd:FuncData)(ps ks:ar)(g:ba->ba->ba)(gV:List V->List V->List V):Prop where
 to:∀(s:aC) (us ws:ba),K.In s.heap->(g us ws).length=ps.length->BindsTo s fd ⟨us,ks.zip ws⟩ (ps.zip<|g us ws)
 rel:∀{vs:List V} {us:ba} {zs:List V} {ws:ba},Vals vs us->Vals zs ws->Vals (gV vs zs) (g us ws)
end
structure FnScope (N P:ar)(sc:Scope):Prop where
 kind:sc.kind=.function
 co:sc.isCoroutine=false
 gen:sc.isGenerator=false
 nd:N.Nodup
 pre:N.take P.length=P
 par:∀x∈P,sc.names.lookup x=some .local\/sc.names.lookup x=some .cell
 nofree:∀y∈sc.names,y.2≠.free
theorem BU{kindOf:Str->Option NameKind}{x:Str}:∀{binds:List<|Str×af}{m:Str->bd},(∀v,(x,v)∉binds)->bindL kindOf binds m x=m x
 | [],_,_=>rfl
 | (n,v)::r,m,h=>by
  unfold bindL;rw[BU λw hw=>h w<|aQ _ hw];split
  ·have:x≠n:=by rintro rfl;exact h v aL
   simp[this]
  ·rfl
theorem BR{kindOf:Str->Option NameKind}{x:Str}:∀{binds:List<|Str×af}{m:Str->bd},(∀v,(x,v)∉binds)->bindC kindOf binds m x=m x
 | [],_,_=>rfl
 | (n,v)::r,m,h=>by
  unfold bindC;rw[BR λw hw=>h w<|aQ _ hw];split
  ·rfl
  ·have:x≠n:=by rintro rfl;exact h v aL
   simp[this]
theorem BY{kindOf:Str->Option NameKind}{x:Str}{v:af}:∀{P:ar}{vs:ba}{i:Nat}{m:Str->bd},P.Nodup->P[i]?=some x->vs[i]?=some v->kindOf x=some .local ->
  bindL kindOf (P.zip vs) m x=some v
 | [],_,_,_,_,h,_,_=>by simp at h
 | _::_,[],_,_,_,_,h,_=>by simp at h
 | p::P,w::vs,0,m,nd,h1,h2,hk=>by
  simp at h1 h2;subst h1;subst h2;show bindL kindOf ((p,w)::P.zip vs) m p=_;unfold bindL;rw[BU λv hv=>(bX.mp nd).1 (jI hv).1,aV hk];simp
 | p::P,w::vs,i+1,m,nd,h1,h2,hk=>by
  skip
  unfold bindL;exact BY (i:=i) (bX.mp nd).2 (by simpa using h1) (by simpa using h2) hk
theorem Ck{kindOf:Str->Option NameKind}{x:Str}{v:af}:∀{P:ar}{vs:ba}{i:Nat}{m:Str->bd},P.Nodup->P[i]?=some x->vs[i]?=some v->kindOf x≠some .local ->
  bindC kindOf (P.zip vs) m x=some v
 | [],_,_,_,_,h,_,_=>by simp at h
 | _::_,[],_,_,_,_,h,_=>by simp at h
 | p::P,w::vs,0,m,nd,h1,h2,hk=>by
  simp at h1 h2;subst h1;subst h2;show bindC kindOf ((p,w)::P.zip vs) m p=_;unfold bindC;rw[BR λv hv=>(bX.mp nd).1 (jI hv).1,aR hk];simp
 | p::P,w::vs,i+1,m,nd,h1,h2,hk=>by
  skip
  unfold bindC;exact Ck (i:=i) (bX.mp nd).2 (by simpa using h1) (by simpa using h2) hk
abbrev start (N:ar)(vs:List V):St:=vs.map some++List.replicate (N.length-vs.length) none
abbrev Hr (CX:Sv)(P:aj)(w:ah)(K:au)(mg:Str->bd)(base:aq)(N:ar)(qual:Str)(scope:Scope)(f:ak)(cd:af)(A:aA)(outer:List Env)(s:aC)(H:Hp)(E:XK):Cx where
 prog:=P
 w:=w
 K:=K
 mg:=mg
 base:=base
 A:=A.deeper (envOfC qual scope s.heap.objs.size f cd)
 N:=N
 s₀:=s
 H₀:=H
 env:=envOfC qual scope s.heap.objs.size f cd
 outer:=outer
 stack:=envOfC qual scope s.heap.objs.size f cd::outer
 ex:=[]
 calm:=true
 fn:=λ_=>true
 pn:=[]
 xe:=λe s'=>wpAny (model P w) (A.deeper<|envOfC qual scope s.heap.objs.size f cd) (leaving (envOfC qual scope s.heap.objs.size f cd) e) (λ_ d=>CX outer H s E e d) (λg d=>CX outer H s E g d) s'
def Gi{sc:Scope}{n:Nat}{x:Str}(h:sc.names.lookup x=some .cell):∃c,(cellsFrom n sc.names []).lookup x=some c:=by
 have q:=fO sc.names n []<|.inl h;exact dI.mp q
def Mc{CX:Sv}{P:aj}{w:ah}{K:au}{mg:Str->bd}{base:aq}{N ps:ar}{scope:Scope}{f:ak}{A:aA}{outer:List Env}{s:aC}{H:Hp}{E:XK}{vs:List V}
  (S:FnScope N ps scope) (hd:A.handled=none) (e0:Env0 P w K mg base A outer s H) (hl:vs.length=ps.length) (r:Vals vs us)
  (x:InCallC s s.heap.objs.size (bindL (envOfC qual scope s.heap.objs.size f cd).kindOf (ps.zip us) λ_=>none) (cellsFrom (s.heap.objs.size+1) scope.names []) (bindC (envOfC qual scope s.heap.objs.size f cd).kindOf (ps.zip us) λ_=>none) s1) :
  Inv (Hr CX P w K mg base N qual scope f cd A outer s H E) [] (start N vs) H s1:=by
 have G:ps.length<=N.length:=by have:=cV List.length S.pre;rw[bY]at this;lia
 obtain⟨h1,J,rfl,C⟩:=x.done;have d:∀b:ak,b∉(Hr CX P w K mg base N qual scope f cd A outer s H E).ex:=λb z=>absurd (show b∈([]:bb)from z) (by simp);refine⟨⟨e0.mod,S.kind,rfl,rfl,aM _,λy z c h1 h2=>?_,λy hy=>?_,λy c _ h=>?_,λ_=>hd,Around.frames_deeper e0.frames,.inr ⟨rfl,rfl⟩,λb z=>absurd z<|d b,e0.bs,e0.bsz,λb _ _=>d b,λb z=>absurd z<|d b,e0.AK,e0.frf⟩,
  rfl,e0.bare,Un.kept C,⟨_,x.toInCall.ns,λi y v h1 h2 h3=>?_⟩,λy c h=>⟨_,x.cell y c h⟩,e0.hok.fresh<|aM _,λy c h=>?_,λp g=>absurd (show p∈([]:bn)from g)<|by simp,e0.hok.kept C,?_⟩
 ·exact name_of_addr x.apart (c7 h1) (c7 h2)
 ·have hy:scope.names.lookup y=some .cell\/scope.names.lookup y=some .free:=hy
  rcases hy with hy|hy
  ·exact Gi hy
  ·exact absurd rfl<|S.nofree _<|c7 hy
 ·exact dZ (x.above y c<|c7 h)
 ·have t:i<vs.length:=by
   unfold start at h2;by_cases t:i<vs.length
   ·exact t
   ·rw[jf<|by simpa using t]at h2;rw[List.getElem?_replicate]at h2;split at h2<;>cases h2
  have ha:vs[i]?=some v:=by
   unfold start at h2;rw[bB<|by simpa using t,aO]at h2
   cases e:vs[i]? with
   | none=>rw[e]at h2;cases h2
   | some a=>rw[e]at h2;cases h2;rfl
  obtain⟨u,B,F⟩:=r.get ha;have g:ps[i]?=some y:=by
   rw[<- S.pre,List.getElem?_take_of_lt ()];exact h1
  have j:ps.Nodup:=by rw[<- S.pre];exact S.nd.sublist (List.take_sublist _ _)
  refine⟨u,F,?_⟩
  rcases S.par y (a_ g)with k|k
  ·exact .inl ⟨k,BY j g B k⟩
  ·obtain⟨c,e⟩:=Gi (n:=s.heap.objs.size+1) k;refine .inr ⟨.inl k,c,e,?_⟩;have q:=x.cell y c e;rw[Ck j g B<|by show scope.names.lookup y≠_;rw[k];decide]at q;exact q
 ·exact e0.hok.fresh (dZ<|x.above y c<|c7 h)
 ·unfold start;show _=N.length;rw[aX,aG,List.length_replicate]
  lia
def abu{CX:Sv}{P:aj}{w:ah}{K:au}{mg:Str->bd}{base:aq}{k:Nat}{f:ak}{kV pm ct:af}
  {osl:Array<|bd} {N ps:ar} {sp:Sp} (lk:K.lookup f=some ⟨oc,od,.func<|PySem.W.fnOf name qual params body scope dV kV doc pm an cdv ct,osl⟩) (hcd:PySem.W.codeIn K cdv qual=true) (S:FnScope N ps scope)
  (len:∀vs H Q E,sp vs H Q E->vs.length=ps.length)
  (hbody:∀(A:aA) (outer:List Env) (s:aC) (H:Hp) (vs:List V) (Q:VK) (E:XK),Room k (A.deeper<|envOfC qual scope s.heap.objs.size f cdv)->sp vs H Q E ->
   ∃t,C8 (Hr CX P w K mg base N qual scope f cdv A outer s H E) body t/\t { nx:=λ_ H'=>Q .non H',rt:=Q } (start N vs) H) :
  FnOk P w K mg base CX (k+1) f (PySem.W.fnOf name qual params body scope dV kV doc pm an cdv ct) ps sp:=by
 refine⟨len,λA outer s H L us vs Q E B e0 hb r p=>?_⟩;have M:=len _ _ _ _ p;have G:K.In s.heap:=e0.mod.kin.keeps λb o e=>(e0.bs b o e).1;have z:s.heap.NoLimit:=e0.mod.nolimit.keeps λb o e=>(e0.bs b o e).1;have g:∀y∈ps.zip us,scope.names.lookup y.1=some .local\/(scope.names.lookup y.1=some .cell/\((cellsFrom (s.heap.objs.size+1) scope.names []).lookup y.1).isSome=true):=λ⟨n,v⟩ hy=>by
  rcases S.par n (jI hy).1 with q|q
  ·exact .inl q
  ·exact .inr ⟨q,fO _ _ _<|.inl q⟩
 refine codeAny_call_function B.depth (G _ _ lk) rfl S.co S.gen rfl (PySem.W.codeRec_of G hcd)<|hb _ _ _ _ ?_;refine wpAny_newFunctionEnv_cells S.kind g λenv T F x=>?_;subst T;refine⟨z.keeps x.toInCall.keep,codeAny_func ?_⟩;obtain⟨t,O,hq⟩:=hbody A outer s H vs Q E (B.deeper _) p;have I:Inv (Hr CX P w K mg base N qual scope f cdv A outer s H E) [] (start N vs) H F:=Mc S B.hd e0 M r x;refine fN (O [] F (start N vs) H _ I hq) (λfl s' hs=>?_) λe s' hs=>hs;have j:∀{d:St} {H':Hp} {v:V} {u:af},Inv (Hr CX P w K mg base N qual scope f cdv A outer s H E) [] d H' s'->RelV v u->Q v H'->CE outer P w H s Q u s':=
  λ{d H' v u} J C q=>⟨v,H',J.os,J.bare,J.base,J.hok,C,q⟩
 cases fl with
 | ret u=>
  obtain⟨v,d,H',J,C,q⟩:=hs;exact j J C q
 | next=>
  obtain⟨d,H',J,q⟩:=hs;exact j (v:=V.non) (u:=Value.none) J rfl q
 | brk=>
  obtain⟨_,_,_,q⟩:=hs;exact False.elim q
 | cont=>
  obtain⟨_,_,_,q⟩:=hs;exact False.elim q
section
variable {X:Cx}{x:Str}{p pos:Pos}{e:aE}{es:List aE}{t:TA}{id T:String}{r:List V->Hp->VK->Prop}
abbrev tCB (r:List V->Hp->VK->Prop)(t:TA):TE:=λσ H Q=>t σ H λd H1=>r d H1 Q
def Fd(hc:kP X (.builtin id) r)(hg:Gl X x)(hm:X.mg x=none)(hv:bootBuiltins x=some (.builtin id))(ha:PA X (e::es) t)(hn:x ≠ "__name__" := by decide)(hdb:(x == ("__debug__" : Str))=false:=by decide)
  (he:starEach (e::es) X.env=(false,eval e X.env)::starEach es X.env:=by rfl) (hpl:(backTo pos<|starEach es X.env).any (·.1)=false:=by rfl):PE X (.Call (.Name x p) (e::es) [] pos) (tCB r t):=by
 gn_on;refine je<|yW I hg hm hv ?_ hn hdb;exact PyProof.Rows.callWith_builtin1 (nL (ha pos pins s σ H _ I h) λus g ⟨d,H1,j,r1,f⟩=>hc pins g σ H1 d us Q j r1 f) he hpl
def LM(hc:kP X (.type T) r)(hg:Gl X x)(hm:X.mg x=none)(hv:bootBuiltins x=some (.type T))(ha:PA X (e::es) t)(hn:x ≠ "__name__" := by decide)(hdb:(x == ("__debug__" : Str))=false:=by decide)
  (he:starEach (e::es) X.env=(false,eval e X.env)::starEach es X.env:=by rfl) (hpl:(backTo pos<|starEach es X.env).any (·.1)=false:=by rfl):PE X (.Call (.Name x p) (e::es) [] pos) (tCB r t):=by
 gn_on;refine je<|yW I hg hm hv ?_ hn hdb;exact eL (nL (ha pos pins s σ H _ I h) λus g ⟨d,H1,j,r1,f⟩=>hc pins g σ H1 d us Q j r1 f) he hpl
end
end L2
namespace HT
open PySem PyProof.Rows
abbrev lexLt:ag->ag->Bool
 | [],[]=>false
 | [],_::_=>true
 | _::_,[]=>false
 | x::xs,y::ys=>if x=y then lexLt xs ys else decide (x<y)
def rW(x y:Int)(xs ys:ag):lexLt (x::xs) (y::ys)=if x=y then lexLt xs ys else decide (x<y):=rfl
def qj:lexLt [] []=false:=rfl
def nP(y:Int)(ys:ag):lexLt [] (y::ys)=true:=rfl
def pD(x:Int)(xs:ag):lexLt (x::xs) []=false:=rfl
def Rf(A:aA)(s:aC)(a:Int)(t:Tok)(c:Int)(u:Tok):∃e,SeqAt.EqAt A s (.int a t) (.int c u) e/\(e=true ↔ a=c):=
 ⟨(a == c),SeqAt.EqAt.int_int a t c u,by simp⟩
def NV(A:aA)(s:aC)(a:Int)(t:Tok)(c:Int)(u:Tok)(prog:aj)(w:ah)(E:af->aC->Prop)(Q:af->aC->Prop)(h:Q (.bool<|decide<|a<c) s) :
  wpAny (model prog w) A (richCompare .Lt (.int a t)<|.int c u) Q E s:=
 (PyProof.Rows.lt_int h:wpAny (model prog w) A (compareOp .Lt (.int a t)<|.int c u) Q E s)
section
open PySem.SeqAt
open PySem.AutoSeq1 (wpAny_loadPart')
open PySem.MeetsSeq PySem.MeetsSeq2 PySem.MeetsSeq3
def Bv(l b:ak)(items items2:Array af)(n n2:Nat)(dd dd2:Option ak)(sl sl2:Array<|bd)(ns ms:ag)(hi:IntsAre items.toList ns)(hj:IntsAre items2.toList ms) :
  Meets (Builtin.«tuple.__lt__» ⟨[.ref l,.ref b],[]⟩)
   (λ_ R s=>s.heap.get? l=some { cls:=.type "tuple",dict:=dd,data:=.seq items n,slots:=sl }/\s.heap.get? b=some { cls:=.type "tuple",dict:=dd2,data:=.seq items2 n2,slots:=sl2 } /\
    R (.ok<|.ret<|.bool<|lexLt ns ms) s):=
 .of_wp λprog w A R s h=>by
  obtain⟨T,g,d,N,O⟩:=s;obtain⟨Y,hb,h⟩:=h;have f2:=AutoSeq1.sub_tuple_tuple;have z1:items.size=ns.length:=by rw[<- hi.length];simp
  have z2:items2.size=ms.length:=by rw[<- hj.length];simp
  wp_walk using dg Y,dg hb,gz _ (λrest b s'=>b.1=none/\s'=⟨T,g,d,N,O⟩/\∃(P M:ba) (k j:ag),rest=P.zip M /\
   IntsAre P k/\IntsAre M j/\k.length+items2.size=j.length+items.size/\R (.ok<|.ret<|.bool<|lexLt k j) ⟨T,g,d,N,O⟩) _
  case turn=>
   rintro⟨y,x⟩ rest b s' ⟨J,rfl,P,M,k,j,p,F,z,f,B⟩
   cases F with
   | nil=>rw[List.zip_nil_left]at p;cases p
   | cons a t K=>
    cases z with
    | nil=>rw[List.zip_nil_right]at p;cases p
    | cons c u L=>
     rw[jh]at p
     injection p with U G
     injection U with hy W
     subst hy W;rw[rW]at B;dsimp[bA]at f;obtain⟨e,Z,C⟩:=Rf A.in1 ⟨T,g,d,N,O⟩ a t c u;refine aH (Z prog w _ _ ?_)
     cases e with
     | true=>
      rw[aV<|C.mp rfl]at B
      wp_walk
      exact⟨rfl,rfl,_,_,_,_,G,K,L,(),B⟩
     | false=>
      rw[aR λq=>absurd (C.mpr q) bF]at B;have V:=NV A.in1 ⟨T,g,d,N,O⟩ a t c u prog w
      wp_walk using V
      exact⟨_,rfl,by simpa using B⟩
  case fin=>
   rintro⟨b1,b2⟩ s' ⟨J,rfl,P,M,k,j,p,F,z,f,B⟩;simp only at J;subst J;have hv:lexLt k j=decide (items.size<items2.size):=by
    cases F with
    | nil=>
     cases z with
     | nil=>
      dsimp[ez]at f;rw[qj];exact(bz ()).symm
     | cons c u hw=>
      dsimp[ez,bA]at f;rw[nP];exact(bf ()).symm
    | cons a t hv=>
     cases z with
     | nil=>
      dsimp[ez,bA]at f;rw[pD];exact(bz ()).symm
     | cons c u hw=>
      rw[jh]at p
      cases p
   rw[hv]at B
   wp_walk
   exact⟨_,rfl,by simpa[Builtin.Tuple.tupleCompareSizes]using B⟩
  case h=>
   exact⟨rfl,rfl,items.toList,items2.toList,ns,ms,rfl,hi,hj,(),h⟩
end
section
variable {prog:aj}{w:ah}{A:aA}{E:af->aC->Prop}{s:aC}
def G_{l:ak}{items items2:Array af}{ns:ag}{Q:af->aC->Prop}(hl:IsTup s.heap l items)(hb:IsTup s.heap b items2)(hi:IntsAre items.toList ns)(hj:IntsAre items2.toList ms)
  (hu:A.units<cLine) (h:Q (.bool<|lexLt ns ms) s):wpAny (model prog w) A (compareOp .Lt (.ref l)<|.ref b) Q E s:=by
 obtain⟨⟨cls,B,data,G⟩,t,hc,n,z⟩:=id hl;obtain⟨⟨q,j,k,p⟩,g,d,C,f⟩:=id hb;simp only at hc z d f;subst hc z d f;exact richCompare_meets_room (op:=.Lt) ⟨_,t,rfl⟩ ⟨_,g,rfl⟩ PySem.F.slot_tuple_lt PySem.F.entry_tuple_lt (PySem.F.args_tuple_lt_2 _ _) (Bv l b items items2 n C B j G p ns ms hi hj)
  ⟨t,g,show Value.bool (lexLt ns ms)≠Value.notImplemented/\Q (.bool<|lexLt ns ms) s from⟨(λx=>nomatch x),h⟩⟩ hu
def TL{t:ak}{vs ws:ba}{Q:af->aC->Prop}(ht:IsTup s.heap t vs.toArray)(hb:IsTup s.heap b ws.toArray)(hv:vs≠[])
  (h1:ws=[]->Q (.ref t) s) (h2:ws≠[]->Q (.ref s.heap.objs.size) { s with heap:=s.heap.push { cls:=.type "tuple",data:=.seq (vs++ws).toArray }})
  (hsz:vs.length+ws.length<=sizeLine):wpAny (model prog w) A (binaryOp .Add (.ref t)<|.ref b) Q E s:=by
 obtain⟨⟨cls,z,data,G⟩,p,hc,n,F⟩:=id ht;obtain⟨⟨C,f,q,j⟩,d,g,B,k⟩:=id hb;simp only at hc F g k;subst hc F g k;have e:vs.toArray++ws.toArray=(vs++ws).toArray:=by simp
 by_cases hw:ws=[]
 ·exact concat_meets ⟨_,p,rfl⟩ ⟨_,d,rfl⟩ noFill_tuple_add seq_tuple_add gZ gS (gH _ _)
   (tuple_addW1 t b vs.toArray ws.toArray n B z f G j (by simpa using hv)<|by simp[hw]) ⟨p,d,h1 hw⟩
 ·refine concat_meets ⟨_,p,rfl⟩ ⟨_,d,rfl⟩ noFill_tuple_add seq_tuple_add gZ gS (gH _ _)
   (tuple_addW2 t b vs.toArray ws.toArray n B z f G j (by simpa using hv) (by simpa using hw)<|by rw[aZ,aZ];exact hsz) ⟨p,d,?_⟩
  rw[e];exact h2 hw
abbrev sIx (n d:Nat):Option Int->Nat
 | none=>d
 | some v=>if v<0 then(v+(n:Int)).toNat else min v.toNat n
end
end HT
namespace L2
open PySem PySem.Spec PyProof.Rows
meta abbrev TO:=St->Hp->(Option Int->Hp->Prop)->Prop
def intsAre_of{ns:ag}:∀{us:ba},Vals (ns.map V.int) us->IntsAre us ns:=by
 induction ns with
 | nil=>intro us r;rw[fP]at r;cases r;exact .nil
 | cons n ns d=>
  intro us r;rw[bC]at r
  cases r with
  | cons r1 r2=>
   obtain⟨t,e⟩:=r1;subst e;exact .cons n t<|d r2
section
variable {X:Cx}{p2:Pos}
abbrev aaA (K:au):R2:=λx y H Q=>∃a b xs ys,x=.ref a/\y=.ref b/\nO K H a xs/\nO K H b ys/\xs≠[]/\xs.length+ys.length<=sizeLine /\
 (ys=[]->Q (.ref a) H)/\(ys≠[]->∀p,H p=none->Q (.ref p) (upd H p<|.tup<|xs++ys))
def Vals.Dr(r:Vals xs us):us=[] ↔ xs=[]:=by
 cases r with
 | nil=>simp
 | cons _ _=>simp
def UZ:oY X (binaryOp .Add) (aaA X.K):=by
 kcf_m;obtain⟨a,b,xs,ys,rfl,rfl,ha,hb,k,d,j,g⟩:=h
 cases rx
 cases ry
 obtain⟨p,r1,p1,_⟩:=I.tuple ha;obtain⟨f,r2,p2,_⟩:=I.tuple hb;refine HT.TL p1 p2 (λz=>k<|r1.Dr.mp z) (λz=>⟨.ref a,H,I,rfl,j<|r2.Dr.mp z⟩) (λz=>?_) (by rw[<- r1.length,<- r2.length];exact d);refine⟨.ref s.heap.objs.size,_,I.laid (t':=s.toks) (o:=.tup<|xs++ys) (λb ob q=>aS _ q) (aM _) ?_,rfl,g (λw=>z<|r2.Dr.mpr w) _<|I.hok.fresh<|aM _⟩;exact⟨by rw[aX];exact d,_,r1.append r2,sE.new _ _⟩
end
abbrev Em (n:Nat)(i:Int):bj:=if 0<=i then(if i<n then some i.toNat else none)else if -(n:Int)<=i then some (i+n).toNat else none
abbrev uY {α:Type}(xs:List α)(i:Int):Option α:=(Em xs.length i).bind λj=>xs[j]?
def KN{n:Nat}{i:Int}(h:Em n i=some j):seqIndex? i n=some j/\j<n/\-(n:Int)<=i/\i<n:=by
 unfold Em at h;by_cases h0:0<=i
 ·rw[aV h0]at h;by_cases h1:i<n
  ·rw[aV h1]at h;have e:i.toNat=j:=br h;exact⟨by rw[seqIndex_of h0 h1,e],(),(),h1⟩
  ·rw[aR h1]at h;cases h
 ·rw[aR h0]at h;by_cases h1:-(n:Int)<=i
  ·rw[aV h1]at h;have e:(i+n).toNat=j:=br h;exact⟨by rw[seqIndex_neg () h1,e],(),h1,()⟩
  ·rw[aR h1]at h;cases h
def C6{α:Type}{xs:List α}{i:Int}{v:α}(h:uY xs i=some v):∃j,seqIndex? i xs.length=some j/\xs[j]?=some v/\j<xs.length/\-(xs.length:Int)<=i/\i<xs.length:=by
 unfold uY at h
 cases e:Em xs.length i with
 | none=>rw[e]at h;cases h
 | some j=>
  rw[e]at h;obtain⟨h1,h2,h3,d⟩:=KN e;exact⟨j,h1,h,h2,h3,d⟩
def U0{α:Type}{xs:List α}{j:Nat}{v:α}(h:xs[j]?=some v):uY xs (j:Int)=some v:=by
 have d:j<xs.length:=(aJ.mp h).1;have e:Em xs.length (j:Int)=some j:=by
  unfold Em;rw[aV (),aV ()];simp
 unfold uY;rw[e];exact h
abbrev xH (b:aE):Prop:=∀o i,subscripted b false o i=operate [o,i] (getItem o i)
abbrev Uq (X:Cx)(r:R2):Prop:=
 ∀(f d:aE) (pins:bn) (s:aC) (σ:St) (H:Hp) (x y:V) (v u:af) (Q:VK),Inv X pins σ H s->RelV x v->RelV y u->r x y H Q ->
  subscripted d false v u=operate [v,u] (getItem v u)->wpAny (model X.prog X.w) X.A (subscriptTail f d v u) (EP X pins σ Q) X.xe s
abbrev MC (X:Cx)(id:String)(r:V->List V->Hp->VK->Prop):Prop:=
 ∀(pins:bn) (s:aC) (σ:St) (H:Hp) (x:V) (xs:List V) (v:af) (us:ba) (Q:VK),Inv X pins σ H s->RelV x v->Vals xs us->r x xs H Q ->
  wpAny (model X.prog X.w) X.A (call (.builtin id) (v::us)) (EP X pins σ Q) X.xe s
section
variable {X:Cx}{a b:aE}{ta tb:TE}{pos:Pos}
def Jr{r:R2}(hr:Uq X r)(ha:PE X a ta)(hb:PE X b tb)(hs:xH b):PE X (.Subscript a b pos) (tOp r ta tb):=by
 gn_on;exact Subscript_<|WJ ha hb I h λv u f x y H2 d rx ry q=>hr a b pins f σ H2 x y v u Q d rx ry q<|hs _ _
abbrev acy (K:au):R2:=λx y H Q=>∃p xs i v,x=.ref p/\y=.int i/\qe K H p xs/\uY xs i=some v/\Q v H
abbrev ads (K:au):R2:=λx y H Q=>∃p xs i v,x=.ref p/\y=.int i/\nO K H p xs/\uY xs i=some v/\Q v H
abbrev acR:R2:=λx y H Q=>∃z i c,x=.str z/\y=.int i/\z.length<=sizeLine/\uY z.cps.toList i=some c/\Q (.str ⟨#[c]⟩) H
def J2:Uq X (acy X.K):=by
 intro B k pins s σ H x y v u Q I rx ry h hs;obtain⟨p,xs,i,z,rfl,rfl,hq,M,q⟩:=h
 cases rx
 obtain⟨t,rfl⟩:=ry;obtain⟨C,r,pl,N⟩:=I.list hq;obtain⟨j,h1,h2,h3,G,J⟩:=C6 M;obtain⟨w,F,g⟩:=r.get h2;have L:=r.length;have hn:=yI;have d:EP X pins σ Q w s:=⟨z,H,I,g,q⟩;by_cases h0:0<=i
 ·have f:i.toNat=j:=by
   rw[seqIndex_of h0 J]at h1;exact br h1
  exact item_listR pl.isList h0 () (by rw[f];simpa using F) d hs
 ·have f:(i+(C.toArray.size:Int)).toNat=j:=by
   rw[seqIndex_neg () G]at h1;rw[aZ,<- L];exact br h1
  exact subscriptTail_builtinR (x:=w) pl.isList.typeIs slot_list_getitem.lookup
   (wpAny_getItem_list_neg (Q:=λr s'=>r=w/\EP X pins σ Q r s') pl.isList () (by rw[aZ]<;>lia) () (by rw[f];simpa using F) ⟨rfl,d⟩) hs
def YA:Uq X (ads X.K):=by
 intro k g pins s σ H x y v u Q I rx ry h hs;obtain⟨p,xs,i,z,rfl,rfl,hq,F,q⟩:=h
 cases rx
 obtain⟨t,rfl⟩:=ry;obtain⟨G,r,pl,J⟩:=I.tuple hq;obtain⟨j,h1,h2,h3,L,M⟩:=C6 F;obtain⟨w,B,f⟩:=r.get h2;have C:=r.length;have hn:=yI;have d:EP X pins σ Q w s:=⟨z,H,I,f,q⟩;exact subscriptTail_builtinR (x:=w) pl.typeIs slot_tuple_getitem.lookup
  (getItem_tuple (j:=j) (Q:=λr s'=>r=w/\EP X pins σ Q r s') pl () () (by rw[aZ,<- C];exact h1) (by simpa using B) ⟨rfl,d⟩) hs
def Yj:Uq X acR:=by
 intro f d pins s σ H x y v u Q I rx ry h hs;obtain⟨z,i,c,rfl,rfl,C,B,q⟩:=h;obtain⟨t,rfl⟩:=rx;obtain⟨F,rfl⟩:=ry;obtain⟨j,h1,h2,h3,g,k⟩:=C6 B;have p:z.cps.toList.length=z.length:=by simp[Str.length]
 rw[p]at h1 g k;have hn:=yI;exact tail_any (typeIs_str s z t) slot_str_getitem.lookup (getItem_str (c:=c) (by
  have e1:decide (i < -(2 ^ 63:Int))=false:=bz ();have e2:decide (i>=2 ^ 63)=false:=bz ();rw[e1,e2,Bool.or_false]) (by rw[h1];simpa using h2) ⟨.str ⟨#[c]⟩,H,I.tok _,⟨_,rfl⟩,q⟩) hs
def GJ(its:ba)(n j:Nat)(u:af):Obj.mapSeq (·.setIfInBounds j u) { cls:=.type "list",data:=.seq its.toArray n }={ cls:=.type "list",data:=.seq (its.set j u).toArray n }:=by
 simp[Obj.mapSeq]
def Inv.lst{H:Hp}{s:aC}{p:ak}{xs:List V}(I:Inv X pins σ H s)(h:H p=some (.lst xs)) :
  ∃(its:ba) (n:Nat),Vals xs its/\s.heap.get? p=some { cls:=.type "list",data:=.seq its.toArray n }/\xs.length<=sizeLine:=by
 obtain⟨z,its,n,r,e⟩:=I.hok p _ h;exact⟨its,n,r,e,z⟩
def Inv.Yh{H:Hp}{s:aC}{p:ak}{ys:List V}{its its':ba}{n:Nat}{f:Obj->Obj}(I:Inv X pins σ H s)(h:H p=some (.lst xs))
  (ho:s.heap.get? p=some { cls:=.type "list",data:=.seq its.toArray n }) (hf:f { cls:=.type "list",data:=.seq its.toArray n }={ cls:=.type "list",data:=.seq its'.toArray n' }) (r:Vals ys its') (hz:ys.length<=sizeLine) (t:Nat) :
  Inv X pins σ (upd H p<|.lst ys) { s with heap:=s.heap.update p f,toks:=t }:=by
 have e:(s.heap.update p f).get? p=some { cls:=.type "list",data:=.seq its'.toArray n' }:=by
  rw[f_ f ho<|by rw[hf]<;>rfl,hf]
 refine I.write (x:=p) (e:=p) (by rw[h];trivial) (.inl rfl) (λb u hb q=>(Heap.get?_update_other _ _<|cR hb).trans q) ⟨_,e⟩ ?_;exact⟨hz,its',n',r,e⟩
abbrev Z2:V->V->V->Hp->(Hp->Prop)->Prop:=λo i v H Q=>∃p xs k j,o=.ref p/\i=.int k/\H p=some (.lst xs)/\Em xs.length k=some j/\Q (upd H p<|.lst<|xs.set j v)
def set_list:E2 X Z2:=by
 intro pins s σ H o i v N iv u Q I G K M h;obtain⟨p,xs,k,j,rfl,rfl,F,L,q⟩:=h
 cases G
 obtain⟨t,rfl⟩:=K;obtain⟨d,n,r,f,J⟩:=I.lst F;obtain⟨h1,h2,h3,B⟩:=KN L;have g:=r.length;have hn:=yI;have C:Inv X pins σ (upd H p<|.lst<|xs.set j v) { s with heap:=s.heap.update p<|Obj.mapSeq (·.setIfInBounds j u)}:=
  I.Yh F f (GJ d n j u) (r.set M j) (by rw[bU];exact J) s.toks
 by_cases h0:0<=k
 ·have z:k.toNat=j:=by
   rw[seqIndex_of h0 B]at h1;exact br h1
  exact PySem.W.ki_setAt f h0 () (by rw[aZ,<- g];exact B)<|by rw[z];exact⟨_,C,q⟩
 ·have z:(k+(d.toArray.size:Int)).toNat=j:=by
   rw[seqIndex_neg () h3]at h1;rw[aZ,<- g];exact br h1
  exact PySem.W.ki_setBack f () (by rw[aZ,<- g];exact h3) ()<|by rw[z];exact⟨_,C,q⟩
def uz:kP X (.type "list") (λxs H Q=>∃p ys,xs=[.ref p]/\(qe X.K H p ys\/nO X.K H p ys)/\∀l,H l=none->Q (.ref l) (upd H l<|.lst ys)):=by
 fin2;obtain⟨p,ys,rfl,hq,q⟩:=h;kcj_m
 cases rx
 have t:∀(d:ba),Vals ys d->ys.length<=sizeLine->∀(h':aq) (g:Nat),(∀b o',s.heap.get? b=some o'->h'.get? b=some o') ->
   h'.get? s.heap.objs.size=some { cls:=.type "list",dict:=none,data:=.seq d.toArray g,slots:=#[]}->EP X pins σ Q (.ref s.heap.objs.size) { s with heap:=h' }:=λd f j h' g kp e=>
  ⟨.ref s.heap.objs.size,_,I.laid (t':=s.toks) kp (aM _)<|show lC X.prog X.w _ h' _ (.lst ys)from⟨j,d,g,f,e⟩,rfl,q _<|I.hok.fresh<|aM _⟩
 rcases hq with hq|hq
 ·obtain⟨d,f,pl,j⟩:=I.list hq;have k:=f.length;obtain⟨o,z,hc,n,B⟩:=pl.isList;exact call_list_seq p (.inl rfl) z hc B (λh' g kp e=>t d f j h' g kp e) (by dsimp[aZ]<;>lia)
 ·obtain⟨d,f,pl,j⟩:=I.tuple hq;have k:=f.length;obtain⟨o,z,hc,n,B⟩:=pl;exact call_list_seq p (.inr rfl) z hc B (λh' g kp e=>t d f j h' g kp e)<|by dsimp[aZ]<;>lia
theorem tu:kP X (.type "tuple") (λxs H Q=>∃p ys,xs=[.ref p]/\((qe X.K H p ys/\∀l,H l=none->Q (.ref l) (upd H l<|.tup ys))\/(nO X.K H p ys/\Q (.ref p) H))):=by
 fin2;obtain⟨p,ys,rfl,h⟩:=h;kcj_m
 cases rx
 rcases h with⟨hq,q⟩|⟨hq,q⟩
 ·obtain⟨d,f,pl,g⟩:=I.list hq;have j:=f.length;refine call_tuple_list pl.isList (λh' kp=>?_) (by dsimp[aZ]<;>lia);have k:Inv X pins σ H { s with heap:=h' }:=I.kept (t':=s.toks) kp;have t:Inv X pins σ (upd H h'.objs.size<|.tup ys) { s with heap:=h'.push { cls:=.type "tuple",data:=.seq d.toArray }}:=
   k.laid (t':=s.toks) (λb o e=>aS _ e) (aM _) (show lC X.prog X.w _ _ _ (.tup ys)from⟨g,d,f,sE.new _ _⟩)
  exact⟨.ref h'.objs.size,_,t,rfl,q _<|k.hok.fresh<|aM _⟩
 ·obtain⟨d,f,pl,g⟩:=I.tuple hq;exact call_tuple_same pl ⟨.ref p,H,I,rfl,q⟩
abbrev ZI (K:au)(T:String)(x:V)(H:Hp):Prop:=match x with
 | .str _=>T = "str"
 | .int _=>T = "int"
 | .ref p=>(T = "list" /\ ∃xs,qe K H p xs)\/(T = "tuple" /\ ∃o,K.lookup p=some o/\o.cls=.type "tuple" /\ o.dict=none) \/
   (T = "dict" /\ ((∃kvs,H p=some (.dK kvs))\/∃kvs,H p=some (.dT kvs)))\/(T = "set" /\ ∃S n,H p=some (.set S n))
 | _=>False
def P9{H:Hp}{s:aC}{x:V}{v:af}(I:Inv X pins σ H s)(r:RelV x v)(ty:ZI X.K T x H) :
  s.TypeIs v T/\∀a,v=.ref a->∃ob,s.heap.get? a=some ob/\ob.dict=none:=by
 cases x with
 | str z=>
  obtain⟨t,rfl⟩:=r
  cases(show T = "str" from ty)
  exact⟨typeIs_str s z t,nofun⟩
 | int i=>
  obtain⟨t,rfl⟩:=r
  cases(show T = "int" from ty)
  exact⟨typeIs_int s i t,nofun⟩
 | ref p=>
  cases r
  rcases ty with⟨rfl,xs,hq⟩|⟨rfl,o,d,hc,f⟩|⟨rfl,d⟩|⟨rfl,S,n,d⟩
  ·obtain⟨g,_,pl,_⟩:=I.list hq;refine⟨pl.isList.typeIs,λa e=>?_⟩
   cases e
   obtain⟨o,n,e,c,f,_⟩:=pl;exact⟨o,e,f⟩
  ·refine⟨⟨o,I.El p o d,hc⟩,λa e=>?_⟩
   cases e
   exact⟨o,I.El _ o d,f⟩
  ·have z:∃o,s.heap.get? p=some o/\o.ExactDict:=by
    rcases d with⟨kvs,d⟩|⟨kvs,d⟩
    ·obtain⟨_,_,_,_,o,_,_,e,ex,_⟩:=I.hok p _ d;exact⟨o,e,ex⟩
    ·obtain⟨_,_,_,_,o,_,_,e,ex,_⟩:=I.hok p _ d;exact⟨o,e,ex⟩
   obtain⟨o,e,ex⟩:=z;refine⟨⟨o,e,ex.1⟩,λa e2=>?_⟩
   cases e2
   exact⟨o,e,ex.2.1⟩
  ·obtain⟨o,_,_,_,e,ex,_⟩:=I.hok p _ d;refine⟨⟨o,e,ex.1⟩,λa e2=>?_⟩
   cases e2
   exact⟨o,e,ex.2.1⟩
 | _=>exact False.elim ty
abbrev ac_ (K:au)(T:String)(r:V->List V->Hp->VK->Prop)(to:TE):TE:=λσ H Q=>to σ H λx H1=>ZI K T x H1/\r x [] H1 Q
abbrev tBM (K:au)(T:String)(r:V->List V->Hp->VK->Prop)(to:TE)(t:TA):TE:=λσ H Q=>to σ H λx H1=>ZI K T x H1/\t σ H1 λxs H2=>r x xs H2 Q
variable {o e:aE}{es:List aE}{to:TE}{t:TA}{name:Str}{apos cpos:Pos}{T id:String}{r:V->List V->Hp->VK->Prop}
def X6(pa:PlainAttrs T)(slot:Slot T name id)(hty:typeOf (.builtin id)=pure (.type "method_descriptor"))(hm:MC X id r)(ho:PE X o to)
  (hbase:attributeBase o name X.env (eval o X.env)=eval o X.env:=by rfl) (hline:(apos.endLine == cpos.line)=true:=by rfl):PE X (.Call (.Attribute o name apos) [] [] cpos) (ac_ X.K T r to):=by
 gn_on;refine wpAny_Call_method0_late hbase hline<|nL (ho pins s σ H _ I h) λv g ⟨x,H1,d,r1,ty,f⟩=>?_;obtain⟨h1,h2⟩:=P9 d r1 ty;exact⟨T,id,pa,slot,hty,h1,h2,g_ rfl<|PySem.evalArgs_none<|hm pins g σ H1 x [] v [] Q d r1 .nil f⟩
def Qz(pa:PlainAttrs T)(slot:Slot T name id)(hty:typeOf (.builtin id)=pure (.type "method_descriptor"))(hm:MC X id r)(ho:PE X o to)(ha:PA X (e::es) t)
  (hbase:attributeBase o name X.env (eval o X.env)=eval o X.env:=by rfl)
  (hfew:((backTo cpos<|starEach (e::es) X.env).all (λx=>!x.1) && (backToKw cpos<|keywordEach [] X.env).all (λx=>x.1.isSome)
   && decide ((e::es).length+([]:List Keyword).length+(if ([]:List Keyword).isEmpty then 0 else 1)<30))=true:=by rfl)
  (hline:(apos.endLine == cpos.line)=true:=by rfl) (hs:starEach (e::es) X.env=(false,eval e X.env)::starEach es X.env:=by rfl) (hplain:(backTo cpos<|starEach es X.env).any (·.1)=false:=by rfl) :
  PE X (.Call (.Attribute o name apos) (e::es) [] cpos) (tBM X.K T r to t):=by
 gn_on;refine wpAny_Call_method_late hbase hfew hline rfl<|nL (ho pins s σ H _ I h) λv p ⟨x,H1,f,r1,ty,g⟩=>?_;obtain⟨h1,h2⟩:=P9 f r1 ty;refine⟨T,id,pa,slot,hty,h1,h2,?_⟩;have d:=ha cpos pins p σ H1 _ f g;rw[hs]at d ⊢;refine g_ (by show(false || (backTo cpos<|starEach es X.env).any (·.1))=false;rw[hplain]<;>rfl)<|Calls.evalArgs_plain ?_;exact nL d λus z ⟨j,H2,k,r2,q⟩=>hm pins z σ H2 x j v us Q k r1 r2 q
end
abbrev ZG (X:Cx)(id:String)(r:V->List V->Hp->VK->Prop):Prop:=
 ∀(pins:bn) (s:aC) (σ:St) (H:Hp) (x:V) (xs:List V) (v:af) (us:ba) (Q:VK),Inv X pins σ H s->RelV x v->Vals xs us->r x xs H Q ->
  wpAny (model X.prog X.w) X.A (call (.builtin id) (v::us)) (EP X pins σ Q) X.xe s
def Vals.one:∀{x:V}{us:ba},Vals [x] us->∃u,us=[u]/\RelV x u
 | _,_,.cons r .nil=>⟨_,rfl,r⟩
def Vals.zero:∀{us:ba},Vals [] us->us=[]
 | _,.nil=>rfl
def Vals.dropLast{xs:List V}{us:ba}(h:Vals xs us):Vals xs.dropLast us.dropLast:=by
 induction h with
 | nil=>exact .nil
 | cons r t d=>
  cases t with
  | nil=>exact .nil
  | cons q f=>exact .cons r d
theorem Vals.eraseIdx:∀{xs:List V}{us:ba}(i:Nat),Vals xs us->Vals (xs.eraseIdx i) (us.eraseIdx i)
 | _,_,_,.nil=>.nil
 | _,_,0,.cons _ t=>t
 | _,_,i+1,.cons r t=>.cons r<|Vals.eraseIdx i t
def Vals.reverse{xs:List V}{us:ba}(h:Vals xs us):Vals xs.reverse us.reverse:=by
 induction h with
 | nil=>exact .nil
 | cons r t d=>rw[h_,h_];exact Vals.append d<|.cons r .nil
theorem Vals.rep(h:Vals xs us):∀k:Nat,Vals (List.replicate k xs).flatten (List.replicate k us).flatten
 | 0=>.nil
 | k+1=>by
  rw[dD,dD,dF,dF];exact Vals.append h<|Vals.rep h k
def G9{α:Type}(l:List α):l.eraseIdx (l.length-1)=l.dropLast:=by
 induction l with
 | nil=>rfl
 | cons a r d=>
  cases r with
  | nil=>rfl
  | cons b r=>
   have e:(a::b::r).length-1=((b::r).length-1)+1:=by
    have h1:(a::b::r).length=r.length+2:=rfl;have h2:(b::r).length=r.length+1:=rfl
    lia
   rw[e,List.eraseIdx_cons_succ,d]
   all_goals rfl
theorem BZ{α:Type}:∀(l:List α) (i:Nat),(l.eraseIdx i).length<=l.length
 | [],_=>aM _
 | _::_,0=>Nat.le_succ _
 | _::r,i+1=>Nat.succ_le_succ<|BZ r i
theorem foldl_rep(its:ba):∀(k:Nat) (acc:ba),
  List.foldl (λx1 x2=>x1++x2) acc.toArray (List.replicate k its.toArray)=(acc++(List.replicate k its).flatten).toArray
 | 0,acc=>by simp
 | k+1,acc=>by
  have e:acc.toArray++its.toArray=(acc++its).toArray:=by simp
  have e2:(acc++its)++(List.replicate k its).flatten=acc++(List.replicate (k+1) its).flatten:=by
   rw[dD,dF,cJ]
  rw[<- e2,<- foldl_rep its k (acc++its),<- e,dD,fj]
section
variable {X:Cx}{pins:bn}{σ:St}{H:Hp}{s:aC}{l:ak}{xs ys:List V}
def Inv.Qs{its its':ba}{n:Nat}{f:Array af->Array af}{t':Nat}(I:Inv X pins σ H s)(hH:H l=some (.lst xs))
  (e:s.heap.get? l=some { cls:=.type "list",data:=.seq its.toArray n }) (hf:f its.toArray=its'.toArray) (hv:Vals ys its') (hz:ys.length<=sizeLine) :
  Inv X pins σ (upd H l<|.lst ys) { s with heap:=s.heap.update l<|Obj.mapSeq f,toks:=t' }:=by
 have q:=PySem.IsL.update e f;rw[hf]at q;refine I.write (x:=l) (e:=l) (by rw[hH];exact trivial) (.inl rfl) (λg u hb d=>(Heap.get?_update_other s.heap (Obj.mapSeq f)<|cR hb).trans d) ⟨_,q⟩ ?_;exact⟨hz,its',_,hv,q⟩
def Inv.Yk{its:ba}{t':Nat}(I:Inv X pins σ H s)(hv:Vals ys its)(hz:ys.length<=sizeLine) :
  Inv X pins σ (upd H s.heap.objs.size<|.lst ys) { s with heap:=s.heap.push { cls:=.type "list",data:=.seq its.toArray },toks:=t' }:=
 I.laid (λ_ _ q=>aS _ q) (aM _) ⟨hz,its,0,hv,bw _ rfl⟩
def Inv.fresh(I:Inv X pins σ H s):H s.heap.objs.size=none:=I.hok.fresh<|aM _
def Inv.DW(I:Inv X pins σ H s)(hH:H l=some (.lst xs)):xs.length<=sizeLine/\∃(its:ba) (n:Nat),Vals xs its/\xs.length=its.length/\s.heap.get? l=some { cls:=.type "list",data:=.seq its.toArray n }:=by
 obtain⟨z,its,n,r,e⟩:=I.hok l _ hH;exact⟨z,its,n,r,r.length,e⟩
def EY{n:Nat}(h:n<=sizeLine):Builtin.List.listTooLong n=false:=by
 unfold Builtin.List.listTooLong;exact bz ()
end
section
variable {X:Cx}
abbrev Tt:V->List V->Hp->VK->Prop:=λx d H Q=>∃l xs y,x=.ref l/\d=[y]/\H l=some (.lst xs)/\xs.length<sizeLine/\Q .non (upd H l<|.lst<|xs++[y])
def Cs:ZG X "list.append" Tt:=by
 intro pins s σ H x t v us Q I rx j h;obtain⟨l,xs,y,rfl,rfl,f,k,q⟩:=h
 cases rx
 obtain⟨u,rfl,g⟩:=j.one;obtain⟨z,d,n,r,p,e⟩:=I.DW f;refine fQ F.slot_list_append ⟨_,e,rfl⟩ F.entry_list_append (F.args_list_append_2 _ _) (PySem.list_append l d.toArray n u<|by rw[aZ];lia) ⟨e,?_⟩;refine⟨.non,_,I.Qs (its':=d++[u]) f e (by simp) (r.append<|.cons g .nil) ?_,rfl,q⟩;rw[aX,List.length_singleton]
 lia
abbrev SQ:V->List V->Hp->VK->Prop:=λx d H Q=>∃l b xs zs,x=.ref l/\d=[.ref b]/\H l=some (.lst xs)/\H b=some (.lst zs)/\xs.length+zs.length<=sizeLine/\Q .non (upd H l<|.lst<|xs++zs)
def Ll:ZG X "list.extend" SQ:=by
 intro pins s σ H x M v us Q I rx G h;obtain⟨l,b,xs,zs,rfl,rfl,k,t,J,q⟩:=h
 cases rx
 obtain⟨u,rfl,B⟩:=G.one
 cases B
 obtain⟨z,f,n,r,L,e⟩:=I.DW k;obtain⟨K,d,p,r2,C,e2⟩:=I.DW t;have j:f.toArray.size+d.toArray.size<=sizeLine:=by rw[aZ,aZ];lia
 have g:¬(!f.toArray.isEmpty && Builtin.List.listTooLong (f.toArray.size+d.toArray.size))=true:=by
  rw[EY j,Bool.and_false];exact bF
 refine fQ F.slot_list_extend ⟨_,e,rfl⟩ F.entry_list_extend (F.args_list_extend_2 _ _)
  (AutoSeq1.list_extend_list_list_0 l f.toArray n b d.toArray p g (by rw[aZ];lia) ()) ⟨e,e2,?_⟩
 refine⟨.non,_,I.Qs (its':=f++d) k e (by simp) (r.append r2) ?_,rfl,q⟩;rw[aX]
 lia
abbrev ach:V->List V->Hp->VK->Prop:=λx d H Q=>∃l xs y,x=.ref l/\d=[]/\H l=some (.lst xs)/\xs[xs.length-1]?=some y/\Q y (upd H l<|.lst xs.dropLast)
def WQ:ZG X "list.pop" ach:=by
 intro pins s σ H x C v us Q I rx B h;obtain⟨l,xs,y,rfl,rfl,j,hy,q⟩:=h
 cases rx
 have g:=B.zero;subst g;obtain⟨z,d,n,r,t,e⟩:=I.DW j;obtain⟨u,k,p⟩:=r.get hy;have f:d.toArray[d.toArray.size-1]?=some u:=by
  show d.toArray[d.length-1]?=some u;rw[<- cH,<- t];exact k
 refine fQ F.slot_list_pop ⟨_,e,rfl⟩ F.entry_list_pop (F.args_list_pop_1 _) (MeetsSeq.list_pop_last l d.toArray n u f<|by rw[aZ];lia) ⟨e,?_⟩;refine⟨y,_,I.Qs (its':=d.dropLast) j e ?_ r.dropLast ?_,p,q⟩
 ·skip
  rw[aZ,iH,G9]
 ·rw[List.length_dropLast]
  lia
abbrev Ym:V->List V->Hp->VK->Prop:=λx d H Q=>∃l xs i k y,x=.ref l/\d=[.int i]/\H l=some (.lst xs)/\-(2 ^ 63)<=i/\i<2 ^ 63/\seqIndex? i xs.length=some k/\xs[k]?=some y/\Q y (upd H l<|.lst<|xs.eraseIdx k)
def NH:ZG X "list.pop" Ym:=by
 intro pins s σ H x G v us Q I rx B h;obtain⟨l,xs,i,k,y,rfl,rfl,g,h1,h2,C,hy,q⟩:=h
 cases rx
 obtain⟨u,rfl,j⟩:=B.one;obtain⟨t,rfl⟩:=j;obtain⟨z,d,n,r,p,e⟩:=I.DW g;obtain⟨w,hw,f⟩:=r.get hy;refine fQ F.slot_list_pop ⟨_,e,rfl⟩ F.entry_list_pop (F.args_list_pop_2 _ _)
  (MeetsSeq.list_pop_at l d.toArray n i t k w (fitsIndex_both h1 h2) (by rw[aZ,<- p];exact C) (by rw[<- cH];exact hw)<|by rw[aZ];lia) ⟨e,?_⟩
 refine⟨y,_,I.Qs (its':=d.eraseIdx k) g e ?_ (r.eraseIdx k) ?_,f,q⟩
 ·skip
  rw[iH]
 ·have:=BZ xs k
  lia
abbrev PM:V->List V->Hp->VK->Prop:=λx d H Q=>∃l xs,x=.ref l/\d=[]/\H l=some (.lst xs)/\Q .non (upd H l<|.lst xs.reverse)
def GH:ZG X "list.reverse" PM:=by
 intro pins s σ H x p v us Q I rx j h;obtain⟨l,xs,rfl,rfl,g,q⟩:=h
 cases rx
 have f:=j.zero;subst f;obtain⟨z,d,n,r,k,e⟩:=I.DW g;refine fQ F.slot_list_reverse ⟨_,e,rfl⟩ F.entry_list_reverse (F.args_list_reverse_1 _) (AutoSeq1.list_reverse_list_0 l d.toArray n<|by rw[aZ];lia) ⟨e,?_⟩;refine⟨.non,_,I.Qs (its':=d.reverse) g e (by simp) r.reverse ?_,rfl,q⟩;rw[List.length_reverse]
 lia
abbrev acC:R2:=λx y H Q=>∃l b xs zs,x=.ref l/\y=.ref b/\H l=some (.lst xs)/\H b=some (.lst zs)/\xs.length+zs.length<=sizeLine/\∀p,H p=none->Q (.ref p) (upd H p<|.lst<|xs++zs)
def XX:oY X (binaryOp .Add) acC:=by
 kcf_m;obtain⟨l,b,xs,zs,rfl,rfl,p,g,B,q⟩:=h
 cases rx
 cases ry
 obtain⟨z,f,n,r,F,e⟩:=I.DW p;obtain⟨C,d,t,r2,k,e2⟩:=I.DW g;refine PySem.P.add_list e e2 ?_ (by rw[aZ,aZ];lia);have j:f.toArray++d.toArray=(f++d).toArray:=by simp
 rw[j];exact⟨.ref _,_,I.Yk (t':=s.toks) (r.append r2)<|by rw[aX];lia,rfl,q _ I.fresh⟩
abbrev ade:R2:=λx y H Q=>∃l k xs,x=.ref l/\y=.int k/\H l=some (.lst xs)/\-(2 ^ 63)<=k/\k<2 ^ 63/\xs.length * k.toNat<=sizeLine /\
 ∀p,H p=none->Q (.ref p) (upd H p<|.lst (List.replicate k.toNat xs).flatten)
def len_rep{α:Type}(xs:List α)(k:Nat):(List.replicate k xs).flatten.length=k * xs.length:=by
 induction k with
 | zero=>simp
 | succ k d=>rw[dD,dF,aX,d,jd,Nat.add_comm]
def Zg:oY X (binaryOp .Mult) ade:=by
 kcf_m;obtain⟨l,k,xs,rfl,rfl,L,h1,h2,J,q⟩:=h
 cases rx
 obtain⟨t,rfl⟩:=ry;obtain⟨z,d,n,r,K,e⟩:=I.DW L;have j:d.toArray.size * k.toNat<=sizeLine:=by rw[aZ,<- K];exact J
 have p:¬d.toArray.size * k.toNat>(2 ^ 63-1) / 8:=by
  have:(sizeLine:Nat)<=(2 ^ 63-1) / 8:=by decide
  omega
 have B:¬(!Builtin.List.listFitsIndex k)=true:=by
  rw[fitsIndex_both h1 h2];exact bF
 have f:¬Builtin.List.listTooLong (d.toArray.size * k.toNat)=true:=by
  rw[EY j];exact bF
 have g:List.foldl (λG C=>G++C) #[] (List.replicate (if d.toArray.isEmpty=true then 0 else k.toNat) d.toArray)=(List.replicate k.toNat d).flatten.toArray:=by
  have f0:∀m:Nat,List.foldl (λG C=>G++C) #[] (List.replicate m d.toArray)=(List.replicate m d).flatten.toArray:=λm=>by
   have:=foldl_rep d m [];rw[jJ]at this;exact this
  rw[f0]
  cases d with
  | nil=>simp
  | cons a M=>rw[aR<|by simp]
 refine wpAny_binaryOp_repeat_ref (T := "list") (U := "int") ⋯ ⟨_,e,rfl⟩ (λs'=>typeIs_int s' k t) noFill_list_mul F.fills_int_mul F.slot_int_rmul repeat_list F.slot_int_index.lookup
  (fQ F.slot_int_rmul (typeIs_int s k t) F.entry_int_rmul (F.args_int_rmul_2 _ _) (int___rmul___int_list k t l d.toArray n)
   ⟨e,rfl,⟨_,e,rfl⟩,fQ F.slot_list_mul ⟨_,e,rfl⟩ F.entry_list_mul (F.args_list_mul_2 _ _) (AutoListH.list___mul___list_int_3 l d.toArray n k t B p f) ⟨e,?_⟩⟩)
 rw[g];exact⟨.ref _,_,I.Yk (t':=s.toks) (r.rep k.toNat)<|by rw[len_rep,mul_comm];exact J,rfl,q _ I.fresh⟩
end
end L2
namespace Att
open PySem PySem.W PySem.Calls PyProof.Rows
def zu{P:Params}:∀(ns:ag) (vs:ba),WellAll P h vs (ns.map WData.int)->IntsAre vs ns:=by
 intro ns
 induction ns with
 | nil=>
  intro vs w;rw[fP]at w
  cases w
  exact .nil
 | cons n ns d=>
  intro vs w;rw[bC]at w
  cases w with
  | cons a b=>
   cases a
   exact .cons _ _<|d _ b
def Mx{l:OpenLaw}{n:Nat}(hn:l.most=some n){P:Params}{h:aq}
  (hpre:l.row.toRowW.claim.pre args=true) (hwl:WellAll P h vals args) :
  ∃a vs ns,vals=[Value.ref a]/\args=[WData.list<|ns.map WData.int]/\h.get? a=some { cls:=.type "list",data:=.seq vs.toArray }/\IntsAre vs ns/\ns.length<=n:=by
 have p:WShape.hasAll [] args [.list .int]=true:=(pre_splitW hpre).1;have hc:l.pre.holds [] { args:=args }=true:=(pre_splitW hpre).2;obtain⟨d,r,rfl,h1,h2⟩:=hasAllW_cons p;obtain rfl:=hasAllW_nil h2;obtain⟨xs,rfl,h3⟩:=hasW_list h1;obtain⟨ns,rfl⟩:=items_int h3;have f:ns.length<=n:=by
  unfold OpenLaw.pre at hc;have k:(WTm.not<|.lt (.lit<|.int (n:Int))<|.len<|.arg 0).holds [] { args:=[.list<|ns.map .int]}=true:=by
   have k:=(holds_andW hc).1;rw[hn]at k;exact k
  have j:=condW_of k<|w_not<|w_lt w_lit<|w_len_list<|w_arg rfl;rw[aG]at j;refine Nat.le_of_not_lt λq=>?_;have B:(n:Int)<((ns.length:Nat):Int):=by omega
  first
   | (rw[bf B]at j;exact absurd j ⋯)
   | (simp at j;omega)
 cases hwl with
 | cons C t=>
  cases t
  cases C with
  | list z g=>exact⟨_,_,ns,rfl,rfl,z,zu ns _ g,f⟩
def LF(l:OpenLaw)(args:List WData):l.row.toRowW.claim.post args (.bool true) args=true:=
 postW_of (r:=l.row.toRowW) (X:=(true == true))
  (show WShape.has [] (.bool true) .bool=true by first|rfl|decide|simp[WShape.has,WShape.arms,WShape.armsAll])
  (show(WTm.eq .res<|.lit<|.bool true).value [] { args:=args,res:=some<|.bool true,after:=args }=some (.bool<|true == true)from w_eq_bool (w_res rfl) w_lit) rfl
def Gf{l:OpenLaw}{n:Nat}{q:aj}{XP:(Str->bd)->aq->Prop}{YP:ah->aq->Prop}{d:DefRec}
  (hn:l.most=some n) (hdf:d.params.defaults=[])
  (call:∀(w:ah) (s₀ s₁:aC) (mg mb:Str->bd) (fa:ak) (o:Obj) (pm cd doc:af) (a:ak) (vs:ba) (ns:ag),
   Ground q loose [] XP w s₀ mg mb s₁.heap->YP w s₁.heap ->
   s₁.heap.get? fa=some o->o.data=.func (docDef d.name d.params d.body d.scope pm cd doc)->s₁.heap.CodeRec cd d.name->mg d.name=some (.ref fa) ->
   s₁.heap.get? a=some { cls:=.type "list",data:=.seq vs.toArray }->IntsAre vs ns->ns.length<=n->s₁.gens=#[] ->
   codeAny (model l.prog w) callerA (.call (.ref fa) ⟨[.ref a],[]⟩) (λr s'=>r=.ok (.ret<|.bool true)/\OldK s₁.heap s'.heap/\s'.os=s₁.os/\AllBare s'.gens) s₁) :
  WalkO q loose XP YP l.row.toRowW d [] (λf vs=>PySem.call f vs):=by
 intro w s₀ s₁ mg mb G Y fa o pm cd doc T kV M P B F z hg J K V k C U t L;obtain rfl:T=.none:=Dflts.none F hdf;obtain rfl:kV=.none:=Dflts.noKw F;obtain⟨a,vs,ns,rfl,rfl,p,g,j⟩:=Mx hn k t;refine enter_call<|jE (call w s₀ s₁ mg mb fa o pm cd doc a vs ns G Y M (fd_plain P) B z p g j hg) λr s' hq=>?_;obtain⟨rfl,h2,h3,O⟩:=hq;exact⟨.inl ⟨.bool true,.bool true,[],rfl,λ_=>rfl,.bool true,LF l _,λ_=>⟨List.Pairwise.nil,λ_ N=>(nomatch N)⟩⟩,h2,h3,O⟩
end Att
namespace L2
open PySem PySem.Spec PyProof.Rows
theorem B_:∀{vs:ba}{ns:ag},IntsAre vs ns->Vals (ns.map V.int) vs
 | _,_,.nil=>.nil
 | _,_,.cons n t h=>.cons ⟨t,rfl⟩<|B_ h
abbrev Tn (H:Hp):Prop:=∀b,H b=none\/∃o xs,H b=some (.frz o<|.lst xs)
def RX{P:aj}{w:ah}{K:au}{mg mb:Str->bd}{CX:Sv}{k:Nat}{fa a:ak}{x:Str}{sp:Sp}{s₁:aC}{vs:ba}{ns:ag}
  (KX:K.In s₁.heap) (hns:s₁.heap.Ns mainGlobals mg) (hb:s₁.heap.Ns builtinsNs mb) (hbb:∀x:Str,x ≠ "__name__" -> mb x=bootBuiltins x) (hlim:s₁.heap.NoLimit) (hg:s₁.gens=#[])
  (ha:s₁.heap.get? a=some { cls:=.type "list",data:=.seq vs.toArray }) (hi:IntsAre vs ns) (hl:ns.length<=sizeLine) (hr:Room k callerA)
  (F:∀base:aq,K.In base->base.Ns mainGlobals mg->FnOk P w K mg base CX k fa fd [x] sp) (hbind:∀(s:aC) (u:af),BindsTo s fd ⟨[u],[]⟩ [(x,u)])
  (hsp:∀H:Hp,Tn H->qe K H a (ns.map V.int)->sp [.ref a] H (λv _=>v=.bl true) λ_ _ _=>False)
  (hCX:∀H e s',CX [] H s₁ (λ_ _ _=>False) e s'->False) :
  codeAny (model P w) callerA (.call (.ref fa) ⟨[.ref a],[]⟩) (λr s'=>r=.ok (.ret<|.bool true)/\OldK s₁.heap s'.heap/\s'.os=s₁.os/\AllBare s'.gens) s₁:=by
 have T:=B_ hi;have G:=hi.length;have j:∀H:Hp,Tn H->qe K H a (ns.map V.int)->xx P w H s₁.heap->(∀b,H b≠none->b=a)->(H a≠none->K.lookup a=none) ->
   codeAny (model P w) callerA (.call (.ref fa) ⟨[.ref a],[]⟩) (λr s'=>r=.ok (.ret<|.bool true)/\OldK s₁.heap s'.heap/\s'.os=s₁.os/\AllBare s'.gens) s₁:=by
  intro H O hS p U hK;have f:∀{b:ak} {o:Obj},s₁.heap.get? b=some o->H b=none->(Ec s₁.heap H).get? b=some o:=λe n=>MX e n;have M:∀{b:ak} {o:Obj} {es:Array DictEntry} {ep:Nat},s₁.heap.get? b=some o->o.data=.dict es ep->H b=none:=λ{b o es ep} e d=>by
   cases q:H b with
   | none=>rfl
   | some u=>
    have L:b=a:=U b (by rw[q];simp);subst L;rw[ha]at e;cases e;have d':Data.seq vs.toArray _=Data.dict es ep:=d
    cases d'
  have g:∀{b:ak} {m:Str->bd},s₁.heap.Ns b m->(Ec s₁.heap H).Ns b m:=λ{b m} ⟨o,es,ep,e,d,r⟩=>⟨o,es,ep,f e<|M e d,d,r⟩;have C:K.In (Ec s₁.heap H):=λb o e=>f (KX b o e) (by
   cases q:H b with
   | none=>rfl
   | some u=>
    have L:b=a:=U b (by rw[q];simp);subst L;rw[hK<|by rw[q];simp]at e;cases e)
  have hM:Mod K mg (Ec s₁.heap H):=⟨C,g hns,⟨mb,g hb,hbb⟩,let⟨mc,h1,h2⟩:=hlim;⟨mc,g h1,h2⟩⟩;have e0:Env0 P w K mg (Ec s₁.heap H) callerA [] s₁ H:=⟨rfl,hM,λb o e=>Tp e,Nat.le_of_eq<|Lk _ _,trivial,λb hb=>absurd (show b∈([]:bb)from hb)<|by simp,p,.of_eq hg⟩;refine jE ((F _ C<|g hns).run callerA [] s₁ H ⟨[.ref a],[]⟩ [.ref a] [.ref a] _ _ hr e0 (hbind s₁<|.ref a) (.cons rfl .nil)<|hsp H O hS) λr s' h=>?_
  cases r with
  | error e=>exact(hCX H e s' h).elim
  | ok fl=>
   cases fl with
   | next=>exact False.elim h
   | brk=>exact False.elim h
   | cont=>exact False.elim h
   | ret u=>
    obtain⟨v,H',os,J,un,t,Y,q⟩:=h;have Z:v=.bl true:=q;subst Z;obtain rfl:u=Value.bool true:=Y;refine⟨rfl,OldK.of_keep λb o e=>?_,os,J⟩
    cases q:H b with
    | none=>exact un.keep b o e q (by intro z;exact absurd (show b∈([]:bb)from z)<|by simp) (by simp)
    | some u=>
     rcases O b with z|⟨ob,xs,z⟩
     ·rw[q]at z;cases z
     ·have W:=un.frzs b ob _ z;obtain⟨e1,_⟩:=p b _ z;obtain⟨e2,_⟩:=t b _ W;rw[e]at e1;cases e1;exact e2
 cases N:K.lookup a with
 | some o=>
  have e:=KX a o N;rw[ha]at e
  cases e
  refine j (λ_=>none) (λ_=>.inl rfl) (.inr ⟨_,vs.toArray,_,N,rfl,rfl,rfl,by rw[aZ,G];exact hl,by simpa using T⟩) (λb u z=>by have B:(none:Option HO)=some u:=z;cases B) (λb z=>absurd rfl z) λz=>absurd rfl z
 | none=>
  refine j (λb=>if b=a then some (.frz { cls:=.type "list",data:=.seq vs.toArray } (.lst<|ns.map V.int))else none) (λb=>?_) (.inl<|.inr ⟨{ cls:=.type "list",data:=.seq vs.toArray },aV rfl⟩) (λb u z=>?_) (λb z=>?_) λ_=>N
  ·by_cases hb:b=a
   ·exact .inr ⟨_,_,aV hb⟩
   ·exact .inl<|aR hb
  ·by_cases hb:b=a
   ·have B:=(aV hb).symm.trans z
    cases B
    subst hb;exact⟨ha,by rw[aG];exact hl,vs,_,T,ha⟩
   ·have B:=(aR hb).symm.trans z
    cases B
  ·by_cases hb:b=a
   ·exact hb
   ·exact absurd (aR hb) z
def Ve{l:PySem.W.OpenLaw}{n k:Nat}{q:aj}{XP:(Str->bd)->aq->Prop}{YP:ah->aq->Prop}{d:DefRec}{K:Params->au}{CX:ah->Sv}{sp:ah->Sp}{x:Str}
  (hn:l.most=some n) (hn2:n<=sizeLine) (hdf:d.params.defaults=[]) (hr:Room k callerA)
  (hY:∀(w:ah) (h:aq),YP w h->(K w.params).In h)
  (F:∀(w:ah) (mg:Str->bd) (fa:ak) (h:aq),(K w.params).In h->h.Ns mainGlobals mg->mg d.name=some (.ref fa) ->
   ∃fd:FuncData,(∀(s:aC) (u:af),BindsTo s fd ⟨[u],[]⟩ [(x,u)]) /\
    ∀base:aq,(K w.params).In base->base.Ns mainGlobals mg->FnOk l.prog w (K w.params) mg base (CX w) k fa fd [x] (sp w))
  (hsp:∀(w:ah) (H:Hp) (a:ak) (ns:ag),ns.length<=n->Tn H->qe (K w.params) H a (ns.map V.int)->sp w [.ref a] H (λv _=>v=.bl true) λ_ _ _=>False)
  (hCX:∀(w:ah) (H:Hp) (s:aC) (e:af) (s':aC),CX w [] H s (λ_ _ _=>False) e s'->False) :
  PySem.W.WalkO q loose XP YP l.row.toRowW d [] (λf vs=>PySem.call f vs):=by
 refine Att.Gf hn hdf λw C t mg mb fa o U Z L a vs ns G Y P hd O B z p j hg=>?_;have J:=hY w _ Y;obtain⟨fd,hb,M⟩:=F w mg fa _ J G.T.g B;exact RX J G.T.g G.T.b G.T.builtins G.T.nolimit hg z p (bJ j hn2) hr M hb (λH N hS=>hsp w H a ns j N hS) λH e s'=>hCX w H t e s'
abbrev vZ (s:aF):Arguments:=match s with
 | .FunctionDef _ a _ _ _ _ _ _ _ _=>a
 | _=>{ posonlyargs:=[],args:=[],vararg:=none,kwonlyargs:=[],kw_defaults:=[],kwarg:=none,defaults:=[]}
abbrev sQ (s:aF):List aF:=match s with
 | .FunctionDef _ _ b _ _ _ _ _ _ _=>b
 | _=>[]
abbrev j8 (s:aF):Scope:=match s with
 | .FunctionDef _ _ _ _ _ _ d _ _ _=>d
 | _=>{ kind:=.function,names:=[],isGenerator:=false,isCoroutine:=false }
meta abbrev qz:Sv:=λ_ _ _ _ _ _=>False
meta abbrev E0:XK:=λ_ _ _=>False
def ZN{X:Cx}:Passes qz X E0:=λ_ _ _ _ _ _ _ h=>h.elim
structure Fun (K:au)(x qual:Str)(st:aF)(f:ak)(fd:FuncData):Prop where
 ex:∃(oc:af) (od:Option ak) (kV doc pm:af) (an:Option ak) (cdv ct:af) (osl:Array<|bd),
  fd=PySem.W.fnOf x qual (vZ st) (sQ st) (j8 st) .none kV doc pm an cdv ct/\K.lookup f=some ⟨oc,od,.func fd,osl⟩/\PySem.W.codeIn K cdv qual=true
 kp:PySem.W.keepIn K (.ref f)=true
section
variable {P:aj}{w:ah}{K:au}{mg:Str->bd}{base:aq}
def Fun.ok{x:Str}{st:aF}{f:ak}{N ps:ar}{k:Nat}{sp:Sp}(F:Fun K x qual st f fd)(S:FnScope N ps<|j8 st)(len:∀vs H Q E,sp vs H Q E->vs.length=ps.length)
  (hbody:∀(cdv:af) (A:aA) (outer:List Env) (s:aC) (H:Hp) (vs:List V) (Q:VK) (E:XK),Room k (A.deeper<|envOfC qual (j8 st) s.heap.objs.size f cdv)->sp vs H Q E ->
   ∃t,C8 (Hr qz P w K mg base N qual (j8 st) f cdv A outer s H E).nox (sQ st) t/\t { nx:=λ_ H'=>Q .non H',rt:=Q } (start N vs) H):FnOk P w K mg base qz (k+1) f fd ps sp:=by
 obtain⟨L,J,kV,p,G,C,cdv,ct,j,rfl,z,g⟩:=F.ex;refine abu z g S len λA outer s H vs Q E B d=>?_;obtain⟨t,h,q⟩:=hbody cdv A outer s H vs Q E B d;exact⟨t,h.nox,q⟩
def Fun.binds{x:Str}{st:aF}{f:ak}{ps:ar}(F:Fun K x qual st f fd)
  (h:∀(kV doc pm:af) (an:Option ak) (cdv ct:af) (us:ba),us.length=ps.length->bindArgs (PySem.W.fnOf x qual (vZ st) (sQ st) (j8 st) .none kV doc pm an cdv ct) ⟨us,[]⟩=pure (ps.zip us)):Binds K fd ps []:=by
 obtain⟨p,k,kV,doc,pm,an,cdv,ct,d,rfl,j,g⟩:=F.ex;exact .all<|h kV doc pm an cdv ct
def YH{x:Str}{st:aF}{f:ak}{kV pm ct:af}(l:K.lookup f=some ⟨oc,od,.func<|PySem.W.fnOf x qual (vZ st) (sQ st) (j8 st) .none kV doc pm an cdv ct,osl⟩)
  (c:PySem.W.codeIn K cdv qual=true) (k:PySem.W.keepIn K (.ref f)=true):Fun K x qual st f (PySem.W.fnOf x qual (vZ st) (sQ st) (j8 st) .none kV doc pm an cdv ct):=⟨⟨oc,od,kV,doc,pm,an,cdv,ct,osl,rfl,l,c⟩,k⟩
end
set_option maxHeartbeats 4000000
abbrev UE (σ:St):bj->Option V
 | some j=>(σ[j]?).getD none
 | none=>none
abbrev wz (env:Env):List (Str×NameKind)->List (Str×ak)->List (Str×ak)
 | [],cs=>cs
 | (n,k)::r,cs=>wz env r (if k == .free then(n,(env.cells.lookup n).getD 0)::cs else cs)
def zV{scope:Scope}{env:Env}(h:∀y∈scope.names,y.2=.free->∃c,env.cells.lookup y.1=some c):closureFor scope env=pure (wz env scope.names []):=by
 have f:∀(l:List<|Str×NameKind) (d:List<|Str×ak),(∀y∈l,y.2=.free->∃c,env.cells.lookup y.1=some c) ->
   (forIn l d (λ(x:Str×NameKind) (r:List<|Str×ak)=>(match x with
    | (name,kind)=>if (kind == NameKind.free)=true then(do let c <- cellOf env name;pure (ForInStep.yield ((name,c)::r)))else pure (ForInStep.yield r):Sem<|ForInStep<|List<|Str×ak)))=(pure (wz env l d):Sem<|List<|Str×ak):=by
  intro l
  induction l with
  | nil=>intro d _;rfl
  | cons y r p=>
   intro d j;obtain⟨n,k⟩:=y;rw[jK];by_cases q:k=.free
   ·subst q;obtain⟨c,hc⟩:=j (n,.free) aL rfl;have e1:cellOf env n=pure c:=by
     unfold cellOf;rw[hc]
    dsimp[c5,fq,e1,pure_bind];rw[p _ λz g=>j z<|aQ _ g];dsimp[wz,c5,fq,hc,dW]
   ·have hb:(k == NameKind.free)=false:=by simpa using q
    dsimp[hb,bI,cK,pure_bind];rw[p _ λz g=>j z<|aQ _ g];dsimp[wz,hb,bI,cK]
 have:=f scope.names [] h;exact(cV (λz=>z >>= λd=>(pure d:Sem<|List<|Str×ak)) this).trans (pure_bind _ _)
theorem Ai:∀{l:List<|Str×NameKind}{x:Str}{k:NameKind},l.lookup x=some k->(x,k)∈l
 | [],_,_,h=>nomatch h
 | (n,k')::r,x,k,h=>by
  rw[eO]at h
  cases d:x == n with
  | true=>
   rw[d]at h;have e:x=n:=by simpa using d
   subst e
   cases h
   exact aL
  | false=>rw[d]at h;exact aQ _<|Ai h
theorem Cw{env:Env}{x:Str}{c:ak}:∀{l:List<|Str×NameKind}{cs:List<|Str×ak},(∀y∈l,y.2=.free->∃c,env.cells.lookup y.1=some c)->(wz env l cs).lookup x=some c->env.cells.lookup x=some c\/cs.lookup x=some c
 | [],cs,_,h=>.inr h
 | (n,k)::r,cs,hl,h=>by
  have h':=Cw (l:=r) (λz g=>hl z<|aQ _ g) h
  rcases h' with h'|h'
  ·exact .inl h'
  ·by_cases f:k=.free
   ·subst f;dsimp[c5,fq]at h';obtain⟨j,hc⟩:=hl (n,.free) aL rfl;rw[hc,dW,eO]at h'
    cases d:x == n with
    | true=>
     rw[d]at h';have e:x=n:=by simpa using d
     subst e;left;rw[hc];exact h'
    | false=>rw[d]at h';exact .inr h'
   ·have hb:(k == NameKind.free)=false:=by simpa using f
    dsimp[hb,bI,cK]at h';exact .inr h'
theorem B6{env:Env}{x:Str}:∀{l:List<|Str×NameKind}{cs:List<|Str×ak},(cs.lookup x).isSome=true->((wz env l cs).lookup x).isSome=true
 | [],cs,h=>h
 | (n,k)::r,cs,h=>by
  skip
  refine B6 (l:=r) ?_;by_cases d:(k == NameKind.free)=true
  ·rw[aV d,eO]
   cases f:x == n with
   | true=>rfl
   | false=>exact h
  ·rw[aR d];exact h
theorem Bc{env:Env}{x:Str}:∀{l:List<|Str×NameKind}{cs:List<|Str×ak},(x,NameKind.free)∈l->((wz env l cs).lookup x).isSome=true
 | [],_,h=>nomatch h
 | (n,k)::r,cs,h=>by
  rcases bH.mp h with e|h
  ·cases e
   skip
   refine B6 (l:=r) ?_;rw[aV<|by rfl,eO];simp
  ·exact Bc (l:=r) h
theorem r_:∀(names:List<|Str×NameKind) (n:Nat) (acc:List<|Str×ak),cellsFrom n names acc=cellsFrom n names []++acc
 | [],_,_=>rfl
 | (x,k)::r,n,acc=>by
  unfold cellsFrom;split
  ·rw[r_ r (n+1) ((x,n)::acc),r_ r (n+1) [(x,n)],cJ];rfl
  ·exact r_ r n acc
theorem zX:∀(names:List<|Str×NameKind) (n:Nat) {x:Str}{c:ak},(x,c)∈cellsFrom n names []->(x,NameKind.cell)∈names
 | [],_,_,_,h=>nomatch h
 | (y,k)::r,n,x,c,h=>by
  unfold cellsFrom at h;split at h
  ·rename_i d;rw[r_]at h
   rcases bG.mp h with z|z
   ·exact aQ _ (zX r _ z)
   ·rw[aP]at z
    cases z
    have:k=.cell:=by simpa using d
    rw[this];exact aL
  ·exact aQ _<|zX r _ h
theorem xJ{α:Type}{x:Str}:∀{l m:List<|Str×α},(l++m).lookup x=match l.lookup x with|some c=>some c|none=>m.lookup x
 | [],_=>rfl
 | (y,c)::l,m=>by
  rw[iP,eO,eO]
  cases x == y with
  | true=>rfl
  | false=>exact xJ
def Uu{n:Nat}{acc:List<|Str×ak}{x:Str}{c:ak}(h:(cellsFrom n names acc).lookup x=some c):(cellsFrom n names []).lookup x=some c\/((cellsFrom n names []).lookup x=none/\acc.lookup x=some c):=by
 rw[r_,xJ]at h
 cases e:(cellsFrom n names []).lookup x with
 | some d=>rw[e]at h;exact .inl h
 | none=>rw[e]at h;exact .inr ⟨rfl,h⟩
def XM{n:Nat}{acc:List<|Str×ak}{x:Str}(h:(x,NameKind.cell)∉names):(cellsFrom n names acc).lookup x=acc.lookup x:=by
 rw[r_,xJ]
 cases e:(cellsFrom n names []).lookup x with
 | some d=>exact absurd (zX names n<|c7 e) h
 | none=>rfl
def Jp{A:aA}{E:af->aC->Prop}{s:aC}{scope:Scope}{globals:ak}{cl:List<|Str×ak}{env:Env}{Q:Env->aC->Prop}
  (hQ:∀h':aq,h'.Ns s.heap.objs.size (λ_=>none)->(∀b o,s.heap.get? b=some o->h'.get? b=some o)->CellsOk h' (s.heap.objs.size+1) (cellsFrom (s.heap.objs.size+1) scope.names []) ->
   Q (newEnv scope s.heap.objs.size globals (cellsFrom (s.heap.objs.size+1) scope.names cl) qual none .none (some env) builtinsNs) { s with heap:=h',toks:=s.toks+([]:List<|Str×af).length }) :
  wpAny M A (newFunctionEnv scope globals cl [] qual none .none<|some env) Q E s:=by
 dsimp[newFunctionEnv,ji,fq];refine aH<|wpAny_alloc ?_;refine aH (wpAny_layCells _ (λname kind cells=>by cases d:kind == NameKind.cell<;>simp[d]) _ _ _ _ ?_);have ok:=cellsFrom_ok scope.names (s.heap.push { cls:=.type "dict",data:=.dict #[]}) (s.heap.objs.size+1) [] ⟨λ_ _ f=>(nomatch f),List.Pairwise.nil⟩ (by rw[c_];exact aM _);rw[c_]at ok;rw[show({ s with heap:=s.heap.push { cls:=.type "dict",data:=.dict #[]}}:aC).heap.objs.size=s.heap.objs.size+1 from c_ ..];rw[jj];refine aH<|aN<|aN ?_;exact hQ _ ((Heap.Ns.new s.heap<|.type "dict").keeps<|pushCells_keeps _ _) (λb o e=>pushCells_keeps _ _ b o<|aS _ e) ok
abbrev lE (X:Cx)(scope:Scope)(N:ar)(C:ak)(s₀:aC)(H₀:Hp)(ex:bb):Cx where
 prog:=X.prog
 w:=X.w
 K:=X.K
 mg:=X.mg
 base:=X.base
 A:=X.A
 N:=N
 s₀:=s₀
 H₀:=H₀
 env:=compEnvC scope (cellsFrom (C+1) scope.names<|wz X.env scope.names []) C X.env
 outer:=X.stack
 stack:=X.stack
 ex:=ex
 fn:=λx=>scope.names.lookup x == some .cell
 calm:=X.calm
 pn:=[]
 xe:=λ_ _=>False
structure CpScope (X:Cx)(scope:Scope)(N:ar)(cap:List (bj)):Prop where
 kind:scope.kind=.function
 nocf:∀x,(x,NameKind.free)∈scope.names->(x,NameKind.cell)∉scope.names
 nm:∀y∈scope.names,y.2=.local->scope.names.lookup y.1=some .local
 fr:∀y∈scope.names,y.2=.free->X.env.kindOf y.1=some .cell\/X.env.kindOf y.1=some .free
 rl:∀y,((relabel scope X.env).names.lookup y=some .cell\/(relabel scope X.env).names.lookup y=some .free)->(y,NameKind.free)∈scope.names\/scope.names.lookup y=some .cell
 len:cap.length=N.length
 nolf:∀x,(x,NameKind.free)∈scope.names->scope.names.lookup x≠some .local
 cp:∀(i j:Nat) (x:Str),N[i]?=some x->cap[i]?=some (some j)->X.N[j]?=some x/\(x,NameKind.free)∈scope.names
def MV{X:Cx}{scope:Scope}{N:ar}{cap:List<|bj}{H:Hp}{s:aC}{fp:bb}{h₁:aq}{m:Str->bd}{tk:Nat}(S:CpScope X scope N cap)(I:Inv X pins σ H s)
  (hf:∀b∈fp,wu X pins H b) (ho:∀b∈fp,∃o,s.heap.get? b=some o) (hn:h₁.Ns s.heap.objs.size m) (hC:CellsOk h₁ (s.heap.objs.size+1)<|cellsFrom (s.heap.objs.size+1) scope.names []) (hk:∀b o,s.heap.get? b=some o->h₁.get? b=some o) :
  Inv (lE X scope N s.heap.objs.size s H fp) [] (cap.map<|UE σ) H { s with heap:=h₁,toks:=tk }:=by
 kst_p;have U:∀x c,(wz X.env scope.names []).lookup x=some c->X.env.cells.lookup x=some c:=λx c e=>by
  rcases Cw hfree e with z|z
  ·exact z
  ·cases z
 have f:∀x c,(cellsFrom (s.heap.objs.size+1) scope.names<|wz X.env scope.names []).lookup x=some c->((x,c)∈cellsFrom (s.heap.objs.size+1) scope.names []/\h₁.IsCell c none/\s.heap.objs.size+1<=c)\/X.env.cells.lookup x=some c:=λx c e=>by
  rcases Uu e with z|z
  ·exact .inl ⟨c7 z,hC.empty x c<|c7 z⟩
  ·exact .inr<|U x c z.2
 have old:∀x c,X.env.cells.lookup x=some c->c<s.heap.objs.size:=λx c e=>by
  obtain⟨v,z⟩:=I.cell x c e;exact z.lt
 have lt:∀b o,s.heap.get? b=some o->b≠s.heap.objs.size:=λb o e=>bD<|bq e;refine⟨⟨I.ok.mod,?_,I.ok.glob,I.ok.blt,aM _,?_,?_,?_,I.ok.hd,I.ok.frames,.inl rfl,?_,I.bs,bJ I.ok.bsz I.sz,?_,?_,I.stack,I.HZ⟩,rfl,I.bare,Un.kept hk,?_,?_,I.hok.fresh<|aM _,?_,?_,I.hok.kept hk,?_⟩
 ·exact S.kind
 ·intro x y c e1 e2
  rcases f x c e1 with a|a
  ·rcases f y c e2 with b|b
   ·exact name_of_addr hC.apart a.1 b.1
   ·exact absurd (old y c b)<|not_lt.mpr<|dZ a.2.2
  ·rcases f y c e2 with b|b
   ·exact absurd (old x c a) (not_lt.mpr<|dZ b.2.2)
   ·exact I.ok.inj x y c a b
 ·intro x e;refine dI.mp (fO _ _ _ ?_)
  rcases S.rl x e with t|t
  ·exact .inr (Bc (env:=X.env) (cs:=[]) t)
  ·exact .inl t
 ·intro x c e F;have e:scope.names.lookup x=some .cell:=by
   have e:(scope.names.lookup x == some .cell)=true:=e;simpa using e
  obtain⟨d,hd⟩:=dI.mp<|fO scope.names (s.heap.objs.size+1) []<|.inl e;have F:(cellsFrom (s.heap.objs.size+1) scope.names<|wz X.env scope.names []).lookup x=some c:=F;rw[r_,xJ,hd]at F
  cases F
  exact dZ (hC.empty x c<|c7 hd).2
 ·intro b hb;obtain⟨o,e⟩:=ho b hb;refine⟨lt b o e,λx c e2=>?_⟩
  rcases f x c e2 with z|z
  ·exact jD (jF (bq e) z.2.2)
  ·exact(hf b hb).2.2.2.2.1 x c z
 ·intro b o e hb;obtain⟨_,_,_,h3,_⟩:=hf b hb
  rcases h3 with z|z
  ·exact I.ok.noex b o e z
  ·exact absurd (bV (bq (I.ok.bs b o e).1) z)<|f6 _
 ·intro b hb V;obtain⟨_,h1,h2,_⟩:=hf b hb
  rcases bH.mp (I.GD b V)with z|z
  ·exact h1 z
  ·exact h2 z
 ·refine⟨m,hn,λi x v e1 e2 e3=>?_⟩;rw[aO]at e2
  cases hc:cap[i]? with
  | none=>rw[hc]at e2;cases e2
  | some oj=>
   rw[hc]at e2
   cases oj with
   | none=>cases e2
   | some j=>
    have q:(σ[j]?).getD none=some v:=br e2;obtain⟨Y,t⟩:=S.cp i j x e1 hc;obtain⟨m0,hn0,P⟩:=I.loc;have L:σ[j]?=some (some v):=by
     cases h:σ[j]? with
     | none=>rw[h]at q;cases q
     | some z=>rw[h,dW]at q;rw[q]
    have J:=S.fr (x,.free) t rfl;have hv:Z5 X.env.scope x:=.inr J;obtain⟨u,W,lo⟩:=P j x v Y L hv;refine⟨u,W,?_⟩
    rcases lo with⟨lo,_⟩|⟨_,c,F,Z⟩
    ·rcases J with z|z<;>(rw[z]at lo;cases lo)
    ·have h2:=Bc (env:=X.env) (cs:=[]) t;obtain⟨O,C⟩:=dI.mp h2;have:O=c:=br<|(U x O C).symm.trans F;subst this;refine .inr ⟨?_,O,(XM<|S.nocf x t).trans C,?_⟩
     ·rcases e3 with z|z|z
      ·exfalso;have:(relabel scope X.env).names.lookup x=some .local:=z;have K:scope.names.lookup x=some .local:=by
        have G:∃k,(x,k)∈(relabel scope X.env).names/\k=.local:=by
         clear C h2;have:=Ai this;exact⟨_,this,rfl⟩
        obtain⟨k,T,rfl⟩:=G;obtain⟨⟨n',k'⟩,M,g⟩:=aY.mp T;dsimp only at g;split at g
        ·cases g
        ·cases g
         exact S.nm (x,.local) M rfl
       exact False.elim<|S.nolf x t K
      ·exact .inl z
      ·exact .inr z
     ·obtain⟨o,B,hd⟩:=Z;exact⟨o,hk _ _ B,hd⟩
 ·intro x c e
  rcases f x c e with z|z
  ·exact⟨_,z.2.1⟩
  ·obtain⟨v,o,B,hd⟩:=I.cell x c z;exact⟨v,o,hk _ _ B,hd⟩
 ·intro x c e
  rcases f x c e with z|z
  ·exact I.hok.fresh (dZ z.2.2)
  ·exact I.freeC x c z
 ·intro p hp
  cases hp
 ·rw[aG,S.len];rfl
abbrev N7 (X:Cx)(ifs:List aE)(t:TT):Prop:=
 ∀(pins:bn) (s:aC) (σ:St) (H:Hp) (Q:Bool->Hp->Prop),Inv X pins σ H s->t σ H Q ->
  wpAny (model X.prog X.w) X.A (forIn ifs true λc r=>if r=true then do let ok <- isTrue c X.env (eval c X.env);pure (ForInStep.yield ok)else pure (ForInStep.yield r)) (TP X pins σ Q) X.xe s
abbrev acp:TT:=λ_ H Q=>Q true H
def Tq{X:Cx}:N7 X [] acp:=λ_ _ _ H _ I h=>wpAny_tests_nil ⟨H,I,h⟩
def U9{X:Cx}{c:aE}{t:TT}(h:PT X c t):N7 X [c] t:=λpins s σ H Q I q=>wpAny_tests_one<|h pins s σ H Q I q
abbrev X7 (cap:List<|bj)(g:TG)(tc:TT)(te:TE)(σ:St)(Q:VK)(J:It)(H1:Hp):Prop:=∀D,H1 D=none ->
 ∃W:Nat->Nat->St->Hp->Prop,(∃m,W 0 m (cap.map<|UE σ)<|upd H1 D<|.lst [])/\∀i m j H',W i m j H' ->
  (J.stop i H'/\Q (.ref D) H')\/(J.go i H'/\∀x H2,J.yld i H' x H2->g x j H2 λd H3=>tc d H3 λb p=>
   if b=true then te d p λy k=>∃ys,k D=some (.lst ys)/\ys.length<sizeLine/\∃f,f<m/\W (i+1) f d (upd k D<|.lst<|ys++[y])
   else ∃f,f<m/\W (i+1) f d p)
abbrev tLC (cap:List<|bj)(wi:TI)(g:TG)(tc:TT)(te:TE):TE:=λσ H Q=>wi σ H<|X7 cap g tc te σ Q
def ES{α:Type}{t:Sem α}{Q Q':α->aC->Prop}{A:aA}{E:af->aC->Prop}(h:wpAny M A t Q (λ_ _=>False) s)(hQ:∀a s,Q a s->Q' a s):wpAny M A t Q' E s:=
 fN h hQ λ_ _ f=>f.elim
structure TurnG (ok:Cx->Prop)(P:aj)(w:ah)(K:au)(tg:aE)(J:It)(fp:bb)(it:ak)(tn:Nat->aq->Prop):Prop where
 obj:∀i h,tn i h->∀b∈fp,∃o,h.get? b=some o/\∀v,o.data≠.cell v
 keep:∀i h h',tn i h->(∀b∈fp,∀o,h.get? b=some o->h'.get? b=some o)->tn i h'
 item:∀(X:Cx),X.prog=P->X.w=w->X.K=K->ok X->∀(i:Nat) (pins:bn) (s:aC) (σ:St) (H:Hp) (E:af->aC->Prop),Inv X pins σ H s->(∀b∈fp,wu X pins H b)->tn i s.heap->J.go i H ->
  wpAny (model P w) X.A (pyNext<|.ref it) (λr s1=>∃u,r=some u /\
   wpAny (model P w) X.A (letOwnedTupleGo tg (.ref it) u) (λ_ s2=>∃x H',Inv X pins σ H' s2/\RelV x u/\J.yld i H x H'/\tn (i+1) s2.heap/\∀b∈fp,H' b=none) E s1) E s
 done:∀(X:Cx),X.prog=P->X.w=w->X.K=K->ok X->∀(i:Nat) (pins:bn) (s:aC) (σ:St) (H:Hp) (E:af->aC->Prop),Inv X pins σ H s->(∀b∈fp,wu X pins H b)->tn i s.heap->J.stop i H ->
  wpAny (model P w) X.A (pyNext<|.ref it) (λr s1=>r=none/\Inv X pins σ H s1) E s
 self:∀(A:aA) (i:Nat) (s:aC) (Q:af->aC->Prop) (E:af->aC->Prop),tn i s.heap->Q (.ref it) s->wpAny (model P w) A (pyIter<|.ref it) Q E s
abbrev abW (ok:Cx->Prop)(X:Cx)(pins:bn)(σ:St)(tg:aE)(R:It->Hp->Prop)(itv:af)(s2:aC):Prop:=
 ∃(it:ak) (f:bb) (d:Nat->aq->Prop) (J:It) (H':Hp),itv=.ref it/\Inv X pins σ H' s2/\TurnG ok X.prog X.w X.K tg J f it d/\d 0 s2.heap/\(∀b∈f,wu X pins H' b)/\R J H'
abbrev PIg (ok:Cx->Prop)(X:Cx)(tg iter:aE)(wi:TI):Prop:=
 ∀(pins:bn) (s:aC) (σ:St) (H:Hp) (R:It->Hp->Prop),Inv X pins σ H s->wi σ H R ->
  wpAny (model X.prog X.w) X.A (eval iter X.env) (λv d=>wpAny (model X.prog X.w) X.A (pyIter v) (abW ok X pins σ tg R) X.xe d) X.xe s
def PI.g{X:Cx}{iter:aE}{wi:TI}(h:PI X tg iter wi):PIg (λY=>Y.calm=true) X tg iter wi:=λpins s σ H R I q=>
 nL (h pins s σ H R I q) λv p h1=>nL h1 λd t ⟨it,j,f,J,H',e,k,T,a,b,c⟩=>⟨it,j,f,J,H',e,k,⟨T.obj,T.keep,T.item,T.done,T.self⟩,a,b,c⟩
def JX{ok:Cx->Prop}{X:Cx}{use:Option<|af->Sem Unit}{Q':af->aC->Prop}{iter:aE}{N:ar}{wi:TI}{g:TG}{tc:TT}{te:TE}(S:CpScope X scope N cap)(hok:∀C s₀ H₀ ex,(∀a o u,X.H₀ a=some (.frz o u)->H₀ a=some (.frz o u))->ok (lE X scope N C s₀ H₀ ex))(hi:PIg ok X tg iter wi)
  (hg:∀C s₀ H₀ ex,PG (lE X scope N C s₀ H₀ ex) tg g) (ht:∀C s₀ H₀ ex,N7 (lE X scope N C s₀ H₀ ex) ifs tc) (he:∀C s₀ H₀ ex,PE (lE X scope N C s₀ H₀ ex) elt te)
  (hs:∀x,foldedSetIterable iter X.env x=pure x:=by intro _;rfl):∀(pins:bn) (s:aC) (σ:St) (H:Hp) (Q:VK),Inv X pins σ H s->tLC cap wi g tc te σ H Q ->
  (∀(s6:aC) (C D:ak) (H5:Hp) (m:Str->bd),s6.heap.Ns C m->wu X pins H5 C->(∀h',Heap.SameBut C s6.heap h'->Inv X pins σ H5 { s6 with heap:=h' })->Q (.ref D) H5->∀v,compPost (model X.prog X.w) X.A X.xe use Q' (.ref D) C (.ok v) s6) ->
  wpAny (model X.prog X.w) X.A (comprehension (.ListComp elt [⟨tg,iter,ifs,0⟩] scope pos) scope X.env (firstIterPos [⟨tg,iter,ifs,0⟩] pos) (newList []) (firstAsync [⟨tg,iter,ifs,0⟩]) (firstIter [⟨tg,iter,ifs,0⟩] X.env) use) Q' X.xe s:=by
 intro pins s σ H Q I h hfin;kst_p;refine wpAny_comprehension_free (use:=use) rfl hs (zV hfree) S.kind S.nm<|nL (hi pins s σ H _ I h) λxv s1 h1=>nL h1 λitv f h2=>?_;obtain⟨it,fp,tn,J,H2,rfl,I2,T,st2,f2,h2⟩:=h2;refine cE<|Jp λP t old k=>?_;obtain⟨W,⟨m0,w0⟩,turn⟩:=h2 f.heap.objs.size I2.fresh;dsimp only at t old k ⊢;have I3:Inv X pins σ (upd H2 f.heap.objs.size<|.lst []) { f with heap:=f.heap.push {}}:=I2.Yk (t':=f.toks) (its:=[]) .nil<|bK _;have hfp:∀b∈fp,∃o,f.heap.get? b=some o:=λb hb=>by
  obtain⟨o,e,_⟩:=T.obj 0 _ st2 b hb;exact⟨o,e⟩
 have neD:∀b∈fp,b≠f.heap.objs.size:=λb hb=>by
  obtain⟨o,e⟩:=hfp b hb;exact bD<|bq e
 have f3:∀b∈fp,wu X pins (upd H2 f.heap.objs.size<|.lst []) b:=λb hb=>⟨by rw[j0<|neD b hb];exact(f2 b hb).1,(f2 b hb).2⟩;have hDC:f.heap.objs.size≠(f.heap.push {}).objs.size:=by rw[c_];exact bD (dN _)
 have I4:=MV (tk:=f.toks+([]:List<|Str×af).length) (fp:=fp) S I3 f3 (λb hb=>by
  obtain⟨o,e⟩:=hfp b hb;exact⟨o,aS _ e⟩) t k old
 have st4:tn 0 P:=T.keep _ _ _ st2 λb hb o e=>old b o<|aS _ e;have hc:=hok (f.heap.push {}).objs.size { f with heap:=f.heap.push {}} (upd H2 f.heap.objs.size<|.lst []) fp λa o u e=>by
  have z:=I2.base.frzs a o u e;rw[j0 λq=>by rw[q,I2.fresh]at z;cases z];exact z
 have K:∀{H':Hp},(∀b∈fp,H' b=none)->∀b∈fp,wu (lE X scope N (f.heap.push {}).objs.size { f with heap:=f.heap.push {}} (upd H2 f.heap.objs.size<|.lst []) fp) [] H' b:=λhn b hb=>by
  have ok:=I4.ok;refine⟨hn b hb,(ok.exf b hb).1,ok.exfs b hb,.inl hb,λx c e=>(ok.exf b hb).2 x c e,λp hp=>nomatch hp⟩
 have O:∀s4:aC,s4={ f with heap:=P,toks:=f.toks+([]:List<|Str×af).length } ->
   codeAny (model X.prog X.w) X.A (.compLoop (.ListComp elt [⟨tg,iter,ifs,0⟩] scope pos) 0 (.ref it) (.ref f.heap.objs.size)<|compEnvC scope (cellsFrom ((f.heap.push {}).objs.size+1) scope.names<|wz X.env scope.names []) (f.heap.push {}).objs.size X.env)
    (compPost (model X.prog X.w) X.A X.xe use Q' (.ref f.heap.objs.size) (f.heap.push {}).objs.size) s4:=by
  rintro s4 rfl;refine codeAny_loop rfl (λn s'=>∃i G H',Inv (lE X scope N (f.heap.push {}).objs.size { f with heap:=f.heap.push {}} (upd H2 f.heap.objs.size<|.lst []) fp) [] G H' s'/\tn i s'.heap/\(∀b∈fp,H' b=none)/\W i n G H') (λn s5 hI=>?_) m0 ⟨0,_,_,I4,st4,λb hb=>(f3 b hb).1,w0⟩;obtain⟨i,M,H5,I5,st5,fr5,w5⟩:=hI;show wpAny _ X.A ((compTurn (.ListComp elt [⟨tg,iter,ifs,0⟩] scope pos) 0 (.ref it) (.ref f.heap.objs.size)<|compEnvC scope (cellsFrom ((f.heap.push {}).objs.size+1) scope.names<|wz X.env scope.names []) (f.heap.push {}).objs.size X.env).onRaise λx=>do noteFrame x _;theTreesLotGoes x) _ _ s5;refine wpAny_noted ?_;rw[compTurn_list];refine aH (fy<|aH ?_)
  rcases turn i n M H5 w5 with⟨stop,q⟩|⟨go,step⟩
  ·refine nL (T.done (lE X scope N (f.heap.push {}).objs.size { f with heap:=f.heap.push {}} (upd H2 f.heap.objs.size<|.lst []) fp) rfl rfl rfl hc i [] s5 M H5 _ I5 (K fr5) st5 stop) λr s6 h9=>?_;obtain⟨hr,U⟩:=h9;subst hr;obtain⟨m6,hn6,_⟩:=U.loc;refine aN<|hfin s6 _ _ H5 m6 hn6 (I3.DH (aM _) U.free) (λh' sb=>?_) q _;have u6:=U.base;have nC:∀b o,(f.heap.push {}).get? b=some o->b≠(f.heap.push {}).objs.size:=λb o e=>bD<|bq e;refine I3.Ky (ch:=fp) U.os ⟨λb o e n hb V=>?_,λb o e n hb V=>?_,λb o e n V=>?_,λb o e V=>?_,u6.tups,u6.frzs,u6.tbls⟩ ?_ U.bare ?_
   ·exact sb.extBut b o (nC b o e) (u6.keep b o e n hb V)
   ·obtain⟨sl,z⟩:=u6.slot b o e n hb V;exact⟨sl,sb.extBut b _ (nC b o e) z⟩
   ·exact u6.free b o e n V
   ·obtain⟨o',z⟩:=u6.there b o e V;exact⟨o',sb.extBut b _ (nC b o e) z⟩
   ·intro b o e;have hb:∀c v,H5 c=some v->c≠(f.heap.push {}).objs.size:=λc v e z=>by
     rw[z]at e;have:=U.free;rw[show H5 (f.heap.push {}).objs.size=none from this]at e
     cases e
    refine(U.hok b o e).stay (λc v hc q=>sb.extBut c v ?_ q) (λ_ q=>q) λ_ _ q=>q
    rcases hc with z|z
    ·rw[z];exact hb b o e
    ·exact hb c _ z
   ·intro b hb;obtain⟨_,z1,_,z3,z4,z5⟩:=f3 b hb;exact⟨z3,z1,z4,z5⟩
  ·refine nL (T.item (lE X scope N (f.heap.push {}).objs.size { f with heap:=f.heap.push {}} (upd H2 f.heap.objs.size<|.lst []) fp) rfl rfl rfl hc i [] s5 M H5 _ I5 (K fr5) st5 go) λr s6 h9=>?_;obtain⟨u,hr,h6⟩:=h9;subst hr;refine aH<|nL h6 λ_ s7 ⟨x,H7,I7,r7,y7,Y,fr7⟩=>?_;have I7':=I7.pinned (K fr7)<|T.obj _ _ Y;refine aH<|ES (hg _ _ _ fp _ s7 M H7 x u _ I7' r7<|step x H7 y7) λ_ s8 ⟨B,H8,I8,q8⟩=>?_;refine aH<|ES (ht _ _ _ fp _ s8 B H8 _ I8 q8) λok s9 ⟨H9,I9,q9⟩=>?_;have again:∀{F:aC} {j:Hp},Inv (lE X scope N (f.heap.push {}).objs.size { f with heap:=f.heap.push {}} (upd H2 f.heap.objs.size<|.lst []) fp) ([]++yG fp s7.heap) B j F->(∃m',m'<n/\W (i+1) m' B j) ->
     ∃m,m<n/\∃i G H',Inv (lE X scope N (f.heap.push {}).objs.size { f with heap:=f.heap.push {}} (upd H2 f.heap.objs.size<|.lst []) fp) [] G H' F/\tn i F.heap/\(∀b∈fp,H' b=none)/\W i m G H':=λ{F j} L h9=>by
    obtain⟨m',hm,Z⟩:=h9;refine⟨m',hm,i+1,B,j,L.sd,T.keep _ _ _ Y λb hb o e=>(L.pin (b,o)<|bL _<|bL _<|nR hb e).1,λb hb=>?_,Z⟩;obtain⟨o,e,d⟩:=T.obj _ _ Y b hb;exact(L.pin (b,o)<|bL _<|bL _<|nR hb e).2.1
   cases ok with
   | false=>
    rw[aR bF]at q9;exact aN ⟨rfl,again I9 q9⟩
   | true=>
    rw[aV rfl]at q9;refine aH<|aH<|ES (he _ _ _ fp _ s9 B H9 _ I9 q9) λy F ⟨v10,j,L,r10,ys,hD,hz,Z⟩=>?_;refine aH<|ES (Cs _ F B j (.ref f.heap.objs.size) [v10] _ [y] (λ_ H'=>H'=upd j f.heap.objs.size (.lst<|ys++[v10])) L rfl (.cons r10 .nil) ⟨_,ys,v10,rfl,rfl,hD,hz,rfl⟩) λ_ s11 ⟨_,H11,I11,_,e11⟩=>?_;subst e11;exact aN<|aN ⟨rfl,again I11 Z⟩
 exact codeAny_compStart_list (O _ rfl)<|T.self _ 0 _ _ _ st4<|O _ rfl
def Zq{ok:Cx->Prop}{X:Cx}{iter:aE}{N:ar}{wi:TI}{g:TG}{tc:TT}{te:TE}(S:CpScope X scope N cap)(hok:∀C s₀ H₀ ex,(∀a o u,X.H₀ a=some (.frz o u)->H₀ a=some (.frz o u))->ok (lE X scope N C s₀ H₀ ex))(hi:PIg ok X tg iter wi)
  (hg:∀C s₀ H₀ ex,PG (lE X scope N C s₀ H₀ ex) tg g) (ht:∀C s₀ H₀ ex,N7 (lE X scope N C s₀ H₀ ex) ifs tc) (he:∀C s₀ H₀ ex,PE (lE X scope N C s₀ H₀ ex) elt te)
  (hs:∀x,foldedSetIterable iter X.env x=pure x:=by intro _;rfl):PE X (.ListComp elt [⟨tg,iter,ifs,0⟩] scope pos) (tLC cap wi g tc te):=by
 gn_on;rw[eval_ListComp];exact JX (use:=none) (Q':=EP X pins σ Q) S hok hi hg ht he hs pins s σ H Q I h λj C D d m hn k inv q v=>⟨m,hn,λh' f=>⟨.ref D,d,inv h' f,rfl,q⟩⟩
def aaQ{X:Cx}{iter:aE}{N:ar}{wi:TI}{g:TG}{tc:TT}{te:TE}(hc:X.calm=true)(S:CpScope X scope N cap)(hi:PI X tg iter wi)
  (hg:∀C s₀ H₀ ex,PG (lE X scope N C s₀ H₀ ex) tg g) (ht:∀C s₀ H₀ ex,N7 (lE X scope N C s₀ H₀ ex) ifs tc) (he:∀C s₀ H₀ ex,PE (lE X scope N C s₀ H₀ ex) elt te)
  (hs:∀x,foldedSetIterable iter X.env x=pure x:=by intro _;rfl):PE X (.ListComp elt [⟨tg,iter,ifs,0⟩] scope pos) (tLC cap wi g tc te):=
 Zq S (λ_ _ _ _ _=>hc) hi.g hg ht he hs
section
variable {X:Cx}
def Er{bs:List Bool}:∀{us:ba},Vals (bs.map V.bl) us->LSm.BoolsAre us bs:=by
 induction bs with
 | nil=>intro us r;cases r;exact .nil
 | cons b bs d=>
  intro us r
  cases r with
  | cons h t=>
   have e:_=Value.bool b:=h;subst e;exact .cons b<|d t
def Mj(hc:X.calm=true):kP X (.builtin "all") (λxs H Q=>∃(p:ak) (bs:List Bool),xs=[.ref p]/\qe X.K H p (bs.map V.bl)/\Q (.bl<|bs.all id) H):=by
 fin2;obtain⟨p,bs,rfl,hq,q⟩:=h;kcj_m
 cases rx
 obtain⟨d,k,pl,z⟩:=I.list hq;have hb:=Er k;have g:=pl.isList;have f:p<s.heap.objs.size:=by obtain⟨_,e,_⟩:=g;exact bq e
 refine call_all_walk<|gY g ?_;refine⟨s.heap.objs.size,[s.heap.objs.size,p],[s.heap.objs.size],d.toArray.size,_,_,λi=>(bs[i]?).getD true,rfl,Walks.list (A:=X.A.in1) (I.ok.hd hc) _ p (bD f) d.toArray,
  ⟨⟨_,bw _ rfl,rfl,rfl⟩,g.push _⟩,λi v s' C F hP j=>?_,λh' B t=>?_⟩
 ·obtain⟨b,e,rfl⟩:=hb.get i v (by simpa using hP);dsimp[e,dW]at j;exact cT j
 ·have e:((List.range d.toArray.size).all λi=>(bs[i]?).getD true)=bs.all id:=by
   rw[aZ,hb.length];exact LSm.range_all bs
  rw[e];exact⟨.bl _,H,I.kept<|LSm.kept_iter t,rfl,q⟩
def MF(hc:X.calm=true):kP X (.builtin "any") (λxs H Q=>∃(p:ak) (bs:List Bool),xs=[.ref p]/\qe X.K H p (bs.map V.bl)/\Q (.bl<|bs.any id) H):=by
 fin2;obtain⟨p,bs,rfl,hq,q⟩:=h;kcj_m
 cases rx
 obtain⟨d,k,pl,z⟩:=I.list hq;have hb:=Er k;have g:=pl.isList;have f:p<s.heap.objs.size:=by obtain⟨_,e,_⟩:=g;exact bq e
 refine call_any_walk<|gY g ?_;refine⟨s.heap.objs.size,[s.heap.objs.size,p],[s.heap.objs.size],d.toArray.size,_,_,λi=>(bs[i]?).getD false,rfl,Walks.list (A:=X.A.in1) (I.ok.hd hc) _ p (bD f) d.toArray,
  ⟨⟨_,bw _ rfl,rfl,rfl⟩,g.push _⟩,λi v s' C F hP j=>?_,λh' B t=>?_⟩
 ·obtain⟨b,e,rfl⟩:=hb.get i v (by simpa using hP);dsimp[e,dW]at j;exact cT j
 ·have e:((List.range d.toArray.size).any λi=>(bs[i]?).getD false)=bs.any id:=by
   rw[aZ,hb.length];exact LSm.range_any bs
  rw[e];exact⟨.bl _,H,I.kept<|LSm.kept_iter t,rfl,q⟩
def MG:oY X (compareOp .IsNot) (λx y H Q=>∃a b,x=.bl a/\y=.bl b/\Q (.bl<|a != b) H):=by
 kcf_m;obtain⟨a,b,rfl,rfl,q⟩:=h
 cases rx;cases ry
 exact isnot_bool ⟨.bl _,H,I,rfl,q⟩
def Du:kP X (.type "range") (λxs H Q=>∃i j,xs=[.int i,.int j]/\∀p,H p=none->Q (.ref p) (upd H p<|.rng i j)):=by
 fin2;obtain⟨i,j,rfl,q⟩:=h;obtain⟨u,f,rfl,⟨t,rfl⟩,⟨d,rfl⟩⟩:=vals2 r;refine call_range_2 ⟨.ref s.heap.objs.size,_,I.laid (o:=.rng i j) (λb o e=>aS _ e) (aM _) ?_,rfl,q _ I.fresh⟩;exact⟨t,d,s.toks,bw _ rfl⟩
abbrev mJ (i j:Int):ag:=(List.range (j-i).toNat).map λk:Nat=>i+(k:Int)
def tU(i j:Int):(mJ i j).length=(j-i).toNat:=by unfold mJ;rw[aG,bR]
def A6{i:Int}{n:Nat}{acc:Array af}(h:ItemsOf (λk v=>∃t,v=Value.int (i+(k:Int) * 1) t) acc n):Vals (((List.range n).map λk:Nat=>i+(k:Int)).map V.int) acc.toList:=by
 obtain⟨hs,hv⟩:=h;have d:∀(l:ba) (b:Nat),(∀j v,l[j]?=some v->∃t,v=Value.int (i+((b+j:Nat):Int)) t)->Vals (((List.range' b l.length).map λk:Nat=>i+(k:Int)).map V.int) l:=by
  intro l
  induction l with
  | nil=>intro b _;exact .nil
  | cons v l g=>
   intro b hb;rw[bA,List.range'_succ,bC,bC];refine .cons ?_ ?_
   ·obtain⟨t,e⟩:=hb 0 v rfl;exact⟨t,by rw[e];simp⟩
   ·refine g (b+1) λj w hw=>?_;obtain⟨t,e⟩:=hb (j+1) w hw;exact⟨t,by rw[e,show b+(j+1)=b+1+j by lia]⟩
 have:=d acc.toList 0 λj v f=>by
  obtain⟨t,e⟩:=hv j v (by simpa using f);exact⟨t,by rw[e,cC,Int.mul_one]⟩
 rw[eF,hs,<- gh]at this;exact this
def OW{i j:Int}:Builtin.Range.rangeSize i j 1=(((j-i).toNat:Nat):Int):=by rw[rangeSize_one];split<;>omega
def BG(hc:X.calm=true):kP X (.type "list") (λxs H Q=>∃p i j,xs=[.ref p]/\H p=some (.rng i j)/\(-(2 ^ 62)<=i/\i<2 ^ 62/\-(2 ^ 62)<=j/\j<2 ^ 62)/\(j-i).toNat<=1000/\∀l,H l=none->Q (.ref l) (upd H l<|.lst<|(mJ i j).map V.int)):=by
 fin2;obtain⟨p,i,j,rfl,F,⟨C,k,G,g⟩,hn,q⟩:=h;kcj_m
 cases rx
 obtain⟨t,K,v,e⟩:=I.hok p _ F;refine call_list_range (n:=(j-i).toNat) (I.ok.hd hc) e (small_one C k G g) OW () λh' J f z B hS d=>?_;refine⟨.ref s.heap.objs.size,_,I.laid (o:=.lst<|(mJ i j).map V.int) B (aM _) ⟨?_,f.toList,z,A6 d,by rw[hS]⟩,rfl,q _ I.fresh⟩;rw[aG,tU,eN];lia
end
section
variable {X:Cx}
def EB{prog:aj}{w:ah}{A:aA}{E:af->aC->Prop}{s:aC}{Q:ba->aC->Prop}{r:ak}{a b c:Int}{t v:Tok}{n:Nat}(hh:A.handled=none)(hr:IsRange s.heap r a b c t u v)(hsmall:Builtin.Range.small a b c=true)
  (hn:Builtin.Range.rangeSize a b c=n) (hlen:n<=2 ^ 24)
  (hQ:∀h' tk (acc':Array af),(∀b o,s.heap.get? b=some o->h'.get? b=some o)->ItemsOf (λi v=>∃t,v=.int (a+i * c) t) acc' n->Q acc'.toList { s with heap:=h',toks:=tk }) :
  wpAny (model prog w) A (collect<|.ref r) Q E s:=by
 unfold collect;refine aH<|wpAny_runValue<|fV F.entry_proto_collect ?_;rw[d9 F.plain_proto_collect _]
 skip
 refine aH<|cE ?_;refine aN ⟨iS F.plain_list_iadd _,fV F.entry_list_iadd ?_⟩;rw[d9 F.plain_list_iadd _]
 skip
 have hS:(s.heap.push {}).get? s.heap.objs.size=some { cls:=.type "list",data:=.seq #[] 0 }:=bw _ rfl;have k:∀(h':aq) (tk:Nat) (acc':Array af) (j:Nat),(∀b o,b≠s.heap.objs.size->(s.heap.push {}).get? b=some o->h'.get? b=some o) ->
   h'.get? s.heap.objs.size=some { cls:=.type "list",dict:=none,data:=.seq acc' j,slots:=#[]}->ItemsOf (λi v=>∃t,v=.int (a+i * c) t) acc' n ->
   wpAny (model prog w) A (match Value.ref s.heap.objs.size with
   | Value.ref a=>do
    match (<- load a).data with
     | Data.seq xs _=>pure xs.toList
     | _=>unsupported "internal:collect"
   | _=>unsupported "internal:collect") Q E { s with heap:=h',toks:=tk }:=by
  intro h' tk acc' j p g d
  skip
  refine aH<|wpAny_load g ?_;refine aN ?_;exact hQ h' tk acc' (λb o e=>p b o (bD<|bq e)<|aS _ e) d
 refine fN (wpAny_extend_range (A:=A) (R:=λz s'=>z=.ok (.ret<|.ref s.heap.objs.size)/\∃h' tk acc' j,s'={ s with heap:=h',toks:=tk }/\(∀b o,b≠s.heap.objs.size->(s.heap.push {}).get? b=some o->h'.get? b=some o) /\
   h'.get? s.heap.objs.size=some { cls:=.type "list",dict:=none,data:=.seq acc' j,slots:=#[]}/\ItemsOf (λi v=>∃t,v=.int (a+i * c) t) acc' n)
  (s:={ s with heap:=s.heap.push {}}) hh (aS _ hr) hsmall hn hlen s.heap.objs.size (.ref s.heap.objs.size) 0 hS
  (λh' tk acc' j p g d=>⟨rfl,h',tk,acc',j,rfl,p,g,d⟩)) (λq s' h=>?_) λe s' h=>?_
 ·cases q with
  | done f=>
   obtain⟨e,h',tk,acc',j,rfl,p,g,d⟩:=h
   cases e
   exact k h' tk acc' j p g d
  | again j=>exact⟨h.1,jE h.2 λr B hr=>by
    obtain⟨rfl,h',tk,acc',j,rfl,p,g,d⟩:=hr;exact k h' tk acc' j p g d⟩
 ·exact absurd h.1<|by simp
def wB(l:ak){a b:Int}{t v:Tok}{n:Nat}(hsmall:Builtin.Range.small a b 1=true)
  (hn:Builtin.Range.rangeSize a b 1=n) (hlen:n<=1000) :
  Meets (Builtin.«tuple.__new__» ⟨[.type "tuple",.ref l],[]⟩)
   (λA R s=>A.handled=none/\IsRange s.heap l a b 1 t u v/\∀(h':aq) (tk:Nat) (acc':Array af),(∀b o',s.heap.get? b=some o'->h'.get? b=some o')->ItemsOf (λi v=>∃t,v=.int (a+i * 1) t) acc' n->R (.ok<|.ret<|.ref h'.objs.size) { s with heap:=h'.push { cls:=.type "tuple",data:=.seq acc' },toks:=tk }):=
 .of_wp λprog w A R s h=>by
  obtain⟨K,g,d,tk,G⟩:=s;obtain⟨F,p,h⟩:=h;have z:=sub_tuple_self;have j:=init_tuple_lookup;have B:=madeHere_tuple;have C:Shared.TypeIs ⟨K,g,d,tk,G⟩ (.ref l) "range" := ⟨_,p,rfl⟩;have k:A.in1.handled=none:=F
  wp_walk using d7 p,ie C,EB (A:=A.in1) k p hsmall hn (by omega)
  intro h' q acc' J f;show wpAny _ _ (Builtin.Tuple.tupleExact acc'.toList.toArray >>= λv=>ret v) _ _ _;unfold Builtin.Tuple.tupleExact;have e:acc'.toList.toArray=acc':=by simp
  refine aH (cE ?_<|by show acc'.toList.toArray.size<=sizeLine;rw[e,f.1,eN];omega);refine aN ⟨_,rfl,?_⟩;rw[e];exact h h' q acc' J f
def AN(hc:X.calm=true):kP X (.type "tuple") (λxs H Q=>∃p i j,xs=[.ref p]/\H p=some (.rng i j)/\(-(2 ^ 62)<=i/\i<2 ^ 62/\-(2 ^ 62)<=j/\j<2 ^ 62)/\(j-i).toNat<=1000/\∀l,H l=none->Q (.ref l) (upd H l<|.tup<|(mJ i j).map V.int)):=by
 fin2;obtain⟨p,i,j,rfl,K,⟨J,C,L,B⟩,hn,q⟩:=h;kcj_m
 cases rx
 obtain⟨t,M,v,e⟩:=I.hok p _ K;refine callType_new F.called_tuple ⋯ (F.typeCall_tuple_1 _) (F.newCall_tuple_1 _) (λg=>F.args_object_init_2 g _) F.entry_tuple_new
  (wB (n:=(j-i).toNat) p (small_one J C L B) OW hn) ⟨I.ok.hd hc,e,λh' z d G f=>⟨⟨_,bw _ rfl,rfl⟩,?_⟩⟩
 have k:Inv X pins σ H { s with heap:=h',toks:=z }:=I.kept G;refine⟨.ref h'.objs.size,_,k.laid (t':=z) (o:=.tup<|(mJ i j).map V.int) (λb o e=>aS _ e) (aM _) ⟨?_,d.toList,A6 f,?_⟩,rfl,q _<|k.hok.fresh<|aM _⟩
 ·rw[aG,tU,eN];lia
 ·have e:d.toList.toArray=d:=by simp
  rw[e];exact sE.new _ _
def Ez{c:String}:kP X (.builtin "isinstance") (λxs H Q=>∃x t b,xs=[x,.ty c]/\TyOf X.K H x t/\PySem.W.kitOne X.K t (.type c)=some b/\Q (.bl b) H):=by
 fin2;obtain⟨x,t,b,rfl,ty,e,q⟩:=h;obtain⟨u,g,rfl,rx,d⟩:=vals2 r
 cases d
 exact MA I rx ty e λf=>⟨.bl b,H,I.tok f,rfl,q⟩
abbrev Zy (K:au):R2:=λx y H Q=>∃a b ys,x=.ref a/\y=.ref b/\nO K H a []/\nO K H b ys/\Q (.ref b) H
def Od:oY X (binaryOp .Add) (Zy X.K):=by
 kcf_m;obtain⟨a,b,ys,rfl,rfl,h1,h2,q⟩:=h
 cases rx
 cases ry
 obtain⟨us,r1,p1,_⟩:=I.tuple h1;obtain⟨F,r2,p2,_⟩:=I.tuple h2
 cases r1
 obtain⟨⟨cls,G,data,J⟩,t,hc,n,z⟩:=id p1;obtain⟨⟨B,p,j,k⟩,g,d,C,f⟩:=id p2;simp only at hc z d f;subst hc z d f;exact concat_meets ⟨_,t,rfl⟩ ⟨_,g,rfl⟩ noFill_tuple_add seq_tuple_add gZ gS (gH _ _)
   (tuple_addW0 a b _ F.toArray n C G p J k<|by simp) ⟨t,g,⟨.ref b,H,I,rfl,q⟩⟩
end
def sA:bootBuiltins "len" = some (.builtin "len"):=by decide +kernel
def YJ:bootBuiltins "abs" = some (.builtin "abs"):=by decide +kernel
def GF:bootBuiltins "all" = some (.builtin "all"):=by decide +kernel
def WV:bootBuiltins "any" = some (.builtin "any"):=by decide +kernel
def p8:bootBuiltins "sorted" = some (.builtin "sorted"):=by decide +kernel
def ow:bootBuiltins "isinstance" = some (.builtin "isinstance"):=by decide +kernel
def WS:bootBuiltins "int" = some (.type "int"):=by decide +kernel
def TZ:bootBuiltins "bool" = some (.type "bool"):=by decide +kernel
def xQ:bootBuiltins "list" = some (.type "list"):=by decide +kernel
def vd:bootBuiltins "tuple" = some (.type "tuple"):=by decide +kernel
def OX:bootBuiltins "range" = some (.type "range"):=by decide +kernel
structure Blt (mg:Str->bd):Prop where
 len:mg "len" = none
 abs:mg "abs" = none
 all:mg "all" = none
 any:mg "any" = none
 max:mg "max" = none
 min:mg "min" = none
 sorted:mg "sorted" = none
 isinstance:mg "isinstance" = none
 int:mg "int" = none
 bool:mg "bool" = none
 str:mg "str" = none
 list:mg "list" = none
 tuple:mg "tuple" = none
 range:mg "range" = none
def Vg:∀{a b:ag},a.Perm b->a.Pairwise (·<=·)->b.Pairwise (·<=·)->a=b:=λp ha hb=>
 d8 (λx y _ _ h1 h2=>Int.le_antisymm h1 h2) ha hb p
def abB(i j:Int):(mJ i j).Pairwise (·<=·):=by
 unfold mJ;rw[cL];exact ig.imp λh=>()
def se(i j:Int):(mJ i j).Nodup:=by
 unfold mJ;rw[List.Nodup,cL];exact ig.imp λh=>()
def rQ{i j k:Int}:k∈mJ i j ↔ i<=k/\k<j:=by
 unfold mJ;rw[aY];constructor
 ·rintro⟨a,ha,rfl⟩;have:=cF.mp ha;omega
 ·rintro⟨h1,h2⟩;exact⟨(k-i).toNat,cF.mpr<|by omega,by omega⟩
theorem yZ:∀{l m:ag},l.Nodup->(∀x∈l,x∈m)->m.length<=l.length->l.Perm m
 | [],m,_,_,h=>by
  have:m=[]:=fG.mp<|Nat.le_zero.mp h;rw[this]
 | a::l,m,nd,hs,hl=>by
  have ha:a∈m:=hs a aL;have d:=bX.mp nd;have j:m.Perm (a::m.erase a):=List.perm_cons_erase ha;have k:=yZ (l:=l) (m:=m.erase a) d.2 (λx g=>by
   have f:x≠a:=λe=>d.1<|e ▸ g;exact(List.mem_erase_of_ne f).mpr (hs x<|aQ _ g)) (by
   rw[List.length_erase_of_mem ha];dsimp[bA]at hl;omega)
  exact(List.Perm.cons a k).trans j.symm
abbrev Kn (P:aj)(w:ah)(K:au)(mg:Str->bd)(base:aq)(k:Nat)(x:Str)(ps:ar)(sp:Sp):Prop:=
 ∃(f:ak) (fd:FuncData),FnOk P w K mg base qz k f fd ps sp/\mg x=some (.ref f)/\PySem.W.keepIn K (.ref f)=true/\Binds K fd ps []
def ZS{X:Cx}{k:Nat}{x:Str}{sp:Sp}{e:aE}{t:TA}{p:Pos}(G:Kn X.prog X.w X.K X.mg X.base k x ps sp)(hr:Room k X.A)(ha:PA X (e::es) t)(hg:Gl X x:=by rfl)
  (hdb:(x == ("__debug__" : Str))=false:=by decide) (hs:starEach (e::es) X.env=(false,eval e X.env)::starEach es X.env:=by rfl) (hplain:(backTo pos<|starEach es X.env).any (·.1)=false:=by rfl) :
  PE X (.Call (.Name x p) (e::es) [] pos) (V5 sp [] E0 t):=by
 obtain⟨f,fd,F,g,d,hb⟩:=G;exact Tu F hr hg g d hb .nil ZN ha hdb hs hplain
abbrev A5 (XN fs:ar):ar->List (bj)->Prop
 | [],[]=>True
 | _::N,none::c=>A5 XN fs N c
 | x::N,some j::c=>XN[j]?=some x/\x∈fs/\A5 XN fs N c
 | _,_=>False
theorem A5.len{fs:ar}:∀{N:ar}{c:List<|bj},A5 XN fs N c->c.length=N.length
 | [],[],_=>rfl
 | _::N,none::c,h=>cV (·+1) (A5.len (N:=N) (c:=c) h)
 | _::N,some j::c,h=>cV (·+1) (A5.len (N:=N) (c:=c) h.2.2)
 | [],_::_,h=>h.elim
 | _::_,[],h=>h.elim
theorem A5.cp{fs:ar}:∀{N:ar}{c:List<|bj},A5 XN fs N c->∀(i j:Nat) (x:Str),N[i]?=some x->c[i]?=some (some j)->XN[j]?=some x/\x∈fs
 | [],[],_,i,j,x,h1,_=>by simp at h1
 | y::N,none::c,h,i,j,x,h1,h2=>by
  cases i with
  | zero=>simp at h2
  | succ i=>exact A5.cp (N:=N) (c:=c) h i j x (by simpa using h1)<|by simpa using h2
 | y::N,some k::c,h,i,j,x,h1,h2=>by
  cases i with
  | zero=>
   simp at h1 h2;subst h1 h2;exact⟨h.1,h.2.1⟩
  | succ i=>exact A5.cp (N:=N) (c:=c) h.2.2 i j x (by simpa using h1)<|by simpa using h2
 | [],_::_,h,_,_,_,_,_=>h.elim
 | _::_,[],h,_,_,_,_,_=>h.elim
def oX{X:Cx}{scope:Scope}{N:ar}(fs:ar)(kind:scope.kind=.function)(nocf:∀y∈scope.names,y.2=.cell->scope.names.lookup y.1=some .cell/\(y.1,NameKind.free)∉scope.names)(nm:∀y∈scope.names,y.2=.local->scope.names.lookup y.1=some .local)
  (nolf:∀y∈scope.names,y.2=.free->scope.names.lookup y.1≠some .local) (hf:∀y∈scope.names,y.2=.free->y.1∈fs) (hfs:∀x∈fs,(x,NameKind.free)∈scope.names) (hk:∀x∈fs,X.env.kindOf x=some .cell\/X.env.kindOf x=some .free) (cp:A5 X.N fs N cap):CpScope X scope N cap where
 kind:=kind
 nocf:=λx hf hc=>(nocf (x,.cell) hc rfl).2 hf
 nm:=nm
 fr:=λy hy e=>hk _ (hf y hy e)
 rl:=λy h=>by
  have g:∀k,(k=NameKind.cell\/k=NameKind.free)->(relabel scope X.env).names.lookup y=some k->(y,NameKind.free)∈scope.names\/scope.names.lookup y=some .cell:=λk hk e=>by
   obtain⟨⟨t,q⟩,f,d⟩:=aY.mp<|Ai e;dsimp only at d;split at d
   ·rename_i hc
    cases d
    have:q=.free:=by
     dsimp[fH]at hc;simpa using hc.1.1
    subst this;exact .inl f
   ·cases d
    rcases hk with rfl|rfl
    ·exact .inr (nocf _ f rfl).1
    ·exact .inl f
  rcases h with h|h
  ·exact g _ (.inl rfl) h
  ·exact g _ (.inr rfl) h
 len:=cp.len
 nolf:=λx p=>nolf (x,.free) p rfl
 cp:=λi j x h1 h2=>by
  obtain⟨a,b⟩:=cp.cp i j x h1 h2;exact⟨a,hfs x b⟩
inductive Kd where
 | non|bl|int|str|lst|tup
 deriving DecidableEq
abbrev Kd.ty:Kd->af
 | .non=>.type "NoneType" | .bl=>.type "bool" | .int=>.type "int" | .str=>.type "str" | .lst=>.type "list" | .tup=>.type "tuple"
abbrev W6 (H:Hp)(x:V):Kd->Prop
 | .non=>x=.non
 | .bl=>∃b,x=.bl b
 | .int=>∃i,x=.int i
 | .str=>∃s,x=.str s
 | .lst=>∃a xs,x=.ref a/\H a=some (.lst xs)
 | .tup=>∃a xs,x=.ref a/\H a=some (.tup xs)
def W6.adh{K:au}{H:Hp}{x:V}{k:Kd}(h:W6 H x k):TyOf K H x k.ty:=by
 cases k with
 | non=>cases h;exact .non
 | bl=>obtain⟨b,rfl⟩:=h;exact .bl b
 | int=>obtain⟨b,rfl⟩:=h;exact .int b
 | str=>obtain⟨b,rfl⟩:=h;exact .str b
 | lst=>obtain⟨a,xs,rfl,e⟩:=h;exact .lst e
 | tup=>obtain⟨a,xs,rfl,e⟩:=h;exact .tup e
def Up{K:au}(k:Kd):PySem.W.kitOne K k.ty (.type "int")=some (decide<|k=.int\/k=.bl):=by cases k<;>rfl
def Ot{K:au}(k:Kd):PySem.W.kitOne K k.ty (.type "bool")=some (decide<|k=.bl):=by cases k<;>rfl
def kit_tuple{K:au}(k:Kd):PySem.W.kitOne K k.ty (.type "tuple")=some (decide<|k=.tup):=by cases k<;>rfl
def NZ{K:au}(k:Kd):PySem.W.kitOne K k.ty (.type "list")=some (decide<|k=.lst):=by cases k<;>rfl
section
variable {prog:aj}{w:ah}{A:aA}{E:af->aC->Prop}{s:aC}
def xT{t:ak}{i:Nat}{x:af}{Q:af->aC->Prop}(hit:s.heap.IsTupleIter it t i)
  (ht:s.heap.IsTuple t items) (hx:items[i]?=some x) (hQ:∀h',h'.IsTupleIter it t (i+1)->Heap.SameBut it s.heap h'->Q x { s with heap:=h' }) :
  wpAny (model prog w) A (Builtin.SmallTypes.nextOf<|.ref it) Q E s:=by
 obtain⟨o,f,hc,d⟩:=id hit;obtain⟨p,g,_,k,j⟩:=ht;unfold Builtin.SmallTypes.nextOf;refine aH (dO (name:=Str.ofString "__next__") hit.typeIs eT
  (cD eT hit.typeIs F.entry_tuple_iterator_next ?_<|F.args_tuple_iterator_next_1 _))
 show wpAny _ _ (field (.ref it) 0 >>= _) _ _ s;refine aH (jo f d (x:=.ref t) rfl ?_)
 skip
 rw[aR<|show ¬((Value.ref t == Value.none)=true)from bF]
 skip
 refine aH (jo f d (x:=.int i 0) rfl ?_)
 skip
 refine aH<|ir g j ?_;dsimp[cU,hx];refine aH (gp f d (by simp)<|aN ⟨x,rfl,aN<|hQ _ ?_<|eG ..⟩);exact⟨_,f_ _ f<|iJ<|eU d _,(jq ..).trans hc,by
  rw[eU d];simp[rawInt]⟩
def yL{t:ak}{i:Nat}{Q:af->aC->Prop}(hh:A.handled=none)
  (hit:s.heap.IsTupleIter it t i) (ht:s.heap.IsTuple t items) (hx:items[i]?=none)
  (hE:∀h' e,Heap.ExtBut it s.heap h'->(∃o,h'.get? e=some o/\o.cls=.type "StopIteration")->E (.ref e) { s with heap:=h' }) :
  wpAny (model prog w) A (Builtin.SmallTypes.nextOf<|.ref it) Q E s:=by
 obtain⟨o,g,hc,j⟩:=id hit;obtain⟨p,d,_,k,f⟩:=ht;unfold Builtin.SmallTypes.nextOf;refine aH (dO (name:=Str.ofString "__next__") hit.typeIs eT
  (cD eT hit.typeIs F.entry_tuple_iterator_next ?_<|F.args_tuple_iterator_next_1 _))
 show wpAny _ _ (field (.ref it) 0 >>= _) _ _ s;refine aH (jo g j (x:=.ref t) rfl ?_)
 skip
 rw[aR<|show ¬((Value.ref t == Value.none)=true)from bF]
 skip
 refine aH (jo g j (x:=.int i 0) rfl ?_)
 skip
 refine aH<|ir d f ?_;dsimp[cU,hx];refine aH (gq<|aH<|gp g j (by simp) ?_)
 skip
 refine aH ?_;dsimp[newExc,newTuple];refine aH (cE ?_<|by size_fits);refine aH (m:=firstArgMember _ _) (wpAny_of_eq (a:=Value.none) (by first|rfl|(dsimp[firstArgMember];rfl)) ?_);refine cE ?_ (by size_fits);dsimp[raiseNew];refine aH (wpAny_handled ?_)
 first|rw[show A.in1.handled=none from hh]|rw[hh]
 refine aH<|aN<|wpAny_throw ?_;exact hE _ _ (((eG ..).extBut.push _).push _) ⟨_,bw _ rfl,rfl⟩
end
def NP{prog:aj}{w:ah}{A:aA}(hh:A.handled=none)(it l:ak)(hne:l≠it)(items:Array af) :
  Draws prog w A it [it,l] items.size (λi v=>items[i]?=some v) (λi h=>h.IsTupleIter it l i/\h.IsTuple l items) where
 live:=λ_ _ st=>let⟨o,ho,_⟩:=st.1;⟨o,ho⟩
 frame:=λ_ _ _ st g=>⟨st.1.at λo e=>g it (by simp) o e,let⟨o,ho,r⟩:=st.2;⟨o,g l (by simp) o ho,r⟩⟩
 item:=λi s Q E j st p=>by
  refine xT st.1 st.2 (x:=items[i]) (by simp[j]) λh' d f=>?_;exact p _ h' s.toks (by simp[j]) ⟨d,let⟨o,ho,r⟩:=st.2;⟨o,f.extBut l o hne ho,r⟩⟩ f
 done:=λs Q E st k=>yL hh st.1 st.2 (by simp) k
def EN(l:ak)(items:Array af) :
  Meets (Builtin.«enumerate.__new__» ⟨[.type "enumerate",.ref l],[]⟩) (λ_ R s=>s.heap.IsTuple l items /\
   R (.ok<|.ret<|.ref (s.heap.push { cls:=.type "tuple_iterator",data:=.fields #[.ref l,.int 0 0]}).objs.size)
    { s with heap:=(s.heap.push { cls:=.type "tuple_iterator",data:=.fields #[.ref l,.int 0 0]}).push { cls:=.type "enumerate",data:=.fields #[.none,.bool false,.ref s.heap.objs.size,rawInt 0,.none,.none]}}):=
 .of_wp λprog w A R s h=>by
  obtain⟨F,g,d,z,C⟩:=s;obtain⟨j,h⟩:=h;have k:=sub_enumerate;obtain⟨B,f,q,t,p⟩:=id j
  wp_walk using d7 f
  refine wpAny_stack_any λst=>aN ?_;split
  ·rename_i c _ _ _ _ _
   cases(c == Value.type "enumerate")
   ·wp_walk using d7 f,gP j
    exact⟨_,rfl,h⟩
   ·wp_walk using d7 f,gP j
    exact⟨_,rfl,h⟩
  ·wp_walk using d7 f,gP j
   exact⟨_,rfl,h⟩
abbrev Ite (K:au)(a:ak):It:=
 ⟨λi H=>∃xs x,nO K H a xs/\xs[i]?=some x,λi H x H'=>∃T,H T=none/\x=.ref T/\∀xs y,nO K H a xs->xs[i]?=some y->H'=upd H T (.tup [.int i,y]),λi H=>∃xs,nO K H a xs/\xs.length=i⟩
def HA{P:aj}{w:ah}{K:au}(a e it:ak)(hei:e≠it):Turn P w K (.Tuple elts x1 tpos) (Ite K a) [e,it] e (λi h=>(∃old,IsEnum h e it i old)/\h.IsTupleIter it a i) where
 mem:=by simp
 obj:=λi h st b hb=>by
  obtain⟨⟨old,f⟩,g⟩:=st;have J:b=e\/b=it:=by simpa using hb
  rcases J with rfl|rfl
  ·exact⟨_,f,λv z=>by cases z⟩
  ·obtain⟨o,e,c,d⟩:=g;exact⟨o,e,λv z=>by rw[d]at z;cases z⟩
 keep:=λi h h' st k=>by
  obtain⟨⟨old,f⟩,g⟩:=st;exact⟨⟨old,k e (by simp) _ f⟩,g.at λo B=>k it (by simp) o B⟩
 item:=by
  w_up;subst hP hw hK;obtain⟨⟨old,f⟩,g⟩:=st;obtain⟨xs,x,hq,Z⟩:=hg;obtain⟨C,rv,p,hz⟩:=I.tuple hq;obtain⟨u,hu,ru⟩:=rv.get Z;have M:a≠it:=by
   obtain⟨o,B,F,_⟩:=p;obtain⟨o2,L,G,_⟩:=g;intro z;rw[z,L]at B
   cases B
   rw[F]at G;exact absurd (Value.type.inj G) ⋯
  have hea:e≠a:=by
   obtain⟨o,B,F,_⟩:=p;intro z;rw[<- z,f]at B
   cases B
   exact absurd (Value.type.inj F) ⋯
  have hlt:i<C.toArray.size:=by
   rw[aZ];exact(aJ.mp hu).1
  refine wpAny_pyNext_enum_itemD (NP (A:=X.A.in1) (I.ok.hd hc) it a M C.toArray) f ⟨g,p⟩ hlt hei (by simp[hei,hea]) λx' h' tk hP W hst hT hsz hk=>?_;have ex:x'=u:=by
   have:C.toArray[i]?=some u:=by simpa using hu
   rw[this]at hP;exact(br hP).symm
  subst ex;refine⟨_,rfl,wpAny_letOwnedTupleGo_enum W λh2 he2 N=>?_⟩;have U:H s.heap.objs.size=none:=I.hok.fresh<|aM _;have V:e<s.heap.objs.size:=bq f;have hil:it<s.heap.objs.size:=by obtain⟨o,B,_⟩:=g;exact bq B
  have Y:∀b o,b≠e->b≠it->s.heap.get? b=some o->h2.get? b=some o:=λb o h1 h3 q=>N.extBut b o h1<|hk b o h1 h3 q;have hT2:h2.get? s.heap.objs.size=some { cls:=.type "tuple",data:=.seq #[.int i tk,x']}:=N.extBut _ _ (jD V) hT;obtain⟨e0,e1,e2,e3,e4,e5⟩:=hf e (by simp);obtain⟨i0,i1,i2,i3,i4,i5⟩:=hf it (by simp);have nT:∀b o,s.heap.get? b=some o->b≠s.heap.objs.size:=λb o q=>bD<|bq q;have j:∀c v,H c=some v->c≠e/\c≠it:=λc v q=>⟨(λz=>by rw[z,e0]at q;cases q),(λz=>by rw[z,i0]at q;cases q)⟩;have I2:Inv X pins σ (upd H s.heap.objs.size<|.tup [.int i,x]) { s with heap:=h2,toks:=tk+1 }:=by
   refine I.step (g':=s.gens) (d':=s.drawn) (ch:=[e,it]) (λb hb=>?_) (λb o _ _ t q _=>?_) (λb o _ _ t q _=>?_) (λb o t q n=>?_) (λb o t q=>?_) (λb ys q=>?_) (λb o u' q=>?_) (λb ps q=>?_) (λm hm=>?_) (λb u' q=>?_) I.bare
   ·have J:b=e\/b=it:=by simpa using hb
    rcases J with rfl|rfl
    ·exact⟨e3,e1,e4,e5⟩
    ·exact⟨i3,i1,i4,i5⟩
   ·exact Y b o (λz=>t<|by simp[z]) (λz=>t<|by simp[z]) q
   ·exact⟨o.slots,Y b o (λz=>t<|by simp[z]) (λz=>t<|by simp[z]) q⟩
   ·rw[j0<|nT b o q];exact n
   ·exact⟨o,Y b o (λz=>t<|by simp[z]) (λz=>t<|by simp[z]) q⟩
   ·rw[j0<|kh q U];exact q
   ·rw[j0<|kh q U];exact q
   ·exact⟨#[],by rw[j0<|kh q U,q];simp⟩
   ·obtain⟨o,es,ep,B,r⟩:=hm;exact⟨o,es,ep,Y _ o (cR e1) (cR i1) B,r⟩
   ·by_cases z:b=s.heap.objs.size
    ·subst z;rw[kQ]at q
     cases q
     exact⟨by show 2<=sizeLine;decide,[.int i tk,x'],.cons ⟨tk,rfl⟩<|.cons ru .nil,⟨_,hT2,rfl,rfl,0,rfl⟩⟩
    ·rw[j0 z]at q;refine(I.hok b u' q).stay (λc v hc T=>Y c v ?_ ?_ T) (λc T=>?_) λc ys T=>?_
     ·rcases hc with z|z
      ·rw[z];exact(j b u' q).1
      ·exact(j c _ z).1
     ·rcases hc with z|z
      ·rw[z];exact(j b u' q).2
      ·exact(j c _ z).2
     ·rw[j0<|kh T U];exact T
     ·rw[j0<|kh T U];exact T
  refine⟨.ref s.heap.objs.size,_,I2,rfl,⟨s.heap.objs.size,U,rfl,λys y hy O=>?_⟩,⟨⟨x',by simpa using he2⟩,?_⟩,λb hb=>?_⟩
  ·rw[I.vX hy hq]at O;rw[Z]at O
   cases O
   rfl
  ·exact hst.1.at λo B=>N.extBut it o (cR hei) B
  ·have J:b=e\/b=it:=by simpa using hb
   rcases J with rfl|rfl
   ·rw[j0<|bD V];exact e0
   ·rw[j0<|bD hil];exact i0
 done:=by
  w_up;subst hP hw hK;obtain⟨⟨old,f⟩,g⟩:=st;obtain⟨xs,hq,Z⟩:=hg;obtain⟨C,rv,p,hz⟩:=I.tuple hq;obtain⟨i0,i1,i2,i3,i4,i5⟩:=hf it (by simp);have M:a≠it:=by
   obtain⟨o,B,F,_⟩:=p;obtain⟨o2,L,G,_⟩:=g;intro z;rw[z,L]at B
   cases B
   rw[F]at G;exact absurd (Value.type.inj G) ⋯
  have hl:=rv.length;have ei:C.toArray.size=i:=by rw[aZ,<- hl,Z]
  exact wpAny_pyNext_enum_endD (NP (A:=X.A.in1) (I.ok.hd hc) it a M C.toArray) f ⟨by rw[ei];exact g,p⟩ λh' eb=>⟨rfl,I.turned (t':=s.toks) (λb o hb q=>eb b o hb q) i0 i1 i3 i4 i5⟩
 self:=λ_ _ _ _ _ st h=>let⟨⟨_,f⟩,_⟩:=st;wpAny_pyIter_enum f h
def DZ:bootBuiltins "enumerate" = some (.type "enumerate"):=by decide +kernel
section
variable {X:Cx}
abbrev aaw (K:au)(ta:TA):TI:=λσ H R=>ta σ H λd H1=>∃a xs,d=[.ref a]/\nO K H1 a xs/\R (Ite K a) H1
def Sb{a:aE}{ta:TA}{p:Pos}(hg:Gl X "enumerate")(hm:X.mg "enumerate" = none)(ha:PA X [a] ta)(hs:starEach [a] X.env=[(false,eval a X.env)]:=by rfl):PI X (.Tuple elts x1 tpos) (.Call (.Name "enumerate" p) [a] [] pos) (aaw X.K ta):=by
 intro pins s σ H R I h;refine Call_<|yW I hg hm DZ<|eL (nL (ha pos pins s σ H _ I h) λus d ⟨O,H1,I1,r1,G⟩=>?_) hs rfl;obtain⟨t,xs,e,hq,q⟩:=G;subst e;obtain⟨u,rfl,rx⟩:=vals1 r1
 cases rx
 obtain⟨z,N,J,M⟩:=I1.tuple hq;refine callType_new F.called_enumerate ⋯ (F.typeCall_enumerate_1 _) (F.newCall_enumerate_1 _) (λj=>F.args_object_init_2 j _) F.entry_enumerate_new (EN t z.toArray) ⟨J,⟨_,bw _ rfl,rfl⟩,?_⟩;have B:Inv X pins σ H1 { d with heap:=d.heap.push { cls:=.type "tuple_iterator",data:=.fields #[.ref t,.int 0 0]}}:=I1.kept (t':=d.toks) λb o e=>aS _ e;have L:Inv X pins σ H1 { d with heap:=(d.heap.push { cls:=.type "tuple_iterator",data:=.fields #[.ref t,.int 0 0]}).push { cls:=.type "enumerate",data:=.fields #[.none,.bool false,.ref d.heap.objs.size,rawInt 0,.none,.none]}}:=B.kept (t':=d.toks) λb o e=>aS _ e;have C:IsEnum ((d.heap.push { cls:=.type "tuple_iterator",data:=.fields #[.ref t,.int 0 0]}).push { cls:=.type "enumerate",data:=.fields #[.none,.bool false,.ref d.heap.objs.size,rawInt 0,.none,.none]}) (d.heap.push { cls:=.type "tuple_iterator",data:=.fields #[.ref t,.int 0 0]}).objs.size d.heap.objs.size 0 .none:=bw _ rfl;have g:((d.heap.push { cls:=.type "tuple_iterator",data:=.fields #[.ref t,.int 0 0]}).push { cls:=.type "enumerate",data:=.fields #[.none,.bool false,.ref d.heap.objs.size,rawInt 0,.none,.none]}).IsTupleIter d.heap.objs.size t 0:=⟨_,aS _<|bw _ rfl,rfl,rfl⟩;have f:(d.heap.push { cls:=.type "tuple_iterator",data:=.fields #[.ref t,.int 0 0]}).objs.size≠d.heap.objs.size:=by rw[c_];exact jD (dN _)
 refine wpAny_pyIter_enum C ⟨_,[_,d.heap.objs.size],_,_,H1,rfl,L,HA t _ d.heap.objs.size f,⟨⟨.none,C⟩,g⟩,λb hb=>?_,q⟩;have k:b=(d.heap.push { cls:=.type "tuple_iterator",data:=.fields #[.ref t,.int 0 0]}).objs.size\/b=d.heap.objs.size:=by simpa using hb
 rcases k with rfl|rfl
 ·exact I1.DH (by rw[c_];exact Nat.le_succ _) (B.hok.fresh<|aM _)
 ·exact I1.DH (aM _)<|I1.hok.fresh<|aM _
end
end L2
namespace L2
open PySem PySem.Spec PyProof.Rows
open PySem.SeqAt
open PySem.AutoSeq1 (wpAny_loadPart')
open PySem.MeetsSeq PySem.MeetsSeq2 PySem.MeetsSeq3 PySem.SeqAt
theorem ints_get:∀{vs:ba}{ns:ag}{i:Nat},IntsAre vs ns->i<vs.length->∃a t,vs[i]?=some (.int a t)/\ns.drop i=a::ns.drop (i+1)
 | _,_,_,.nil,h=>absurd h (by simp)
 | _,_,0,.cons a t _,_=>⟨a,t,rfl,rfl⟩
 | _,_,i+1,.cons a t q,h=>by
  obtain⟨b,u,e,f⟩:=ints_get q (i:=i) (by simpa using h);exact⟨b,u,by simpa using e,by simpa using f⟩
section
variable {X:Cx}
def Qu:oY X (binaryOp .FloorDiv) (rI (λ_ j=>0<j/\j<18446744073709551616) λi j=>.int<|i / j):=opI λi j _ _ _ _ _ hc q=>by
 have h1:(0:Int)<j:=hc.1;have h2:j<18446744073709551616:=hc.2;refine floordiv_int (by omega) (by rw[Int.fdiv_eq_ediv_of_nonneg i<|by omega];exact q)<|.inl<|PyProof.noPylong_of_log2 ?_;exact bV ((Nat.log2_lt<|by omega).mpr<|show j.natAbs<2 ^ 64 by omega) ⋯
end
end L2
namespace L2
open PySem PySem.Spec PyProof.Rows
abbrev Its (x:Str):It:=⟨λi _=>i<x.cps.size,λi H v H'=>H'=H/\∃c,x.cps[i]?=some c/\v=.str ⟨#[c]⟩,λi _=>i=x.cps.size⟩
def QB{P:aj}{w:ah}{K:au}(x:Str)(t:Tok)(it:ak):Turn P w K tg (Its x) [it] it (λi h=>h.IsStrIter it "str_ascii_iterator" x t i) where
 mem:=by simp
 obj:=λi h st b hb=>by
  have e:b=it:=by simpa using hb
  subst e;obtain⟨o,e,c,d⟩:=st;exact⟨o,e,λv z=>by rw[d]at z;cases z⟩
 keep:=λi h h' st k=>let⟨o,ho,r⟩:=st;⟨o,k it (by simp) o ho,r⟩
 item:=by
  w_up;subst hP hw hK;kpc_g;have W:=Walks.strAscii (prog:=X.prog) (w:=X.w) (I.ok.hd hc) it x t;refine W.item i s _ _ hg st λv h' p hv f j=>?_;obtain⟨c,u,g,rfl⟩:=hv;have B:Inv X pins σ H { s with heap:=h',toks:=p }:=I.turned (λb o hb e=>j b o (by simpa using hb) e) f0 f1 f3 f4 f5;obtain⟨o,e,q,d⟩:=id f;exact⟨_,rfl,Ff (s:={ s with heap:=h',toks:=p }) e q d ⋯ ⟨.str ⟨#[c]⟩,H,B,⟨u,rfl⟩,⟨rfl,c,g,rfl⟩,f,λb hb=>(hf b hb).1⟩⟩
 done:=by
  w_up;subst hP hw hK;kpc_g;have hg:i=x.cps.size:=hg;subst hg;have W:=Walks.strAscii (prog:=X.prog) (w:=X.w) (I.ok.hd hc) it x t;exact W.done s _ _ st λh' p j=>⟨rfl,I.turned (λb o hb e=>j b o (by simpa using hb) e) f0 f1 f3 f4 f5⟩
 self:=λ_ _ _ _ _ st h=>wpAny_pyIter_striter_ascii st h
section
variable {X:Cx}{tg:aE}
abbrev ac1 (tl:TE):TI:=λσ H R=>tl σ H λx H1=>∃y:Str,x=.str y/\y.cps.all (· < 128)=true/\R (Its y) H1
def XS{l:aE}{tl:TE}(hl:PE X l tl):PI X tg l (ac1 tl):=by
 intro pins s σ H R I h;refine nL (hl pins s σ H _ I h) λv d h9=>?_;obtain⟨x,H1,I1,r1,f⟩:=h9;obtain⟨y,e,ha,q⟩:=f;subst e;obtain⟨t,rfl⟩:=r1;refine wpAny_pyIter_ascii ha ?_;refine⟨d.heap.objs.size,[d.heap.objs.size],_,_,H1,rfl,I1.kept (t':=d.toks) λb o e=>aS _ e,QB y t _,⟨_,bw _ rfl,rfl,rfl⟩,λb hb=>?_,q⟩;have e:b=d.heap.objs.size:=by simpa using hb
 subst e;exact I1.DH (aM _)<|I1.hok.fresh<|aM _
end
section
variable {κ:Type}[DecidableEq κ]
abbrev qX (kvs:List<|κ×V)(k:κ):Option V:=(kvs.find? λkv=>decide<|kv.1=k).map (·.2)
abbrev putK (kvs:List<|κ×V)(k:κ)(v:V):List (κ×V):=
 if (kvs.any λkv=>decide<|kv.1=k)=true then kvs.map (λkv=>if kv.1=k then(kv.1,v)else kv)else kvs++[(k,v)]
def vt{p:κ×V}{r:List<|κ×V}{k:κ}(e:p.1=k):qX (p::r) k=some p.2:=by simp[qX,cj,e]
def vH{p:κ×V}{r:List<|κ×V}{k:κ}(e:¬p.1=k):qX (p::r) k=qX r k:=by simp[qX,cj,e]
theorem xV(k:κ):∀kvs:List<|κ×V,(kvs.any λkv=>decide<|kv.1=k)=(qX kvs k).isSome
 | []=>rfl
 | p::r=>by
  rw[f7];by_cases e:p.1=k
  ·dsimp[vt e,bf e,Bool.true_or,ji]
  ·rw[vH e,bz e,f9];exact xV k r
def qy(kvs:List<|κ×V)(k:κ)(v:V):(putK kvs k v).length<=kvs.length+1:=by
 unfold putK;split
 ·rw[aG];lia
 ·rw[aX,bA,ez];lia
def yC.tX{o:Option V}{u:bd}(r:yC o u):o.isSome=u.isSome:=by
 cases o with
 | none=>cases u with
  | none=>rfl
  | some _=>exact(show False from r).elim
 | some _=>cases u with
  | none=>exact(show False from r).elim
  | some _=>rfl
def yC.getD{o:Option V}{u:bd}{d:V}(r:yC o u)(rd:RelV d d'):RelV (o.getD d) (u.getD d'):=by
 cases o with
 | none=>cases u with
  | none=>exact rd
  | some _=>exact(show False from r).elim
 | some _=>cases u with
  | none=>exact(show False from r).elim
  | some _=>exact r
def KV.val(r:KV kvs vs)(k:κ):yC (qX kvs k) (valueAt vs k):=by
 unfold KV at r
 induction r with
 | nil=>exact True.intro
 | @cons p q ps f h t g=>
  obtain⟨h1,h2⟩:=h;by_cases e:p.1=k
  ·have d:q.1=k:=h1.symm.trans e;have b:valueAt (q::f) k=some q.2:=by simp[valueAt,cj,d]
   rw[vt e,b];exact h2
  ·have d:¬q.1=k:=λz=>e<|h1.trans z;have b:valueAt (q::f) k=valueAt f k:=by simp[valueAt,cj,d]
   rw[vH e,b];exact g
def KV.any{kvs:List<|κ×V}{vs:List<|κ×af}(r:KV kvs vs)(k:κ):(kvs.any λkv=>decide<|kv.1=k)=vs.any λkv=>decide (kv.1=k):=by
 unfold KV at r
 induction r with
 | nil=>rfl
 | cons h t d=>rw[f7,f7,d,h.1]
def KV.repl{kvs:List<|κ×V}{vs:List<|κ×af}(r:KV kvs vs)(k:κ)(ry:RelV y u) :
  KV (kvs.map λkv=>if kv.1=k then(kv.1,y)else kv) (vs.map λkv=>if kv.1=k then(kv.1,u)else kv):=by
 unfold KV at r ⊢
 induction r with
 | nil=>exact .nil
 | @cons p q ps f h t d=>
  rw[bC,bC];refine .cons ?_ d;obtain⟨h1,h2⟩:=h;by_cases e:p.1=k
  ·rw[aV e,aV<|h1.symm.trans e];exact⟨h1,ry⟩
  ·rw[aR e,aR λz=>e<|h1.trans z];exact⟨h1,h2⟩
def KV.put(r:KV kvs vs)(k:κ)(ry:RelV y u):KV (putK kvs k y) (stored vs k u):=by
 unfold putK stored;rw[r.any k];by_cases e:(vs.any λkv=>decide<|kv.1=k)=true
 ·rw[aV e,aV e];exact r.repl k ry
 ·rw[aR e,aR e];exact Paired.snoc r ⟨rfl,ry⟩
def KV.length{kvs:List<|κ×V}{vs:List<|κ×af}(r:KV kvs vs):kvs.length=vs.length:=iR r
end
def Bo{P:aj}{w:ah}{k:Key}(r:RelV (kV k) u):(lK P w).is k u=true:=by
 cases k with
 | inl i=>obtain⟨t,e⟩:=(show ∃t,u=Value.int i t from r);subst e;exact Fi P w i t
 | inr x=>obtain⟨t,e⟩:=(show ∃t,u=Value.str x t from r);subst e;exact FH P w x t
theorem Cu{P:aj}{w:ah}:∀{ks:List Key}{us:ba},Vals (ks.map kV) us->ItemsAre (lK P w) ks us
 | [],_,r=>by rw[fP]at r;cases r;exact .nil
 | k::ks,_,r=>by
  rw[bC]at r
  cases r with
  | cons h t=>exact .cons (Bo h)<|Cu t
meta abbrev KT (H:Hp):List (List Key×V)->List (List Key×ak×af)->Prop:=Paired λp q=>p.1=q.1/\H q.2.1=some (.tup<|p.1.map kV)/\RelV p.2 q.2.2
def KT.val{H:Hp}(r:KT H kvs xs)(k:List Key):yC (qX kvs k) ((atKey xs k).map (·.2)):=by
 induction r with
 | nil=>exact True.intro
 | @cons p q ps f h t g=>
  obtain⟨h1,_,h2⟩:=h;by_cases e:p.1=k
  ·have d:q.1=k:=h1.symm.trans e;have b:atKey (q::f) k=some q.2:=by simp[atKey,cj,d]
   rw[vt e,b];exact h2
  ·have d:¬q.1=k:=λz=>e<|h1.trans z;have b:atKey (q::f) k=atKey f k:=by simp[atKey,cj,d]
   rw[vH e,b];exact g
def KT.repl{H:Hp}{kvs:List<|List Key×V}{xs:List<|List Key×ak×af}(r:KT H kvs xs)(k:List Key)(ry:RelV y u) :
  KT H (kvs.map λkv=>if kv.1=k then(kv.1,y)else kv) (xs.map<|putAt k u):=by
 induction r with
 | nil=>exact .nil
 | @cons p q ps f h t d=>
  rw[bC,bC];refine .cons ?_ d;obtain⟨h1,h2,h3⟩:=h;unfold putAt;by_cases e:p.1=k
  ·rw[aV e,aV<|h1.symm.trans e];exact⟨h1,h2,ry⟩
  ·rw[aR e,aR λz=>e<|h1.trans z];exact⟨h1,h2,h3⟩
def KT.put{H:Hp}(r:KT H kvs xs)(k:List Key)(hb:H b=some (.tup<|k.map kV))(ry:RelV y u) :
  KT H (putK kvs k y) (storedH xs k b u):=by
 have e:(kvs.any λkv=>decide<|kv.1=k)=(atKey xs k).isSome:=by
  rw[xV,(r.val k).tX,dG]
 unfold putK storedH;rw[e];by_cases q:(atKey xs k).isSome=true
 ·rw[aV q,aV q];exact r.repl k ry
 ·rw[aR q,aR q];exact Paired.snoc r ⟨rfl,hb,ry⟩
def KT.keeps{H H':Hp}(r:KT H kvs xs)(ht:∀b ys,H b=some (.tup ys)->H' b=some (.tup ys)):KT H' kvs xs:=
 Paired.Xq r λ_ _ z=>⟨z.1,ht _ _ z.2.1,z.2.2⟩
section
variable {P:aj}{w:ah}{H:Hp}{h:aq}{a:ak}
def Wu(ok:xx P w H h)(e:Rd H a u):lC P w H h a u:=e.ok ok
def Ct{kvs:List<|Key×V}(ok:xx P w H h)(e:Rd H a<|.dK kvs):kvs.length<=sizeLine/\(a == sysModules)=false/\∃vs,KV kvs vs/\h.DictOf (lK P w) a vs:=
 show lC P w H h a (.dK kvs)from Wu ok e
def RZ{kvs:List<|Key×V}(ok:xx P w H h)(e:H a=some (.dK kvs)):kvs.length<=sizeLine/\(a == sysModules)=false/\∃vs,KV kvs vs/\h.DictOf (lK P w) a vs:=Ct ok<|.inl e
def uW{ks:List Key}(ok:xx P w H h)(e:H a=some (.tup<|ks.map kV)):(tupleKind<|lK P w).is h ks a:=by
 obtain⟨_,d,r,o,h1,h2,_,n,h3⟩:=(show lC P w H h a (.tup<|ks.map kV)from ok a _ e);exact⟨o,d.toArray,n,h1,h2,h3,by simpa using Cu r⟩
def Ao{kvs:List<|List Key×V}(ok:xx P w H h)(e:Rd H a<|.dT kvs):kvs.length<=sizeLine/\(a == sysModules)=false /\
  ∃xs,KT H kvs xs/\h.DictOfH (tupleKind<|lK P w) a xs:=by
 obtain⟨z,y,xs,r,o,es,ep,h1,h2,h3,g,f⟩:=(show lC P w H h a (.dT kvs)from Wu ok e);refine⟨z,y,xs,r,o,es,ep,h1,h2,h3,g,λx d=>?_,f⟩;have all:∀{l:List<|List Key×V} {m:List<|List Key×ak×af},KT H l m->∀x∈m,(tupleKind<|lK P w).is h x.1 x.2.1:=by
  intro l m q
  induction q with
  | nil=>intro x d;exact nomatch d
  | @cons p q ps k hq t j=>
   intro x d
   rcases bH.mp d with e|d
   ·subst e;exact uW ok (by rw[<- hq.1];exact hq.2.1)
   ·exact j x d
 exact all r x d
def A3{kvs:List<|List Key×V}(ok:xx P w H h)(e:H a=some (.dT kvs)):kvs.length<=sizeLine/\(a == sysModules)=false /\
  ∃xs,KT H kvs xs/\h.DictOfH (tupleKind<|lK P w) a xs:=Ao ok<|.inl e
end
abbrev uX (H:Hp)(a:ak)(y:V)(r:Option V):Prop:=
 (∃kvs k,Rd H a (.dK kvs)/\y=kV k/\r=qX kvs k)\/∃kvs k b,Rd H a (.dT kvs)/\y=.ref b/\H b=some (.tup<|k.map kV)/\r=qX kvs k
abbrev zk (H:Hp)(a:ak)(y v:V)(H':Hp):Prop:=
 (∃kvs k,H a=some (.dK kvs)/\y=kV k/\kvs.length<sizeLine/\H'=upd H a (.dK<|putK kvs k v)) \/
 ∃kvs k b,H a=some (.dT kvs)/\y=.ref b/\H b=some (.tup<|k.map kV)/\kvs.length<sizeLine/\H'=upd H a (.dT<|putK kvs k v)
theorem uX.k{H:Hp}{a:ak}{k:Key}(e:H a=some (.dK kvs)):uX H a (kV k) (qX kvs k):=.inl ⟨kvs,k,.inl e,rfl,rfl⟩
def uX.t{H:Hp}{a:ak}{k:List Key}(e:H a=some (.dT kvs))(eb:H b=some (.tup<|k.map kV)):uX H a (.ref b) (qX kvs k):=.inr ⟨kvs,k,b,.inl e,rfl,eb,rfl⟩
theorem zk.k{H:Hp}{a:ak}{kvs:List<|Key×V}{k:Key}{v:V}(e:H a=some (.dK kvs))(hl:kvs.length<sizeLine):zk H a (kV k) v (upd H a<|.dK<|putK kvs k v):=.inl ⟨kvs,k,e,rfl,hl,rfl⟩
def zk.t{H:Hp}{a:ak}{kvs:List<|List Key×V}{k:List Key}{v:V}(e:H a=some (.dT kvs))(eb:H b=some (.tup<|k.map kV))(hl:kvs.length<sizeLine) :
  zk H a (.ref b) v (upd H a<|.dT<|putK kvs k v):=.inr ⟨kvs,k,b,e,rfl,eb,hl,rfl⟩
section
variable {X:Cx}{pins:bn}{σ:St}{H:Hp}{s:aC}{a:ak}{y v:V}{u r:af}{o:Option V}{A:aA}{E:af->aC->Prop}
def Inv.big(I:Inv X pins σ H s):sysModules<s.heap.objs.size:=by
 have h:mainGlobals<s.heap.objs.size:=(I.mod.glob.keeps I.bk).lt;exact jF ⋯ h
def Lh{Q:af->aC->Prop}(hu:A.units+1<cLine)(I:Inv X pins σ H s)(g:uX H a y<|some v)(ry:RelV y u)(h:∀w' s',Inv X pins σ H s'->RelV v w'->Q w' s') :
  wpAny (model X.prog X.w) A (getItem (.ref a) u) Q E s:=by
 rcases g with⟨kvs,k,e,t,l⟩|⟨kvs,k,b,e,t,B,l⟩
 ·subst t;obtain⟨z,C,F,d,q⟩:=Ct I.hok e;obtain⟨w',hw,f⟩:=yC.some_of (v:=v) (o:=valueAt F k) (by rw[l];exact d.val k);exact wpAny_getItem_of (Bo ry) q.mapOf hw (h w' _ (I.tok _) f)
 ·subst t
  cases(show u=Value.ref b from ry)
  obtain⟨z,C,xs,d,q⟩:=Ao I.hok e;obtain⟨w',hw,f⟩:=yC.some_of (v:=v) (o:=(atKey xs k).map (·.2)) (by rw[l];exact d.val k);obtain⟨p,G,j⟩:=aW.mp hw;refine wpAny_getItem_heap (eV hu) (uW I.hok B) q G ?_;rw[j];exact h w' _ (I.tok _) f
def ab9{Q:af->aC->Prop}(hu:A.units+1<cLine)(I:Inv X pins σ H s)(g:uX H a y o)(ry:RelV y u)(h:∀s',Inv X pins σ H s'->Q (.bool o.isSome) s') :
  wpAny (model X.prog X.w) A (compareOp .In u<|.ref a) Q E s:=by
 rcases g with⟨kvs,k,e,j,l⟩|⟨kvs,k,b,e,j,t,l⟩
 ·subst j;obtain⟨z,p,B,d,f⟩:=Ct I.hok e;refine wpAny_in_of (Bo ry) p f.mapOf ?_;rw[<- (d.val k).tX,<- l];exact h _ (I.tok _)
 ·subst j
  cases(show u=Value.ref b from ry)
  obtain⟨z,p,xs,d,f⟩:=Ao I.hok e;refine wpAny_in_heap (eV hu) (uW I.hok t) p f ?_;have q:=(d.val k).tX;rw[dG]at q;rw[<- q,<- l];exact h _<|I.tok _
def U4{Q:af->aC->Prop}(hu:A.units+1<cLine)(I:Inv X pins σ H s)(g:uX H a y o)(ry:RelV y u)(h:∀s',Inv X pins σ H s'->Q (.bool<|!o.isSome) s') :
  wpAny (model X.prog X.w) A (compareOp .NotIn u<|.ref a) Q E s:=by
 rcases g with⟨kvs,k,e,j,l⟩|⟨kvs,k,b,e,j,t,l⟩
 ·subst j;obtain⟨z,p,B,d,f⟩:=Ct I.hok e;refine wpAny_notIn_of (Bo ry) p f.mapOf ?_;rw[<- (d.val k).tX,<- l];exact h _ (I.tok _)
 ·subst j
  cases(show u=Value.ref b from ry)
  obtain⟨z,p,xs,d,f⟩:=Ao I.hok e;refine wpAny_notIn_heap (eV hu) (uW I.hok t) p f ?_;have q:=(d.val k).tX;rw[dG]at q;rw[<- q,<- l];exact h _<|I.tok _
def uQ{h':aq}{t':Nat}{ob:HO}(I:Inv X pins σ H s)(mu:Mut<|H a)(hs:Heap.SameBut a s.heap h')(he:∃q,h'.get? a=some q)(new:lC X.prog X.w (upd H a ob) h' a ob) :
  Inv X pins σ (upd H a ob) { s with heap:=h',toks:=t' }:=
 I.write (x:=a) (e:=a) mu (.inl rfl) (λb q hb z=>(hs.2 b hb).trans z) he new
def G1{P:aj}{w:ah}{H':Hp}{h':aq}{kvs:List<|Key×V}(z:kvs.length<=sizeLine)(hd:(a == sysModules)=false)(rel:KV kvs vs)(dd:h'.DictOf (lK P w) a vs) :
  lC P w H' h' a (.dK kvs):=⟨z,hd,vs,rel,dd⟩
def Mr{H':Hp}{Q:Unit->aC->Prop}(hu:A.units+1<cLine)(I:Inv X pins σ H s)(g:zk H a y v H')(ry:RelV y u)(rv:RelV v r)(h:∀s',Inv X pins σ H' s'->Q Unit.unit s') :
  wpAny (model X.prog X.w) A (setItem (.ref a) u r) Q E s:=by
 rcases g with⟨kvs,k,e,F,l,p⟩|⟨kvs,k,b,e,F,J,l,p⟩
 ·subst F p;obtain⟨z,t,M,d,C⟩:=RZ I.hok e;have j:M.length<=sizeLine:=by rw[<- d.length];exact z
  have B:(putK kvs k v).length<=sizeLine:=by have:=qy kvs k v;lia
  refine wpAny_setItem_pairs (hsz:=j) (Bo ry) C λh' f hs=>h _ ?_;have N:∃q,h'.get? a=some q:=let⟨q,_,_,hq,_⟩:=f;⟨q,hq⟩
  exact uQ I (by rw[e];exact True.intro) hs N<|G1 B t (d.put k rv) f
 ·subst F p
  cases(show u=Value.ref b from ry)
  obtain⟨z,t,xs,d,C⟩:=A3 I.hok e;have j:xs.length<=sizeLine:=by rw[<- iR d];exact z
  have B:(putK kvs k v).length<=sizeLine:=by have:=qy kvs k v;lia
  refine wpAny_setItem_heap (hsz:=j) (eV hu) (uW I.hok J) C λh' f hs=>h _ ?_;obtain⟨q,es,ep,hq,h2,h3,K,_,L⟩:=f;refine uQ I (by rw[e];exact True.intro) hs ⟨q,hq⟩ ⟨B,t,_,(d.put k J rv).keeps λc ys G=>?_,q,es,ep,hq,h2,h3,K,L⟩;rw[j0<|II G e λz=>nomatch z];exact G
end
def FQ{X:Cx}{H:Hp}{s:aC}{a:ak}(I:Inv X pins σ H s)(g:uX H a y o):s.TypeIs (.ref a) "dict" := by
 rcases g with⟨kvs,k,e,_,_⟩|⟨kvs,k,b,e,_,_,_⟩
 ·obtain⟨_,_,f,_,d⟩:=Ct I.hok e;exact d.typeIs
 ·obtain⟨_,_,xs,_,d⟩:=Ao I.hok e;exact d.typeIs
def OD{P:aj}{w:ah}{H:Hp}(h:aq)(hb:sysModules<h.objs.size):lC P w H (h.push { cls:=.type "dict",data:=.dict #[]}) h.objs.size (.dK []):=
 ⟨bK _,c6.mpr<|cR<|bD hb,[],.nil,Heap.DictOf.new h⟩
def Aq{P:aj}{w:ah}{H:Hp}(h:aq)(hb:sysModules<h.objs.size):lC P w H (h.push { cls:=.type "dict",data:=.dict #[]}) h.objs.size (.dT []):=
 ⟨bK _,c6.mpr<|cR<|bD hb,[],.nil,_,#[],0,bw _ rfl,⟨rfl,rfl,rfl⟩,rfl,rfl,cY⟩
abbrev XZ:TE:=λ_ H Q=>∀p,H p=none->Q (.ref p) (upd H p<|.dK [])
abbrev WL:TE:=λ_ H Q=>∀p,H p=none->Q (.ref p) (upd H p<|.dT [])
section
variable {X:Cx}{pos:Pos}
def PY:PE X (.Dict [] [] pos) XZ:=λpins s σ H Q I h=>
 wpAny_Dict_empty ⟨.ref s.heap.objs.size,_,I.laid (a:=s.heap.objs.size) (o:=.dK []) (t':=s.toks) (λ_ _ q=>aS _ q) (aM _)<|OD s.heap I.big,rfl,h _<|I.hok.fresh<|aM _⟩
def Qw:PE X (.Dict [] [] pos) WL:=λpins s σ H Q I h=>
 wpAny_Dict_empty ⟨.ref s.heap.objs.size,_,I.laid (a:=s.heap.objs.size) (o:=.dT []) (t':=s.toks) (λ_ _ q=>aS _ q) (aM _)<|Aq s.heap I.big,rfl,h _<|I.hok.fresh<|aM _⟩
end
structure M1 (X:Cx)(o:aE)(m:Str)(apos:Pos)(e:aE)(cpos:Pos):Prop where
 base:attributeBase o m X.env (eval o X.env)=eval o X.env
 few:((backTo cpos<|starEach [e] X.env).all (λx=>!x.1) && (backToKw cpos<|keywordEach [] X.env).all (λx=>x.1.isSome)
  && decide (([e]:List aE).length+([]:List Keyword).length+(if ([]:List Keyword).isEmpty then 0 else 1)<30))=true
 line:(apos.endLine == cpos.line)=true
 trees:backTo cpos (starEach [e] X.env)=[(false,eval e X.env)]
structure M2 (X:Cx)(o:aE)(m:Str)(apos:Pos)(e f:aE)(cpos:Pos):Prop where
 base:attributeBase o m X.env (eval o X.env)=eval o X.env
 few:((backTo cpos<|starEach [e,f] X.env).all (λx=>!x.1) && (backToKw cpos<|keywordEach [] X.env).all (λx=>x.1.isSome)
  && decide (([e,f]:List aE).length+([]:List Keyword).length+(if ([]:List Keyword).isEmpty then 0 else 1)<30))=true
 line:(apos.endLine == cpos.line)=true
 trees:backTo cpos (starEach [e,f] X.env)=[(false,eval e X.env),(false,eval f X.env)]
section
variable {X:Cx}{pins:bn}{σ:St}{H:Hp}{s:aC}{a:ak}{y d:V}{u r:af}{o:Option V}{A:aA}{E:af->aC->Prop}
def Xf{Q:af->aC->Prop}(hu:A.units+1<cLine)(I:Inv X pins σ H s)(g:uX H a y o)(ry:RelV y u)(rd:RelV d r)(h:∀w' s',Inv X pins σ H s'->RelV (o.getD d) w'->Q w' s') :
  wpAny (model X.prog X.w) A (call (.builtin "dict.get") [.ref a,u,r]) Q E s:=by
 rcases g with⟨kvs,k,e,p,l⟩|⟨kvs,k,b,e,p,t,l⟩
 ·subst p;obtain⟨z,q,B,f,j⟩:=Ct I.hok e;refine call_meetsIn c8 j.typeIs iu (gU _ _ _) (meets_dict_get_default (lK X.prog X.w) a (Bo ry) q r) ⟨_,j.mapOf,h _ _ (I.tok _) ?_⟩;rw[l];exact(f.val k).getD rd
 ·subst p
  cases(show u=Value.ref b from ry)
  obtain⟨z,q,xs,f,j⟩:=Ao I.hok e;refine call_meetsIn c8 j.typeIs iu (gU _ _ _) (meetsH_dict_get_default (tupleKind<|lK X.prog X.w) a b q r) ⟨eV hu,k,xs,uW I.hok t,j,h _ _ (I.tok _) ?_⟩;rw[l];exact(f.val k).getD rd
end
meta abbrev nG:=ag×ag
abbrev t8 (x:ag):Int:=reduceHash<|Builtin.Tuple.tupleHashOf<|x.map hashInt
abbrev Ju (k:nG):Int:=reduceHash<|Builtin.Tuple.tupleHashOf [t8 k.1,t8 k.2]
abbrev dpE (x:(nG×ak×af)):DictEntry:=⟨Ju x.1,.ref x.2.1,x.2.2⟩
abbrev wV (a:ak)(xs:List<|nG×ak×af)(h:aq):Prop:=(a == sysModules)=false/\xs.length<=sizeLine/\∃o es ep,h.get? a=some o/\o.ExactDict/\o.data=.dict es ep/\es.toList=xs.map dpE/\(xs.map (·.1)).Nodup
abbrev tZ (H:Hp)(b:ak)(k:nG):Prop:=∃r1 r2,H b=some (.tup [.ref r1,.ref r2])/\H r1=some (.tup<|k.1.map V.int)/\H r2=some (.tup<|k.2.map V.int)
section
variable {P:aj}{w:ah}{A:aA}{E:af->aC->Prop}{s:aC}
meta abbrev TK (h:aq)(x:ag)(a:ak):Prop:=∃o d n,h.get? a=some o/\o.cls=.type "tuple" /\ o.data=.seq d n/\IntsAre d.toList x
theorem zY{P:aj}{w:ah}:∀{x:ag}{vs:ba},IntsAre vs x->ItemsAre (intKind P w) x vs
 | _,_,.nil=>.nil
 | _,_,.cons n t h=>.cons (intKind_is _ _ _ _)<|zY h
def w9{x:ag}{a:ak}:TK h x a->IsTupleKey (intKind P w) h x a:=λ⟨o,d,n,h1,h2,h3,f⟩=>⟨o,d,n,h1,h2,h3,zY f⟩
theorem E_:∀{x y:ag}{vs:ba},IntsAre vs x->IntsAre vs y->x=y
 | _,_,_,.nil,.nil=>rfl
 | _,_,_,.cons n t h,.cons _ _ h'=>by rw[E_ h h']
abbrev wF (h:aq)(k:nG)(a:ak):Prop:=∃o n d f,h.get? a=some o/\o.cls=.type "tuple" /\ o.data=.seq #[.ref d,.ref f] n/\TK h k.1 d/\TK h k.2 f
def wF.ty{k:nG}{a:ak}(x:wF s.heap k a):s.TypeIs (.ref a) "tuple" := let⟨o,_,_,_,ho,hc,_⟩:=x;⟨o,ho,hc⟩
def TK.inj{a:ak}{x:ag}(hx:TK h x a)(hy:TK h y a):x=y:=by
 obtain⟨o,j,n,p,_,q,t⟩:=hx;obtain⟨o',f,z,g,_,d,k⟩:=hy;obtain rfl:o=o':=br<|p.symm.trans g;rw[q]at d
 injection d with h1 _
 subst h1;exact E_ t k
def wF.inj{a:ak}{x:nG}(hx:wF h x a)(hy:wF h y a):x=y:=by
 obtain⟨o,n,q,z,k,_,p,h1,h2⟩:=hx;obtain⟨o',B,C,t,g,_,d,j,f⟩:=hy;obtain rfl:o=o':=br<|k.symm.trans g;rw[p]at d
 injection d with e _
 have e:=cV Array.toList e
 injection e with e1 e2
 injection e2 with e2 _
 injection e1 with e1
 injection e2 with e2
 subst e1 e2;exact Prod.ext (h1.inj j)<|h2.inj f
def FE{h:aq}{x:ag}{a d:ak}{o:Obj}{es ep}(k:TK h x a)(ho:h.get? d=some o)(hd:o.data=.dict es ep)(hs:Heap.SameBut d h h'):TK h' x a:=by
 obtain⟨o',g,n,j,hc,f,q⟩:=k;have p:a≠d:=by
  rintro rfl;obtain rfl:o'=o:=br<|j.symm.trans ho;rw[hd]at f;exact nomatch f
 exact⟨o',g,n,(hs.2 a p).trans j,hc,f,q⟩
def wF.keeps{h:aq}{k:nG}{a d:ak}{o:Obj}{es ep}(x:wF h k a)(ho:h.get? d=some o)(hd:o.data=.dict es ep)(hs:Heap.SameBut d h h'):wF h' k a:=by
 obtain⟨o',n,q,p,g,hc,f,h1,h2⟩:=x;have j:a≠d:=by
  rintro rfl;obtain rfl:o'=o:=br<|g.symm.trans ho;rw[hd]at f;exact nomatch f
 exact⟨o',n,q,p,(hs.2 a j).trans g,hc,f,FE h1 ho hd hs,FE h2 ho hd hs⟩
def Lz{k:nG}{a:ak}{Q:Int->aC->Prop}(hu:A.units+8<cLine)(hk:wF s.heap k a)(h:Q (Ju k) { s with toks:=s.toks+(k.1.length+1+(k.2.length+1)+1)}) :
  wpAny (model P w) A (pyHash<|.ref a) Q E s:=by
 have d:=hk.ty;obtain⟨o,n,j,g,p,_,q,h1,h2⟩:=hk;unfold pyHash
 first|unfold pyHashByItsType|skip
 first|refine aH (wpAny_cRoomFor_or (.inr<|by omega) ?_)|skip
 refine aH<|gM d iy.lookup ?_;show wpAny _ _ (if (some (Value.builtin "tuple.__hash__") == some Value.none)=true then _ else _) Q E s;rw[aR<|by rw[beq_builtin_none];exact bF];refine aH<|gM d iy.lookup ?_;show wpAny _ _ (callSpecialIfBoundUnlessNone? (.ref a) "__hash__" _ >>= _) Q E s;refine aH<|wpAny_callSpecialIfBoundUnlessNone?_slot d iy<|cD iy d F.entry_tuple_hash ?_<|F.args_tuple_hash_1 _;show wpAny _ _ (Builtin.Tuple.tupleItemsOf (.ref a) >>= _) _ _ s;refine aH<|jk p q ?_;refine aH ?_;rw[<- jl];refine gz _
  (λrest (b:Array Int) s'=>(rest=[.ref j,.ref g]/\b.toList=[]/\s'=s)\/(rest=[.ref g]/\b.toList=[t8 k.1]/\s'={ s with toks:=s.toks+(k.1.length+1)})\/(rest=[]/\b.toList=[t8 k.1,t8 k.2]/\s'={ s with toks:=s.toks+(k.1.length+1)+(k.2.length+1)}))
  _ ?_ ?_ _ _ (.inl ⟨rfl,rfl,rfl⟩)
 ·rintro x rest b s' (⟨e,hb,rfl⟩|⟨e,hb,rfl⟩|⟨e,_,_⟩)
  ·cases e
   refine aH (wpAny_pyHash_tuple (knd:=intKind P w) (ks:=k.1) (by simp;omega) (w9 h1) ?_)
   first
    | exact aN (.inr<|.inl ⟨rfl,by rw[iz,hb];rfl,rfl⟩)
    | exact aH<|aN<|aN<|.inr<|.inl ⟨rfl,by rw[iz,hb];rfl,rfl⟩
  ·cases e
   refine aH (wpAny_pyHash_tuple (knd:=intKind P w) (ks:=k.2) (by simp;omega) (w9 h2) ?_)
   first
    | exact aN (.inr<|.inr ⟨rfl,by rw[iz,hb];rfl,rfl⟩)
    | exact aH<|aN<|aN<|.inr<|.inr ⟨rfl,by rw[iz,hb];rfl,rfl⟩
  ·cases e
 ·rintro b s' (⟨e,_,_⟩|⟨e,_,_⟩|⟨_,hb,rfl⟩)
  ·cases e
  ·cases e
  ·show wpAny _ _ (retInt<|Builtin.Tuple.tupleHashOf b.toList) _ _ _;rw[hb];refine wpAny_ret_mkInt ?_;show wpAny _ _ (if (decide (-(2:Int) ^ 63<=Builtin.Tuple.tupleHashOf [t8 k.1,t8 k.2]) && decide (Builtin.Tuple.tupleHashOf [t8 k.1,t8 k.2]<2 ^ 63))=true then _ else _) Q E _;unfold Ju reduceHash at h;by_cases f:(decide (-(2:Int) ^ 63<=Builtin.Tuple.tupleHashOf [t8 k.1,t8 k.2]) && decide (Builtin.Tuple.tupleHashOf [t8 k.1,t8 k.2]<2 ^ 63))=true
   ·rw[aV f];rw[aV f]at h;exact aN (by simpa[Nat.add_assoc]using h)
   ·rw[aR f];rw[aR f]at h;exact aH<|gq<|aN<|by simpa[Nat.add_assoc]using h
def Dw{x:nG}{a:ak}{R:Fin->aC->Prop}(hu:A.units+8<cLine)(hx:wF s.heap x a)(hy:wF s.heap y b)(h:R (.done<|.ret<|.bool<|decide<|x=y) s) :
  wpAny (model P w) A (Builtin.«tuple.__eq__» ⟨[.ref a,.ref b],[]⟩) R E s:=by
 have j:=hy.ty;obtain⟨K,na,G,F,B,_,t,h1,h2⟩:=hx;obtain⟨ob,nb,J,C,g,_,k,q,f⟩:=hy;show wpAny _ _ (isInstance (.ref b) (.type "tuple") >>= _) _ _ s;refine aH<|gA j iK ?_;dsimp[b7,bI,cK];refine aH<|jk B t ?_;refine aH<|jk g k ?_;refine aH ?_;refine gz _
  (λrest r s'=>r.1=none/\s'=s/\((rest=[(.ref G,.ref J),(.ref F,.ref C)])\/(rest=[(.ref F,.ref C)]/\x.1=y.1)\/(rest=[]/\x=y)))
  _ ?_ ?_ _ _ ⟨rfl,rfl,.inl rfl⟩
 ·rintro⟨u,v⟩ rest r s' ⟨p,rfl,e|⟨e,hq⟩|⟨e,_⟩⟩
  ·cases e
   refine aH<|wpAny_eqBool_tuple (knd:=intKind P w) (x:=x.1) (y:=y.1) () (w9 h1) (w9 q) ?_;by_cases d:x.1=y.1
   ·rw[bf d];dsimp[b7,bI,cK];exact aN ⟨rfl,rfl,.inr<|.inl ⟨trivial,d⟩⟩
   ·rw[bz d];dsimp[dc,fq];rw[bz λz=>d<|by rw[z]]at h;exact aH<|aN<|aN<|aN h
  ·cases e
   refine aH<|wpAny_eqBool_tuple (knd:=intKind P w) (x:=x.2) (y:=y.2) () (w9 h2) (w9 f) ?_;by_cases d:x.2=y.2
   ·rw[bf d];dsimp[b7,bI,cK];exact aN ⟨rfl,rfl,.inr<|.inr ⟨trivial,Prod.ext hq d⟩⟩
   ·rw[bz d];dsimp[dc,fq];rw[bz λz=>d<|by rw[z]]at h;exact aH<|aN<|aN<|aN h
  ·cases e
 ·rintro⟨r1,r2⟩ s' ⟨p,rfl,e|⟨e,_⟩|⟨_,e⟩⟩
  ·cases e
  ·cases e
  ·simp only at p;subst p;refine aN ?_;rw[bf e]at h;exact h
def UC{x:nG}{a:ak}{Q:Bool->aC->Prop}(hu:A.units+16<cLine)(hx:wF s.heap x a)(hy:wF s.heap y b)(h:Q (decide<|x=y) s):wpAny (model P w) A (eqBool (.ref a)<|.ref b) Q E s:=by
 unfold eqBool
 try with_reducible refine cZ ?_
 show wpAny _ _ (if (Value.ref a == Value.ref b)=true then _ else _) Q E s;by_cases d:(Value.ref a == Value.ref b)=true
 ·rw[aV d];have e:a=b:=by have:=eq_of_beq d;injection this
  subst e;obtain rfl:=hx.inj hy;exact aH<|gq<|aN<|by simpa using h
 ·rw[aR d];exact aH (wpAny_richCompare_same_room (op:=.Eq) hx.ty hy.ty i_
   (cD i_ hx.ty F.entry_tuple_eq (Dw (by simp;lia) hx hy ⟨_,rfl,(λe=>nomatch e),cT h⟩)<|F.args_tuple_eq_2 _ _) ())
def OF{n:Nat}{x:ag}{a:ak}{Q:Bool->aC->Prop}(hk:TK s.heap x a)(h:Q true s):wpAny (model P w) A (eqIsQuiet (n+1)<|.ref a) Q E s:=by
 have hk:=w9 (P:=P) (w:=w) hk;have k:=hk.typeIs;obtain⟨o,f,m,p,_,q,t⟩:=hk;unfold eqIsQuiet;refine aH<|gM k i_.lookup ?_;show wpAny _ _ (isInstance (.ref a) (.type "tuple") >>= _) _ _ s;refine aH<|gA k iK ?_;dsimp[b7,bI,cK];refine aH<|ir p q ?_;refine aH ?_;show wpAny _ _ (forIn f _ _) _ _ s;rw[<- jl];refine gz _ (λrest r s'=>r.1=none/\s'=s/\∀v∈rest,carriedByValue v=true) _ ?_ ?_ _ _ ⟨rfl,rfl,t.byValue⟩
 ·rintro v rest r s' ⟨g,rfl,d⟩;rw[eqIsQuiet_byValue _<|d v aL];refine aH<|aN ?_;dsimp[b7,bI,cK];exact aN ⟨rfl,rfl,λu j=>d u<|aQ _ j⟩
 ·rintro⟨r1,r2⟩ s' ⟨g,rfl,_⟩;simp only at g;subst g;exact aN h
def Hu{k:nG}{a:ak}{Q:Bool->aC->Prop}(hk:wF s.heap k a)(h:Q true s):wpAny (model P w) A (eqIsQuiet 8<|.ref a) Q E s:=by
 have p:=hk.ty;obtain⟨o,m,j,q,t,_,B,h1,h2⟩:=hk;unfold eqIsQuiet;refine aH<|gM p i_.lookup ?_;show wpAny _ _ (isInstance (.ref a) (.type "tuple") >>= _) _ _ s;refine aH<|gA p iK ?_;dsimp[b7,bI,cK];refine aH<|ir t B ?_;refine aH ?_;show wpAny _ _ (forIn (#[Value.ref j,.ref q]:Array af) _ _) _ _ s;rw[<- jl];refine gz _ (λrest r s'=>r.1=none/\s'=s/\∀v∈rest,∃c x,v=Value.ref c/\TK s.heap x c) _ ?_ ?_ _ _ ⟨rfl,rfl,λv hv=>by
  rcases bH.mp hv with e|hv
  ·exact⟨j,k.1,e,h1⟩
  ·exact⟨q,k.2,by simpa using hv,h2⟩⟩
 ·rintro v rest r s' ⟨f,rfl,d⟩;obtain⟨c,x,rfl,z⟩:=d v aL;refine aH<|OF z ?_;dsimp[b7,bI,cK];exact aN ⟨rfl,rfl,λu g=>d u<|aQ _ g⟩
 ·rintro⟨r1,r2⟩ s' ⟨f,rfl,_⟩;simp only at f;subst f;exact aN h
end
abbrev EI (P:aj)(w:ah):HeapKind P w nG where
 is:=wF
 hash:=Ju
 draws:=λk=>k.1.length+1+(k.2.length+1)+1
 room:=λA=>A.units+16<cLine
 inj:=λf hy=>f.inj hy
 keeps:=λx j p hs=>x.keeps j p hs
 pyHash:=λg d h=>Lz () d h
 eqBool:=λg f hy h=>UC g f hy h
 quiet:=λd h=>Hu d h
section
variable {X:Cx}
def DM(hu:X.A.units+1<cLine):Uq X (λx y H Q=>∃a v,x=.ref a/\uX H a y (some v)/\Q v H):=by
 intro j f pins s σ H x y v u Q I rx ry h hs;obtain⟨a,z,rfl,g,q⟩:=h
 cases rx
 have t:=FQ I g;unfold subscriptTail;refine aH ?_;rw[getitemInPython_of_ne t.not_modules];refine aH<|gM t PySem.F.slot_dict_getitem.lookup ?_;have d:wpAny (model X.prog X.w) X.A (subscripted f false (.ref a) u) (λr k=>wpAny (model X.prog X.w) X.A (letTemporaryGo j (.ref a) r >>= λ_=>pure r) (EP X pins σ Q) X.xe k) X.xe s:=by
  rw[hs];exact wpAny_operating<|Lh hu I g ry λC G B p=>aH<|wpAny_letTemporaryGo<|aN ⟨z,H,B,p,q⟩
 first
  | exact aN (aH d)
  | exact aH (aN<|aH d)
  | exact aH d
def Xx(hu:X.A.units+1<cLine):oY X (compareOp .In) (λy x H Q=>∃a o,x=.ref a/\uX H a y o/\Q (.bl o.isSome) H):=by
 intro pins s σ H y x v u Q I ry rx h;obtain⟨a,o,rfl,g,q⟩:=h
 cases rx
 exact ab9 hu I g ry λf d=>⟨.bl o.isSome,H,d,rfl,q⟩
def LS(hu:X.A.units+1<cLine):oY X (compareOp .NotIn) (λy x H Q=>∃a o,x=.ref a/\uX H a y o/\Q (.bl<|!o.isSome) H):=by
 intro pins s σ H y x v u Q I ry rx h;obtain⟨a,o,rfl,g,q⟩:=h
 cases rx
 exact U4 hu I g ry λf d=>⟨.bl<|!o.isSome,H,d,rfl,q⟩
def set_dict(hu:X.A.units+1<cLine):E2 X (λo i v H Q=>∃a H',o=.ref a/\zk H a i v H'/\Q H'):=by
 intro pins s σ H o i v p iv u Q I d f j h;obtain⟨a,H',rfl,g,q⟩:=h
 cases d
 exact Mr hu I g f j λt k=>⟨H',k,q⟩
abbrev Ww (tk tv:TE):TE:=λσ H Q=>∀p,H p=none->tk σ (upd H p<|.dT []) λx H1=>tv σ H1 λy H2=>H2 p=some (.dT [])/\∃b ks,x=.ref b/\H2 b=some (.tup<|ks.map kV)/\Q (.ref p) (upd H2 p<|.dT [(ks,y)])
def Sa{k v:aE}{tk tv:TE}(hu:X.A.units+1<cLine)(hk:PE X k tk)(hv:PE X v tv):PE X (.Dict [some k] [v] pos) (Ww tk tv):=by
 intro pins s σ H Q I q;have hn:=I.hok.fresh<|aM s.heap.objs.size;have J:=I.laid (a:=s.heap.objs.size) (o:=.dT []) (h':=s.heap.push { cls:=.type "dict",data:=.dict #[]}) (t':=s.toks) (λ_ _ q=>aS _ q) (aM _)<|Aq s.heap I.big;refine wpAny_Dict_any rfl rfl (by simp) (show 1<=15 by decide) ?_;refine pairTrees_cons_walk<|nL (hk pins _ σ _ _ J<|q _ hn) λkv G ⟨x,H1,M,rx,C⟩=>nL (hv pins G σ H1 _ M C) λvv O ⟨y,H2,g,ry,e,b,ks,ex,p,B⟩=>pairTrees_nil_walk ?_;subst ex
 cases rx
 obtain⟨z,K,xs,f,N⟩:=A3 g.hok e
 cases f
 unfold storeAll;rw[jK];refine aH (aH<|wpAny_dictSet_heap (hsz:=by simp) (show X.A.units<cLine by lia) (uW g.hok p) N λh' d hs=>aN ?_);dsimp only;rw[jj];refine aN ⟨.ref s.heap.objs.size,_,?_,rfl,B⟩;obtain⟨t,es,ep,hq,h2,h3,F,_,L⟩:=d;refine uQ g (by rw[e];exact True.intro) hs ⟨t,hq⟩ ⟨by show 1<=sizeLine;decide,K,_,(KT.put (kvs:=[]) .nil ks p ry).keeps λc ys j=>?_,t,es,ep,hq,h2,h3,F,L⟩;rw[j0<|II j e λz=>nomatch z];exact j
abbrev aaR:V->List V->Hp->VK->Prop:=λx d H Q=>∃a b ks kvs y,x=.ref a/\d=[.ref b,y]/\H a=some (.dT kvs)/\H b=some (.tup<|ks.map kV)/\Q ((qX kvs ks).getD y) H
def Vh(hu:X.A.units+1<cLine):ZG X "dict.get" aaR:=by
 intro pins s σ H x J v us Q I rx f h;obtain⟨a,b,ks,kvs,y,rfl,rfl,C,t,q⟩:=h
 cases rx
 cases f with
 | @cons _ F _ CT r1 f=>
  cases f with
  | @cons _ p _ Eo r2 f=>
   cases f
   cases r1
   obtain⟨z,B,xs,g,j⟩:=A3 I.hok C;refine call_meetsIn c8 j.typeIs iu (gU _ _ _) (meetsH_dict_get_default (tupleKind<|lK X.prog X.w) a b B p) ⟨eV hu,ks,xs,uW I.hok t,j,?_⟩;refine⟨(qX kvs ks).getD y,H,I.tok _,?_,q⟩;have d:=g.val ks
   cases e1:qX kvs ks with
   | none=>
    rw[e1]at d
    cases e2:(atKey xs ks).map (·.2)with
    | none=>exact r2
    | some k=>rw[e2]at d;exact d.elim
   | some G=>
    rw[e1]at d
    cases e2:(atKey xs ks).map (·.2)with
    | none=>rw[e2]at d;exact d.elim
    | some k=>rw[e2]at d;exact d
end
section
theorem kt_at{H:Hp}:∀{kvs:List<|List Key×V}{xs:List<|List Key×ak×af},KT H kvs xs->kvs.length=xs.length/\∀(i:Nat) (p:List Key×V),kvs[i]?=some p->∃y:List Key×ak×af,xs[i]?=some y/\p.1=y.1/\H y.2.1=some (.tup<|p.1.map kV)/\RelV p.2 y.2.2
 | [],[],_=>⟨rfl,λi p h=>by simp at h⟩
 | [],_::_,r=>nomatch r
 | _::_,[],r=>nomatch r
 | a::kvs,b::xs,.cons z r=>by
  obtain⟨l,q⟩:=kt_at r;refine⟨by simp[l],λi p h=>?_⟩
  cases i with
  | zero=>
   have:a=p:=by simpa using h
   subst this;exact⟨b,rfl,z⟩
  | succ i=>exact q i p<|by simpa using h
end
abbrev C0 (e:ak)(h:aq):Prop:=∃o d,h.get? e=some o/\o.data=.fields d/\d[2]?=some .none/\o.dict=none
structure Fly (l:List Env)(g:aq)(pn:bn)(H:Hp)(e:ak)(cls:af)(h:aq):Prop where
 ex:∃(B:aq) (a0:af),Heap.FlyingW B l e cls a0 h/\(∀a u,H a=some u->∃o,B.get? a=some o)/\(∀b o,g.get? b=some o->b∉frs l->∃o',B.get? b=some o')/\(∀p∈pn,∃o',B.get? p.1=some o')/\C0 e h
structure Made (X:Cx)(H:Hp)(e:ak)(cls:af)(g:aq)(h:aq):Prop where
 ex:∃(g':aq) (vs:ba),Heap.MadeExcOf g' h e cls vs/\g'.FunFrames X.base X.stack/\(∀a u,H a=some u->∃o,g'.get? a=some o)/\(∀b o,g.get? b=some o->∃o',g'.get? b=some o')/\(∀p∈X.pn,∃o',g'.get? p.1=some o')
abbrev Wy (X:Cx)(H:Hp)(e:ak)(cls:af)(s':aC):Prop:=Made X H e cls X.s₀.heap s'.heap\/Fly X.stack X.s₀.heap X.pn H e cls s'.heap
section
abbrev EX (X:Cx):XK:=λcls _ H'=>X.ex=[]/\∀pins d s' e,Inv X pins d H' s'->Wy X H' e cls s'->X.xe (.ref e) s'
end
inductive FParts (X:Cx):List aE->List (Str ⊕ TE)->Prop
 | nil:FParts X [] []
 | txt {x:Str} {j pos} {es:List aE} {ps:List<|Str ⊕ TE} (h:FParts X es ps):FParts X (.Constant (.str x) j pos::es) (.inl x::ps)
 | val {e:aE} {pos:Pos} {t:TE} {es:List aE} {ps:List<|Str ⊕ TE} (he:PE X e t) (h:FParts X es ps):FParts X (.FormattedValue e (-1) none pos::es) (.inr t::ps)
abbrev xu:HO:=.ext λ_=>True
structure XO (C:ak)(o:Obj):Prop where
 cls:o.cls=.ref C
 dict:o.dict=none
 ctx:∃vs,o.data=.fields vs/\vs[2]?=some .none
structure Fr0 (X:Cx)(e:ak):Prop where
 no:∀o,X.s₀.heap.get? e≠some o
 tup:∀xs,X.H₀ e≠some (.tup xs)
 frz:∀o u,X.H₀ e≠some (.frz o u)
 tbl:∀ps,X.H₀ e≠some (.tbl ps)
abbrev mroIn (K:au)(C:ak):Option (ba):=match K.lookup C with
 | some ⟨.type "type",_,.cls cd,sl⟩=>(match cd.mro,sl.toList with
  | .ref C'::bm,[_,_,_,_,some<|.builtin _,_]=>if C'=C/\cd.hasDel=false then some bm else none
  | _,_=>none)
 | _=>none
structure ClsAt (h:aq)(C:ak)(bm:ba):Prop where
 ex:∃nm q N bs hdct sn sub ab col dd k0 k1 k2 k3 k5 newId,h.get? C=some (excClassObj nm q C N bs bm hdct sn sub ab col dd k0 k1 k2 k3 k5 newId)
open PySem.W in
structure XCls (K:au)(C:ak):Prop where
 ga:findIn K (.ref C) "__getattribute__" = some (some<|.builtin "BaseException.__getattribute__")
 gt:findIn K (.ref C) "__getattr__" = some none
 fc:findObj K C none "__class__" = some (.bind (.builtin "getset_descriptor.__get__")<|.builtin "object.__class__")
 ob:PySem.W.mroIn K C (.type "object")=some true
 bs:subIn K (.ref C) (.type "BaseException")=some true
abbrev Y7 (A:aA):aA:={ A with handled:=none }
abbrev abv (k:Nat)(A:aA):Prop:=Room k<|Y7 A
structure Hnd (A:aA)(H:Hp)(e:ak)(oe:Obj)(C:ak):Prop where
 hh:A.handled=some (.ref e)
 h0:H e=some (.frz oe xu)
 xo:XO C oe
structure FnOkH (P:aj)(w:ah)(K:au)(mg:Str->bd)(base:aq)(k:Nat)(f:ak)(fd:FuncData)(ps:ar)(sp:Sp):Prop where
 len:∀vs H Q E,sp vs H Q E->vs.length=ps.length
 run:∀(A:aA) (outer:List Env) (s:aC) (H:Hp) (args:Args) (us:ba) (vs:List V) (Q:VK) (e:ak) (oe:Obj) (C:ak),abv k A->Hnd A H e oe C->Env0 P w K mg base A outer s H->BindsTo s fd args (ps.zip us)->Vals vs us->sp vs H Q E0 ->
  codeAny (model P w) A (.call (.ref f) args) (CR qz outer P w H s Q E0) s
def QK{X:Cx}{i:Nat}{spos:Pos}{iter:aE}{N:ar}{wi:TI}{g:TG}{tc:TT}{te:TE}
  (hN:X.N.Nodup) (hi':X.N[i]?=some y) (hx:Loc X.env.scope y) (hc:X.calm=true) (S:CpScope X scope N cap) (hi:PI X tg iter wi)
  (hg:∀C s₀ H₀ ex,PG (lE X scope N C s₀ H₀ ex) tg g) (ht:∀C s₀ H₀ ex,N7 (lE X scope N C s₀ H₀ ex) ifs tc) (he:∀C s₀ H₀ ex,PE (lE X scope N C s₀ H₀ ex) elt te)
  (hsw:swapsWith (.ListComp elt [⟨tg,iter,ifs,0⟩] scope pos) (some<|.Name y py) spos.line X.env=pure true)
  (hf:X.fn y=true\/X.env.scope.names.lookup y=some .local) (hs:∀x,foldedSetIterable iter X.env x=pure x:=by intro _;rfl) :
  PS X (.Assign [.Name y py] (.ListComp elt [⟨tg,iter,ifs,0⟩] scope pos) spos) (Nz (tLC cap wi g tc te)<|H_ i):=by
 mg_lt;rw[exec_Assign_Name_used _ _ _ _ hsw];refine aH (fy<|aH ?_)
 skip
 refine aH<|fN (JX (ok:=λY=>Y.calm=true) (Q':=λ_ s'=>SP X pins D .next s') S (λ_ _ _ _ _=>hc) (PI.g hi) hg ht he hs pins s σ H _ I h ?_) (λ_ s' hq=>aN<|aN hq) λ_ _ e=>e;intro B C J M m hn j inv q v;have P:=inv B.heap<|Heap.SameBut.refl _ _;obtain⟨F,f⟩:∃o,B.heap.get? C=some o/\∀v,o.data≠.cell v:=by
  obtain⟨o,es,ep,e,d,_⟩:=hn;exact⟨o,e,λv z=>by rw[d]at z;cases z⟩
 have O:=P.pinned (fp:=[C]) (λb hb=>by rw[aP]at hb;rw[hb];exact j) (λb hb=>by rw[aP]at hb;rw[hb];exact⟨F,f⟩)
 skip
 refine nL (DU hN hi' hx hf _ B σ M (.ref J) (.ref J) _ O rfl q) λ_ U h9=>?_;obtain⟨t,G,p,T⟩:=h9;have L:=p.pin (C,F)<|bL _<|bL _<|nR (aP.mpr rfl) f.1;refine⟨m,hn.at' λo e=>by rw[f.1]at e;cases e;exact L.1,λh' k=>?_⟩;have K:∀c v,G c=some v->c≠C:=λc v e z=>by rw[z,L.2.1]at e;cases e
 refine⟨t,G,?_,T⟩;refine p.sd.Ky (ch:=[C]) rfl ⟨λb o e n hb hx=>?_,λb o e n hb hx=>?_,λb o e n hx=>n,λb o e hx=>?_,λ_ _ e=>e,λ_ _ _ e=>e,λ_ _ e=>⟨#[],by rw[Array.append_empty];exact e⟩⟩ ?_ p.bare ?_
 ·exact k.extBut b o (by simpa using hx) e
 ·exact⟨o.slots,k.extBut b o (by simpa using hx) e⟩
 ·exact⟨o,k.extBut b o (by simpa using hx) e⟩
 ·intro b o e;refine(p.hok b o e).stay (λc v hc q=>k.extBut c v ?_ q) (λ_ q=>q) λ_ _ q=>q
  rcases hc with z|z
  ·rw[z];exact K b o e
  ·exact K c _ z
 ·intro b hb;rw[aP]at hb;rw[hb];exact⟨j.2.2.2.1,j.2.1,j.2.2.2.2.1,j.2.2.2.2.2⟩
end L2
namespace Sx
open PySem PyProof.Rows
structure Ord where
 lt:Nat->Nat->Bool
 Mu:∀i,lt i i=false
 tr:∀i j k,lt i j=true->lt j k=true->lt i k=true
 neg:∀i j k,lt i k=true->lt i j=true\/lt j k=true
abbrev P (o:Ord)(i j:Nat):Prop:=o.lt i j=true\/(o.lt j i=false/\i<j)
def Ord.acB(o:Ord)(h:o.lt i j=true):o.lt j i=false:=by
 cases e:o.lt j i with
 | false=>rfl
 | true=>have:=o.tr _ _ _ h e;rw[o.Mu]at this;cases this
def P.Mu(h:P o i i):False:=by
 rcases h with h|⟨_,h⟩
 ·rw[o.Mu]at h;cases h
 ·lia
def P.trans{k:Nat}(a:P o i j)(b:P o j k):P o i k:=by
 rcases a with a|⟨a,f⟩
 ·rcases b with b|⟨b,d⟩
  ·exact .inl (o.tr _ _ _ a b)
  ·rcases o.neg i k j a with z|z
   ·exact .inl z
   ·rw[b]at z;cases z
 ·rcases b with b|⟨b,d⟩
  ·rcases o.neg j i k b with z|z
   ·rw[a]at z;cases z
   ·exact .inl z
  ·refine .inr ⟨?_,()⟩
   cases e:o.lt k i with
   | false=>rfl
   | true=>
    rcases o.neg k j i e with z|z
    ·rw[b]at z;cases z
    ·rw[a]at z;cases z
def P.of_lt{o:Ord}(h:o.lt i j=true):P o i j:=.inl h
def P.Jm{o:Ord}(h:o.lt j i=false)(hij:i<j):P o i j:=.inr ⟨h,hij⟩
def P.ge{o:Ord}(h:P o i j):o.lt j i=false:=by
 rcases h with h|⟨h,_⟩
 ·exact o.acB h
 ·exact h
abbrev So (o:Ord)(g:Nat->Nat)(a b:Nat):Prop:=∀i j,a<=i->i<j->j<b->P o (g i) (g j)
abbrev Cl (g:Nat->Nat)(a b:Nat):Prop:=∀i,a<=i->i<b->a<=g i/\g i<b
abbrev rev (g:Nat->Nat)(i j:Nat):Nat->Nat:=λk=>if i<=k/\k<j then g (i+j-1-k)else g k
abbrev mv (g:Nat->Nat)(src dst:Nat):Nat->Nat:=λk=>if k=dst then g src else if dst<k/\k<=src then g (k-1)else g k
def zT{g:Nat->Nat}{k:Nat}(h:i<=k)(h2:k<j):rev g i j k=g (i+j-1-k):=aV ⟨h,h2⟩
def rz{g:Nat->Nat}{k:Nat}(h:k<i\/j<=k):rev g i j k=g k:=aR ()
def QO{g:Nat->Nat}{d:Nat}:mv g s d d=g s:=aV rfl
def Fp{g:Nat->Nat}{d k:Nat}(h:d<k)(h2:k<=s):mv g s d k=g (k-1):=by
 unfold mv;rw[aR (),aV ⟨h,h2⟩]
def Dh{g:Nat->Nat}{d k:Nat}(hd:d<=s)(h:k<d\/s<k):mv g s d k=g k:=by
 unfold mv;rw[aR (),aR ()]
section
variable {prog:aj}{w:ah}{A:aA}{E:af->aC->Prop}{s:aC}{o:Ord}{N:Nat}{f:Nat->Keyed}{kd:SortKind}{g:Nat->Nat}{p:Array (Nat×Nat×Nat)}{st:SortSt}
abbrev Sk (prog:aj)(w:ah)(A:aA)(s:aC)(o:Ord)(N:Nat)(f:Nat->Keyed)(kd:SortKind):Prop:=
 ∀i j,i<N->j<N->∀(d:af->aC->Prop) (Q:Bool->aC->Prop),Q (o.lt i j) s->wpAny (model prog w) A (keyLt' kd (f i).1 (f j).1) Q d s
structure Sg (N:Nat)(f:Nat->Keyed)(kd:SortKind)(g:Nat->Nat)(p:Array (Nat×Nat×Nat))(st:SortSt):Prop where
 size:(arrOf st).size=N
 get:∀i,i<N->(arrOf st)[i]?=some (f<|g i)
 lt:∀i,i<N->g i<N
 kind:kindOf st=kd
 failed:failedOf st=none
 pend:pendingOf st=p
def WR(C:Sk prog w A s o N f kd)(hk:kindOf st=kd)(hi:i<N)(hj:j<N){Q:bi->SortSt->Prop}(q:Q (some<|o.lt i j) st):wpS (model prog w) A E s (lt' (f i)<|f j) Q st:=by
 rw[lt'_eq];refine cG<|wpS_get ?_;rw[hk];refine cG<|wpS_lift<|iT<|C i j hi hj _ _ ⟨rfl,?_⟩;exact dP q
def FA{xs:Array Keyed}{i:Nat}{x:Keyed}(e:xs[i]?=some x){Q:Keyed->SortSt->Prop}(q:Q x st):wpS (model prog w) A E s (elem' xs i) Q st:=by
 rw[elem'_eq,e];exact dP q
def yf(C:Sk prog w A s o N f kd)(h:Sg N f kd g p st)(hi:i<N)(hj:j<N){Q:bi->SortSt->Prop}(q:Q (some<|o.lt (g i)<|g j) st):wpS (model prog w) A E s (ltAt' i j) Q st:=by
 rw[ltAt'_eq];refine cG (wpS_get ?_)
 skip
 exact cG<|FA (h.get i hi)<|cG<|FA (h.get j hj)<|WR C h.kind (h.lt i hi) (h.lt j hj) q
def Sg.arr(h:Sg N f kd g p st){xs:Array Keyed}{g':Nat->Nat}(hs:xs.size=N)(hg:∀i,i<N->xs[i]?=some (f<|g' i))(hl:∀i,i<N->g' i<N):Sg N f kd g' p (setArr st xs):=⟨hs,hg,hl,h.kind,h.failed,h.pend⟩
def zJ(h:Sg N f kd g p st)(hj:j<=N){Q:Unit->SortSt->Prop}(q:∀st',Sg N f kd (rev g i j) p st'->Q Unit.unit st'):wpS (model prog w) A E s (reverseSlice' i j) Q st:=by
 rw[reverseSlice'_eq];refine wpS_modify (q _<|h.arr (by rw[mirror_size];exact h.size) (λk d=>?_) λk d=>?_)
 ·rw[getElem?_mirror_all<|by rw[h.size];exact hj];unfold rev;by_cases c:i<=k/\k<j
  ·rw[aV c,aV c];exact h.get _ (by omega)
  ·rw[aR c,aR c];exact h.get _ d
 ·unfold rev;by_cases c:i<=k/\k<j
  ·rw[aV c];exact h.lt _ (by omega)
  ·rw[aR c];exact h.lt _ d
def Y_(h:Sg N f kd g p st){a:Nat}(ha:a<N)(hb:b<=a){Q:Unit->SortSt->Prop}(q:∀st',Sg N f kd (mv g a b) p st'->Q Unit.unit st'):wpS (model prog w) A E s (moveDown' a b) Q st:=by
 rw[moveDown'_eq];refine wpS_modify (q _<|h.arr (by rw[bubble_size];exact h.size) (λk d=>?_) λk d=>?_)
 ·rw[getElem?_bubble (by rw[h.size];exact ha) _ (),show a-(a-b)=b by lia];unfold mv;by_cases c:k=b
  ·rw[aV c,aV c];exact h.get _ ha
  ·rw[aR c,aR c];by_cases c2:b<k/\k<=a
   ·rw[aV c2,aV c2];exact h.get _ ()
   ·rw[aR c2,aR c2];exact h.get _ d
 ·unfold mv;by_cases c:k=b
  ·rw[aV c];exact h.lt _ ha
  ·rw[aR c];by_cases c2:b<k/\k<=a
   ·rw[aV c2];exact h.lt _ ()
   ·rw[aR c2];exact h.lt _ d
structure Rn (o:Ord)(g0 g:Nat->Nat)(a b:Nat):Prop where
 out:∀i,i<a\/b<=i->g i=g0 i
 cl:Cl g a b
 so:So o g a b
def Ze{g0:Nat->Nat}{lo k l:Nat}(R:Rn o g0 g lo<|lo+k)(hk:g (lo+k)=lo+k)(hl:l<=k)(h1:∀i,i<l->P o (g<|lo+i) (lo+k))(h2:∀i,l<=i->i<k->P o (lo+k) (g<|lo+i)):Rn o g0 (mv g (lo+k)<|lo+l) lo (lo+(k+1)) where
 out i hi:=by rw[Dh () ()];exact R.out i ()
 cl i a b:=by
  by_cases c:i=lo+l
  ·subst c;rw[QO,hk];lia
  ·by_cases c2:lo+l<i
   ·rw[Fp c2 ()];have:=R.cl (i-1) () ()
    lia
   ·rw[Dh () ()];have:=R.cl i () ()
    lia
 so i j a b d:=by
  by_cases c:i=lo+l
  ·subst c;rw[QO,Fp b (),hk];have:=h2 (j-1-lo) () ()
   rwa [show lo+(j-1-lo)=j-1 by lia]at this
  ·by_cases c2:lo+l<i
   ·rw[Fp c2 (),Fp () ()];exact R.so _ _ () () ()
   ·rw[Dh (k:=i) () ()];by_cases c3:j=lo+l
    ·subst c3;rw[QO,hk];have:=h1 (i-lo) ()
     rwa [show lo+(i-lo)=i by lia]at this
    ·by_cases f:lo+l<j
     ·rw[Fp f ()];exact R.so _ _ () () ()
     ·rw[Dh () ()];exact R.so _ _ () () ()
def W9(C:Sk prog w A s o N f kd){g0:Nat->Nat}{lo n ok:Nat}(h:Sg N f kd g p st)(hn:lo+n<=N)(h1:1<=ok)(hok:ok<=n)(R:Rn o g0 g lo<|lo+ok)(hid:∀i,lo+ok<=i->i<lo+n->g0 i=i)
  {Q:Bool->SortSt->Prop} (q:∀g' st',Sg N f kd g' p st'->Rn o g0 g' lo (lo+n)->Q true st'):wpS (model prog w) A E s (binarySort' lo n ok) Q st:=by
 rw[binarySort'_eq,show max ok 1=ok by lia];refine cG (wpS_mono (iA (I:=λk c st'=>c=(none,Unit.unit)/\∃g',Sg N f kd g' p st'/\Rn o g0 g' lo (lo+min k n))
  (Q:=λc st'=>c=(none,Unit.unit)/\∃g',Sg N f kd g' p st'/\Rn o g0 g' lo (lo+n)) ?step ?fin ?init) ?post)
 case post=>
  rintro c st' ⟨rfl,g',h',j⟩;exact dP<|q g' st' h' j
 case init=>exact⟨rfl,g,h,by rw[show min ok n=ok by lia];exact R⟩
 case fin=>
  rintro c st' ⟨hc,g',h',j⟩;exact⟨hc,g',h',by rwa [show min (max ok n) n=n by lia]at j⟩
 case step=>
  rintro k c st' O V ⟨rfl,g',h',j⟩;rw[show min k n=k by lia]at j;have K:g' (lo+k)=lo+k:=by rw[j.out _ ()];exact hid _ () ()
  refine cG (wpS_mono (iA (I:=λx c B=>B=st'/\∃u v,c=(none,u,v)/\u<=v/\v<=k/\v-u<=k-x /\
    (∀i,i<u->P o (g'<|lo+i) (lo+k))/\(∀i,v<=i->i<k->P o (lo+k) (g'<|lo+i)))
   (Q:=λc B=>B=st'/\∃u v,c=(none,u,v)/\u<=k /\
    (∀i,i<u->P o (g'<|lo+i) (lo+k))/\(∀i,u<=i->i<k->P o (lo+k) (g'<|lo+i))) ?istep ?ifin ?iinit) ?ipost)
  case iinit=>exact⟨rfl,0,k,rfl,(),(),(),λi Y=>(),λi h1 h2=>()⟩
  case ifin=>
   rintro c B ⟨rfl,u,v,rfl,G,z,M,low,top⟩;have:u=v:=()
   subst this;exact⟨rfl,u,u,rfl,z,low,top⟩
  case istep=>
   rintro x c B _ T ⟨rfl,u,v,rfl,G,z,M,low,top⟩;dsimp only;by_cases F:u>=v
   ·rw[aV F];have:u=v:=()
    subst this;exact dP ⟨rfl,u,u,rfl,z,low,top⟩
   ·rw[aR F];have W:(u+v) / 2<k:=()
    have L:=j.cl (lo+(u+v) / 2) () ();refine cG<|yf C h' () () ?_;rw[K]
    cases d:o.lt (lo+k) (g'<|lo+(u+v) / 2)
    case true=>
     dsimp[fq];refine dP ⟨rfl,u,(u+v) / 2,rfl,(),(),(),low,λi h1 h2=>?_⟩;by_cases c:i=(u+v) / 2
     ·subst c;exact .inl d
     ·exact(P.of_lt d).trans (j.so _ _ () () ())
    case false=>
     dsimp[bI,cK];refine dP ⟨rfl,(u+v) / 2+1,v,rfl,(),(),(),λi h1=>?_,top⟩;have t:=P.Jm d L.2;by_cases c:i=(u+v) / 2
     ·subst c;exact t
     ·exact(j.so _ _ () () ()).trans t
  case ipost=>
   rintro c B ⟨rfl,u,v,rfl,J,low,top⟩;dsimp only;refine cG<|Y_ h' () () λU h3=>?_;refine dP ⟨rfl,_,h3,?_⟩;rw[show min (k+1) n=k+1 by lia];exact Ze j K J low top
end
meta abbrev As:=Option (bj)×Nat
meta abbrev Ds:=Option (bj)×Nat×Nat
abbrev Nm (lo a nrem:Nat):StateT SortSt Sem As:=
 forIn [a:nrem] ((none,a):As) λ_ c=>do
  let x <- ltAt' (lo+c.2) (lo+c.2-1)
  match x with
  | some b=>if b=true then pure (ForInStep.done (none,c.2))else pure (ForInStep.yield (none,c.2+1))
  | _=>pure<|ForInStep.done (some none,c.2)
abbrev EF (lo n nrem:Nat):StateT SortSt Sem (bj):=do
 reverseSlice' lo (lo+n)
 let c <- Nm lo n nrem
 match c.1 with
 | some r=>pure r
 | none=>pure<|some c.2
abbrev Us (lo n nrem:Nat):StateT SortSt Sem Ds:=
 forIn [n:nrem] ((none,n,0):Ds) λ_ c=>do
  let x <- ltAt' (lo+c.2.1) (lo+c.2.1-1)
  match x with
  | some b=>
   if b=true then
    if c.2.2>0 then do
     reverseSlice' (lo+c.2.1-(c.2.2+1)) (lo+c.2.1)
     pure (ForInStep.yield (none,c.2.1+1,0))
    else pure (ForInStep.yield (none,c.2.1+1,0))
   else do
    let x <- ltAt' (lo+c.2.1-1) (lo+c.2.1)
    match x with
    | some b=>
     if b=true then pure (ForInStep.done (none,c.2.1,c.2.2))
     else pure (ForInStep.yield (none,c.2.1+1,c.2.2+1))
    | _=>pure<|ForInStep.done (some none,c.2.1,c.2.2)
  | _=>pure<|ForInStep.done (some none,c.2.1,c.2.2)
abbrev Rj (lo n nrem:Nat):StateT SortSt Sem (bj):=do
 liftM (rule "list.sort.descending-run")
 let c <- Us lo (n+1) nrem
 match c.1 with
 | some r=>pure r
 | none=>
  if c.2.2>0 then do
   reverseSlice' (lo+c.2.1-(c.2.2+1)) (lo+c.2.1)
   EF lo c.2.1 nrem
  else EF lo c.2.1 nrem
def count_eq(lo nrem:Nat):countRun' lo nrem=(do
  let c <- Nm lo 1 nrem
  match c.1 with
  | some r=>pure r
  | none=>
   if (c.2 == nrem)=true then pure (some c.2)
   else if c.2>1 then do
    let x <- ltAt' lo (lo+c.2-1)
    match x with
    | some b=>if b=true then pure (some c.2)else do
      reverseSlice' lo (lo+c.2)
      Rj lo c.2 nrem
    | _=>pure none
   else Rj lo c.2 nrem):=by
 rw[countRun'_eq];dsimp only;unfold Rj EF Us Nm;congr 1
 funext c
 obtain⟨r,n⟩:=c
 cases r with
 | some r=>rfl
 | none=>
  dsimp only;split
  ·rfl
  ·split
   ·congr 1
    funext x
    cases x with
    | none=>rfl
    | some b=>
     dsimp only;split
     ·rfl
     ·congr 1
      funext _r
      congr 1
      funext _u
      congr 1;congr 1
      funext s2
      obtain⟨r2,g,j⟩:=s2
      cases r2 with
      | some r2=>rfl
      | none=>
       dsimp only;split
       ·congr 1
        funext _v
        congr 1
        funext _w
        congr 1
        funext s3
        obtain⟨d,f⟩:=s3
        cases d<;>rfl
       ·congr 1
        funext _w
        congr 1
        funext s3
        obtain⟨d,f⟩:=s3
        cases d<;>rfl
   ·congr 1
    funext _u
    congr 1;congr 1
    funext s2
    obtain⟨r2,g,j⟩:=s2
    cases r2 with
    | some r2=>rfl
    | none=>
     dsimp only;split
     ·congr 1
      funext _v
      congr 1
      funext _w
      congr 1
      funext s3
      obtain⟨d,f⟩:=s3
      cases d<;>rfl
     ·congr 1
      funext _w
      congr 1
      funext s3
      obtain⟨d,f⟩:=s3
      cases d<;>rfl
section
variable {prog:aj}{w:ah}{A:aA}{E:af->aC->Prop}{s:aC}{o:Ord}{N:Nat}{f:Nat->Keyed}{kd:SortKind}{g g0:Nat->Nat}{p:Array (Nat×Nat×Nat)}{st:SortSt}
def Rn.snoc{a:Nat}(R:Rn o g0 g a b)(hab:a<b)(hb:g b=b)(h:o.lt b (g<|b-1)=false):Rn o g0 g a (b+1) where
 out i hi:=R.out i ()
 cl i h1 h2:=by
  by_cases c:i=b
  ·subst c;lia
  ·have:=R.cl i h1 ();lia
 so i j h1 h2 h3:=by
  by_cases c:j=b
  ·subst c;rw[hb];have l:=R.cl (j-1) () ();have d:P o (g<|j-1) j:=P.Jm h l.2;by_cases c2:i=j-1
   ·subst c2;exact d
   ·exact(R.so i (j-1) h1 () ()).trans d
  ·exact R.so i j h1 h2 ()
def RM(C:Sk prog w A s o N f kd){lo a:Nat}(h:Sg N f kd g p st)(hn:lo+nrem<=N)(h1:1<=a)(han:a<=nrem)(R:Rn o g0 g lo<|lo+a)(hid:∀i,lo+a<=i->i<lo+nrem->g0 i=i)
  {Q:As->SortSt->Prop} (q:∀n,a<=n->n<=nrem->Rn o g0 g lo (lo+n)->(n=nrem\/o.lt (lo+n) (g<|lo+n-1)=true)->Q (none,n) st):wpS (model prog w) A E s (Nm lo a nrem) Q st:=by
 unfold Nm;refine iA (I:=λx c d=>d=st/\c=(none,x)/\Rn o g0 g lo (lo+x)) ?step ?fin ⟨rfl,rfl,R⟩
 case fin=>
  rintro c d ⟨rfl,rfl,j⟩;rw[show max a nrem=nrem by lia]at j ⊢;exact q nrem han (aM _) j<|.inl rfl
 case step=>
  rintro x c d k B ⟨rfl,rfl,j⟩;dsimp only;have t:g (lo+x)=lo+x:=by rw[j.out _ ()];exact hid _ () ()
  refine cG<|yf C h () () ?_;rw[t]
  cases z:o.lt (lo+x) (g<|lo+x-1)
  case true=>
   dsimp[fq];exact dP<|q x k () j<|.inr z
  case false=>
   dsimp[bI,cK];exact dP ⟨rfl,rfl,j.snoc () t z⟩
structure Dc (o:Ord)(g0 g:Nat->Nat)(a b q:Nat):Prop where
 out:∀i,i<a\/b<=i->g i=g0 i
 cl:Cl g a b
 few:a+(q+1)<=b
 dn:∀i j,a<=i->i<j->j<b->i<b-(q+1)->P o (g j) (g i)
 id:∀i,b-(q+1)<=i->i<b->g i=i
 al:∀i j,b-(q+1)<=i->i<b->b-(q+1)<=j->j<b->o.lt i j=false
def Dc.turn{a q:Nat}(D:Dc o g0 g a b q):(∀i,i<a\/b<=i->rev g (b-(q+1)) b i=g0 i)/\Cl (rev g (b-(q+1)) b) a b/\(∀i j,a<=i->i<j->j<b->P o (rev g (b-(q+1)) b j) (rev g (b-(q+1)) b i))/\(∀i,b-(q+1)<=i->i<b->∃k,rev g (b-(q+1)) b i=k/\b-(q+1)<=k/\k<b):=by
 have few:=D.few;have d:∀i,b-(q+1)<=i->i<b->rev g (b-(q+1)) b i=b-(q+1)+b-1-i:=λi h1 h2=>by
  rw[zT h1 h2];exact D.id _ (by omega)<|by omega
 refine⟨λi f=>?_,λi h1 h2=>?_,λi j h1 h2 h3=>?_,λi h1 h2=>⟨_,d i h1 h2,by omega,by omega⟩⟩
 ·rw[rz<|by omega];exact D.out i f
 ·by_cases c:i<b-(q+1)
  ·rw[rz<|by omega];exact D.cl i h1 h2
  ·rw[d i (by omega) h2];omega
 ·by_cases c:i<b-(q+1)
  ·rw[rz (k:=i)<|by omega];by_cases c2:j<b-(q+1)
   ·rw[rz<|by omega];exact D.dn i j h1 h2 h3 c
   ·rw[d j (by omega) h3];have:=D.dn i (b-(q+1)+b-1-j) h1 (by omega) (by omega) c
    rwa [D.id _ (by omega)<|by omega]at this
  ·rw[d i (by omega)<|by omega,d j (by omega) h3];exact P.Jm (D.al _ _ (by omega) (by omega) (by omega)<|by omega)<|by omega
abbrev Fin (o:Ord)(g0 g:Nat->Nat)(a b:Nat):Prop:=(∀i,i<a\/b<=i->g i=g0 i)/\Cl g a b/\(∀i j,a<=i->i<j->j<b->P o (g j) (g i))
def Dc.aal{a:Nat}(D:Dc o g0 g a b 0):Fin o g0 g a b:=⟨D.out,D.cl,λi j h1 h2 h3=>D.dn i j h1 h2 h3 ()⟩
def Fin.rn{a:Nat}(D:Fin o g0 g a b):Rn o g0 (rev g a b) a b where
 out i hi:=by rw[rz hi];exact D.1 i hi
 cl i h1 h2:=by
  rw[zT h1 h2];exact D.2.1 _ () ()
 so i j h1 h2 h3:=by
  rw[zT h1 (),zT () h3];exact D.2.2 _ _ () () ()
def Fin.add{a:Nat}(D:Fin o g0 g a b)(hb:g b=b)(hab:a<b)(h:∀i,a<=i->i<b->P o b (g i)):Dc o g0 g a (b+1) 0 where
 out i hi:=D.1 i ()
 cl i h1 h2:=by
  by_cases c:i=b
  ·subst c;lia
  ·have:=D.2.1 i h1 ();lia
 few:=()
 dn i j h1 h2 h3 _:=by
  by_cases c:j=b
  ·subst c;rw[hb];exact h i h1 h2
  ·exact D.2.2 i j h1 h2 ()
 id i h1 h2:=by
  have:i=b:=()
  rw[this,hb]
 al i j h1 h2 h3 h4:=by
  have:i=j:=()
  rw[this];exact o.Mu _
def I0(C:Sk prog w A s o N f kd){lo n:Nat}(h:Sg N f kd g p st)(hn:lo+nrem<=N)(h1:1<=n)(han:n<=nrem)(D:Fin o g0 g lo<|lo+n)(hid:∀i,lo<=i->i<lo+nrem->g0 i=i)
  {Q:bj->SortSt->Prop} (q:∀m g' st',Sg N f kd g' p st'->1<=m->m<=nrem->Rn o g0 g' lo (lo+m)->Q (some m) st'):wpS (model prog w) A E s (EF lo n nrem) Q st:=by
 unfold EF;refine cG<|zJ h () λk h2=>?_;exact cG<|RM C h2 hn h1 han D.rn (λi a b=>hid i () b) λm j d R _=>dP<|q m _ _ h2 () d R
def Yi(C:Sk prog w A s o N f kd){lo n:Nat}(h:Sg N f kd g p st)(hn:lo+nrem<=N)(h1:1<=n)(han:n<=nrem)(D:Dc o g0 g lo (lo+n) 0)(hid:∀i,lo<=i->i<lo+nrem->g0 i=i)
  {Q:Ds->SortSt->Prop} (q:∀m e g' st',Sg N f kd g' p st'->1<=m->m<=nrem->Dc o g0 g' lo (lo+m) e->Q (none,m,e) st'):wpS (model prog w) A E s (Us lo n nrem) Q st:=by
 unfold Us;refine iA (I:=λx c st'=>∃e g',c=(none,x,e)/\Sg N f kd g' p st'/\Dc o g0 g' lo (lo+x) e) ?step ?fin ⟨0,g,rfl,h,D⟩
 case fin=>
  rintro c st' ⟨e,g',rfl,h',t⟩;rw[show max n nrem=nrem by lia]at t ⊢;exact q nrem e g' st' h' () (aM _) t
 case step=>
  rintro x c st' M O ⟨e,g',rfl,h',t⟩;dsimp only;have few:=t.few;have F:g' (lo+x)=lo+x:=by rw[t.out _ ()];exact hid _ () ()
  have B:g' (lo+x-1)=lo+x-1:=t.id _ () ();refine cG<|yf C h' () () ?_;rw[F,B]
  cases G:o.lt (lo+x) (lo+x-1)
  case true=>
   dsimp[fq];by_cases K:e>0
   ·rw[aV K];obtain⟨L,U,W,T⟩:=t.turn;refine cG<|zJ h' () λV h2=>dP ⟨0,_,rfl,h2,?_⟩;refine Fin.add (b:=lo+x) ⟨L,U,W⟩ (by rw[rz ()];exact F) () λi a b=>?_;by_cases c:lo+x-(e+1)<=i
    ·obtain⟨k,ek,Y,Z⟩:=T i c b;rw[ek]
     rcases o.neg _ k _ G with z|z
     ·exact .inl z
     ·rw[t.al _ _ Y Z () ()]at z;cases z
    ·rw[rz ()];have:=t.dn i (lo+x-1) a () () ();rw[B]at this;exact(P.of_lt G).trans this
   ·rw[aR K];have:e=0:=()
    subst this;refine dP ⟨0,_,rfl,h',Fin.add (b:=lo+x) t.aal F () λi a b=>?_⟩;by_cases c:i=lo+x-1
    ·subst c;rw[B];exact .inl G
    ·have:=t.dn i (lo+x-1) a () () ();rw[B]at this;exact(P.of_lt G).trans this
  case false=>
   dsimp[bI,cK];refine cG<|yf C h' () () ?_;rw[F,B]
   cases hg:o.lt (lo+x-1) (lo+x)
   case true=>
    dsimp[fq];exact dP<|q x e g' st' h' () () t
   case false=>
    dsimp[bI,cK];refine dP ⟨e+1,g',rfl,h',?_⟩;have J:∀i,lo+x-(e+1)<=i->i<lo+x->o.lt i (lo+x)=false/\o.lt (lo+x) i=false:=λi a b=>by
     constructor
     ·cases z:o.lt i (lo+x)with
      | false=>rfl
      | true=>
       rcases o.neg _ (lo+x-1) _ z with y|y
       ·rw[t.al _ _ a b () ()]at y;cases y
       ·rw[hg]at y;cases y
     ·cases z:o.lt (lo+x) i with
      | false=>rfl
      | true=>
       rcases o.neg _ (lo+x-1) _ z with y|y
       ·rw[G]at y;cases y
       ·rw[t.al _ _ () () a b]at y;cases y
    exact {
     out:=λi hi=>t.out i ()
     cl:=λi a b=>by
      by_cases c:i=lo+x
      ·subst c;lia
      ·have:=t.cl i a ();lia
     few:=()
     dn:=λi j a b c d=>by
      by_cases z:j=lo+x
      ·subst z;rw[F];have y:=t.dn i (lo+x-1) a () () ();rw[B]at y;have gi:=t.cl i a ()
       rcases y with y|⟨_,y⟩
       ·rcases o.neg _ (lo+x) _ y with v|v
        ·rw[hg]at v;cases v
        ·exact .inl v
       ·lia
      ·exact t.dn i j a b () ()
     id:=λi a b=>by
      by_cases z:i=lo+x
      ·subst z;exact F
      ·exact t.id i () ()
     al:=λi j a b c d=>by
      by_cases z:i=lo+x
      ·subst z;by_cases y:j=lo+x
       ·subst y;exact o.Mu _
       ·exact(J j () ()).2
      ·by_cases y:j=lo+x
       ·subst y;exact(J i () ()).1
       ·exact t.al i j () () () ()}
def JA(C:Sk prog w A s o N f kd){lo n:Nat}(h:Sg N f kd g p st)(hn:lo+nrem<=N)(han:n+1<=nrem)(D:Dc o g0 g lo (lo+(n+1)) 0)(hid:∀i,lo<=i->i<lo+nrem->g0 i=i)
  {Q:bj->SortSt->Prop} (q:∀m g' st',Sg N f kd g' p st'->1<=m->m<=nrem->Rn o g0 g' lo (lo+m)->Q (some m) st'):wpS (model prog w) A E s (Rj lo n nrem) Q st:=by
 unfold Rj;refine cG<|wpS_lift<|gq ⟨rfl,?_⟩;refine cG<|Yi C h hn () han D hid λm e g' st' h' d t k=>?_;dsimp only;by_cases j:e>0
 ·rw[aV j];obtain⟨B,z,G,_⟩:=k.turn;exact cG (zJ h' () λF h2=>I0 C h2 hn d t ⟨B,z,G⟩ hid q)
 ·rw[aR j];have:e=0:=()
  subst this;exact I0 C h' hn d t k.aal hid q
theorem Ru(C:Sk prog w A s o N f kd){lo:Nat}(h:Sg N f kd g p st)(hn:lo+nrem<=N)(h1:1<=nrem)(hid:∀i,lo<=i->i<lo+nrem->g i=i)
  {Q:bj->SortSt->Prop} (q:∀m g' st',Sg N f kd g' p st'->1<=m->m<=nrem->Rn o g g' lo (lo+m)->Q (some m) st'):wpS (model prog w) A E s (countRun' lo nrem) Q st:=by
 rw[count_eq];refine cG (RM C h hn (aM 1) h1 (g0:=g) ⟨λ_ _=>rfl,λi a b=>?_,λi j a b c=>()⟩ (λi a b=>hid i () b) λn O J R G=>?_)
 ·have:i=lo:=()
  subst this;rw[hid i (aM _) ()];lia
 dsimp only;by_cases B:n=nrem
 ·rw[aV<|by simpa using B];exact dP (q n g st h O J R)
 ·rw[aR<|by simpa using B];have k:=G.resolve_left B;rw[hid (lo+n-1) () ()]at k;have M:g (lo+n)=lo+n:=hid _ () ();by_cases F:n>1
  ·rw[aV F];refine cG<|yf C h () () ?_;rw[hid lo () (),hid (lo+n-1) () ()]
   cases U:o.lt lo (lo+n-1)
   case true=>
    dsimp[fq];exact dP<|q n g st h O J R
   case false=>
    dsimp[bI,cK];have d:∀i,lo<=i->i<lo+n->g i=i:=λi a b=>hid i a ();have K:∀i j,lo<=i->i<j->j<lo+n->o.lt i j=false/\o.lt j i=false:=λi j a b c=>by
     have r:=R.so i j a b c;rw[d i a (),d j () c]at r;refine⟨?_,r.ge⟩
     cases z:o.lt i j with
     | false=>rfl
     | true=>
      rcases o.neg _ lo _ z with y|y
      ·by_cases x:i=lo
       ·subst x;rw[o.Mu]at y;cases y
       ·have r2:=R.so lo i () () ();rw[d i a (),d lo () ()]at r2;rw[r2.ge]at y;cases y
      ·rcases o.neg _ (lo+n-1) _ y with x|x
       ·rw[U]at x;cases x
       ·by_cases v:j=lo+n-1
        ·subst v;rw[o.Mu]at x;cases x
        ·have r2:=R.so j (lo+n-1) () () ();rw[d j () c,d (lo+n-1) () ()]at r2;rw[r2.ge]at x;cases x
    refine cG<|zJ h () λT h2=>JA C h2 hn () ?_ hid q;have t:∀i,lo<=i->i<lo+n->rev g lo (lo+n) i=lo+(lo+n)-1-i:=λi a b=>by rw[zT a b];exact d _ () ()
    refine Fin.add (b:=lo+n) ⟨λi L=>rz L,λi a b=>by rw[t i a b];lia,λi j a b c=>?_⟩ (by rw[rz ()];exact M) () λi a b=>?_
    ·rw[t i a (),t j () c];exact P.Jm (K _ _ () () ()).2 ()
    ·rw[t i a b];by_cases x:lo+(lo+n)-1-i=lo+n-1
     ·rw[x];exact .inl k
     ·rcases o.neg _ (lo+(lo+n)-1-i) _ k with z|z
      ·exact .inl z
      ·rw[(K _ _ () () ()).1]at z;cases z
  ·rw[aR F];have:n=1:=()
   subst this;refine JA C h hn () ?_ hid q;refine Fin.add (b:=lo+1) ⟨λi L=>rfl,R.cl,λi j a b c=>()⟩ M () λi a b=>?_;have:i=lo:=()
   subst this;rw[hid i () ()];rw[show i+1-1=i by lia]at k;exact .inl k
end
abbrev SO (N:Nat):Prop:=∀{prog:aj}{w:ah}{A:aA}{E:af->aC->Prop}{s:aC}{o:Ord}{f:Nat->Keyed}{kd:SortKind}{st:SortSt}{Q:Unit->SortSt->Prop},Sk prog w A s o N f kd->Sg N f kd (λi=>i) #[] st->(∀g j d,Sg N f kd g j d->Cl g 0 N->So o g 0 N->Q Unit.unit d)->wpS (model prog w) A E s sortRuns' Q st
abbrev RO (N:Nat):Prop:=2<=N->SO N
def Sg.pen{N:Nat}{f:Nat->Keyed}{kd:SortKind}{g:Nat->Nat}{p:Array<|Nat×Nat×Nat}{st:SortSt}(h:Sg N f kd g p st)(p':Array<|Nat×Nat×Nat):Sg N f kd g p' (setPending st p'):=⟨h.size,h.get,h.lt,h.kind,h.failed,rfl⟩
def Vf{N:Nat}(h64:N<64):RO N:=by
 intro h2 prog w A E s o f kd st Q C h q;rw[sortRuns'_eq];refine cG<|wpS_get ?_;dsimp only;have F:minRun' N N 0=N:=by
  obtain⟨k,V⟩:∃k,N=k+1:=⟨N-1,()⟩;have:minRun' (k+1) N 0=N:=by rw[minRun'_succ,aV h64];rfl
  rwa [<- V]at this
 rw[h.size,F];refine cG (wpS_mono (iA
  (I:=λx c j=>(x=0/\c=(none,0)/\Sg N f kd (λi=>i) #[] j)\/(1<=x/\c=(none,N)/\∃g p,Sg N f kd g p j/\Cl g 0 N/\So o g 0 N/\p.size=1))
  (Q:=λc j=>c=(none,N)/\∃g p,Sg N f kd g p j/\Cl g 0 N/\So o g 0 N/\p.size=1) ?step ?fin (.inl ⟨rfl,rfl,h⟩)) ?post)
 case fin=>
  rintro c j (⟨K,_,_⟩|⟨_,hc,J⟩)
  ·lia
  ·exact⟨hc,J⟩
 case step=>
  rintro x c j _ K (⟨rfl,rfl,M⟩|⟨W,rfl,J⟩)
  ·dsimp only;rw[aR ()];refine cG<|Ru C M () () (λi a b=>rfl) λm L O t U m2 R1=>?_;dsimp only;by_cases c2:m<N
   ·rw[aV c2];refine cG<|wpS_lift<|gq ⟨rfl,?_⟩;rw[show min (N-0) N=N by lia];refine cG<|W9 C t () U () R1 (λi a b=>rfl) λY P G R2=>?_;rw[aR ⋯];refine cG<|wpS_get ?_;rw[G.pend];show wpS _ _ _ _ _ _ _;refine cG (wpS_modify<|dP<|.inr ⟨(),by rw[cC],Y,_,G.pen _,by have:=R2.cl;rwa [cC]at this,by have:=R2.so;rwa [cC]at this,?_⟩);rw[G.pend];rfl
   ·rw[aR c2];have T:m=N:=()
    subst T;refine cG<|wpS_get ?_;rw[t.pend];refine cG (wpS_modify<|dP<|.inr ⟨(),by rw[cC],L,_,t.pen _,by have:=R1.cl;rwa [cC]at this,by have:=R1.so;rwa [cC]at this,?_⟩);rw[t.pend];rfl
  ·dsimp only;rw[aV<|aM _];exact dP ⟨rfl,J⟩
 case post=>
  rintro c j ⟨rfl,g,p,h1,B,h3,Z⟩;dsimp only;refine cG (wpS_mono (iA (I:=λx c d=>c=(none,Unit.unit)/\Sg N f kd g p d) (Q:=λc d=>c=(none,Unit.unit)/\Sg N f kd g p d) ?fstep (λ_ _ z=>z) ⟨rfl,h1⟩) ?fpost)
  case fstep=>
   rintro x c d _ K ⟨rfl,h1⟩;refine cG<|wpS_get ?_;rw[h1.pend,aV ()];exact dP ⟨rfl,h1⟩
  case fpost=>
   rintro c d ⟨rfl,h1⟩;dsimp only;exact dP<|q g p d h1 B h3
abbrev Jf:Bool->Keyed->Array Keyed->Nat->Nat->Nat->StateT SortSt Sem (bj):=sortPriv% PySem.Builtin.gallop
abbrev aab:Nat->StateT SortSt Sem Unit:=sortPriv% PySem.Builtin.setMinGallop
section
variable {o:Ord}{N:Nat}{f:Nat->Keyed}{A B hs:am}{ia ib:Nat}
abbrev fa (f:Nat->Keyed)(l:am):Array Keyed:=(l.map f).toArray
structure Ab (o:Ord)(N:Nat)(A B:am):Prop where
 sa:A.Pairwise (P o)
 sb:B.Pairwise (P o)
 lt:∀x∈A,∀y∈B,x<y
 nb:∀y∈B,y<N
 na:∀x∈A,x<N
structure Mg (o:Ord)(A B hs:am)(ia ib:Nat):Prop where
 la:ia<=A.length
 lb:ib<=B.length
 len:hs.length=ia+ib
 so:hs.Pairwise (P o)
 mem:∀x∈hs,x∈A\/x∈B
 ua:∀x∈hs,∀y∈A.drop ia,P o x y
 ub:∀x∈hs,∀y∈B.drop ib,P o x y
abbrev Res (o:Ord)(f:Nat->Keyed)(A B:am)(out:Array Keyed):Prop:=∃hs:am,out=fa f hs/\hs.length=A.length+B.length/\hs.Pairwise (P o)/\∀x∈hs,x∈A\/x∈B
end
structure Sm (st st':SortSt):Prop where
 a:arrOf st'=arrOf st
 k:kindOf st'=kindOf st
 p:pendingOf st'=pendingOf st
 f:failedOf st'=failedOf st
meta abbrev G:=Option (Array Keyed)×Array Keyed×Nat×Nat×Nat×Nat×Nat
abbrev T3 (a b out:Array Keyed)(ia ib mg ac bc:Nat):StateT SortSt Sem (ForInStep G):=do
 let x <- elem' a ia
 if (ia+1+1 == a.size)=true then pure (ForInStep.done (some<|out.push x++b.extract ib b.size++a.extract (ia+1) a.size,out.push x,ia+1,ib,mg,ac,bc))
 else if (decide (ac<7) && decide (bc<7))=true then pure (ForInStep.done (none,out.push x,ia+1,ib,mg,ac,bc))
 else pure (ForInStep.yield (none,out.push x,ia+1,ib,mg,ac,bc))
abbrev T2 (a b out:Array Keyed)(ia ib mg ac bc:Nat):StateT SortSt Sem (ForInStep G):=do
 let x <- elem' b ib
 if (ib+1 == b.size)=true then pure (ForInStep.done (some<|out.push x++a.extract ia a.size++b.extract (ib+1) b.size,out.push x,ia,ib+1,mg,ac,bc))
 else
  let y <- elem' a ia
  let r <- Jf true y b (ib+1) (b.size-(ib+1)) 0
  match r with
  | some k=>
   if k>0 then
    if (ib+1+k == b.size)=true then pure (ForInStep.done (some<|out.push x++b.extract (ib+1) (ib+1+k)++a.extract ia a.size++b.extract (ib+1+k) b.size,out.push x++b.extract (ib+1) (ib+1+k),ia,ib+1+k,mg,ac,k))
    else T3 a b (out.push x++b.extract (ib+1) (ib+1+k)) ia (ib+1+k) mg ac k
   else T3 a b (out.push x) ia (ib+1) mg ac k
  | _=>pure<|ForInStep.done (some<|out.push x++a.extract ia a.size++b.extract (ib+1) b.size,out.push x,ia,ib+1,mg,ac,bc)
abbrev T1 (a b out:Array Keyed)(ia ib mg ac bc:Nat):StateT SortSt Sem (ForInStep G):=do
 aab mg
 let x <- elem' b ib
 let r <- Jf false x a ia (a.size-ia) 0
 match r with
 | some k=>
  if k>0 then
   if (ia+k+1 == a.size)=true then pure (ForInStep.done (some<|out++a.extract ia (ia+k)++b.extract ib b.size++a.extract (ia+k) a.size,out++a.extract ia (ia+k),ia+k,ib,mg,k,bc))
   else if (ia+k == a.size)=true then pure (ForInStep.done (some<|out++a.extract ia (ia+k)++a.extract (ia+k) a.size++b.extract ib b.size,out++a.extract ia (ia+k),ia+k,ib,mg,k,bc))
   else T2 a b (out++a.extract ia (ia+k)) (ia+k) ib mg k bc
  else T2 a b out ia ib mg k bc
 | _=>pure<|ForInStep.done (some<|out++a.extract ia a.size++b.extract ib b.size,out,ia,ib,mg,ac,bc)
section
variable {o:Ord}{A B ts:am}{na nb:Nat}
structure Mh (o:Ord)(A B ts:am)(na nb:Nat):Prop where
 la:na<=A.length
 lb:nb<=B.length
 len:ts.length+na+nb=A.length+B.length
 so:ts.Pairwise (P o)
 mem:∀x∈ts,x∈A\/x∈B
 ua:∀y∈A.take na,∀x∈ts,P o y x
 ub:∀y∈B.take nb,∀x∈ts,P o y x
end
meta abbrev H:=Option (Array Keyed)×Nat×Nat×Array Keyed×Nat×Nat×Nat
section
variable {o:Ord}{f:Nat->Keyed}{st0:SortSt}{X Y ts:am}{na nb:Nat}
abbrev Oh (o:Ord)(X Y:am)(n:Nat)(ts:am)(na nb:Nat):Prop:=Mh o X Y ts na nb/\1<=na/\2<=nb/\na+nb+n<=X.length+Y.length
abbrev H2 (o:Ord)(f:Nat->Keyed)(X Y:am)(n:Nat)(st0:SortSt):ForInStep H->SortSt->Prop:=λr j=>Sm st0 j/\match r with
 | .done c=>(∃r z,c=(some r,z)/\Res o f X Y r)\/∃ts na nb mg g d,c=(none,na,nb,fa f ts.reverse,mg,g,d)/\Oh o X Y n ts na nb
 | .yield c=>∃ts na nb mg g d,c=(none,na,nb,fa f ts.reverse,mg,g,d)/\Oh o X Y n ts na nb
end
meta abbrev pr (x:Nat×Nat×Nat):Nat×Nat:=(x.1,x.2.1)
abbrev aaY (o:Ord)(g:Nat->Nat):List (Nat×Nat)->Nat->Nat->Prop
 | [],a,b=>a=b
 | x::l,a,b=>x.1=a/\1<=x.2/\Cl g a (a+x.2)/\So o g a (a+x.2)/\aaY o g l (a+x.2) b
abbrev PA (o:Ord)(g:Nat->Nat)(p:Array<|Nat×Nat×Nat)(b:Nat):Prop:=aaY o g (p.toList.map pr) 0 b
meta abbrev DY (h:aq)(a:ak)(vs:ba):aq:=((h.update a<|Obj.mapSeq λ_=>#[]).push<|seqObj "tuple" vs.toArray 0).push<|seqObj "list" #[] 0
def IB{h:aq}{a:ak}(hb:b≠a)(hlt:b<h.objs.size):(DY h a vs).get? b=h.get? b:=by
 rw[iB _ _ _<|by rw[size_push',iQ];exact bD<|dQ hlt,
  iB _ _ _ (by rw[iQ];exact bD hlt),Heap.get?_update_ne _ _ _ _ hb]
meta abbrev vv (vs:ba)(i:Nat):Keyed:=(vs.getD i .none,vs.getD i .none)
def zip_get(vs:ba){i:Nat}(h:i<vs.length):(vs.toArray.zip vs.toArray)[i]?=some (vv vs i):=by
 have e:vs[i]?=some (vs.getD i .none):=by rw[aK,aI h];rfl
 rw[Array.getElem?_zip_eq_some];exact⟨by rw[gb];exact e,by rw[gb];exact e⟩
section
variable {prog:aj}{w:ah}{A:aA}{E:af->aC->Prop}{s:aC}{o:Ord}{kd:SortKind}
def yR{a:ak}{vs:ba}{n:Nat}{P:PySem.Fin->aC->Prop}(hL:s.heap.get? a=some (seqObj "list" vs.toArray n))(hsz:vs.length<=sizeLine)(ro:RO vs.length)
  (hkk:2<=vs.length->∀Q:SortKind->aC->Prop,Q kd { s with heap:=DY s.heap a vs }->wpAny (model prog w) A (keyKind' vs.toArray) Q E { s with heap:=DY s.heap a vs })
  (C:2<=vs.length->Sk prog w A { s with heap:=DY s.heap a vs } o vs.length (vv vs) kd)
  (h:∀g,Cl g 0 vs.length->So o g 0 vs.length->P (.done<|.ret .none) { s with heap:=sortedHeap s.heap a vs ((List.range vs.length).map λi=>vs.getD (g i) .none).toArray }) :
  wpAny (model prog w) A (Builtin.«list.sort» ⟨[.ref a],[]⟩) P E s:=by
 rw[list_sort_plain];have F:a<s.heap.objs.size:=bq hL;refine aH<|listItems_at hL rfl ?_;refine aH (listUpdate_at hL rfl ?_ (by rw[aZ];exact hsz)<|bK _);obtain⟨ep,B⟩:∃ep,(s.heap.update a<|Obj.mapSeq λ_=>#[]).get? a=some (seqObj "list" #[] ep):=⟨_,get?_update_seq hL λ_=>#[]⟩;refine aH<|seqEpoch_at B rfl ?_;refine aH<|wpAny_newTuple ?_;refine aH<|jx ?_;refine cZ ?_;have q:(DY s.heap a vs).get? a=some (seqObj "list" #[] ep):=by
  rw[iB _ _ _<|by rw[size_push',iQ];exact bD<|dQ F,iB _ _ _<|by rw[iQ];exact bD F];exact B
 skip
 dsimp only;have G:vs.toArray.size=vs.length:=by simp
 have L:∀i,i<vs.length->vs[i]?=some (vs.getD i .none):=λi z=>by rw[aK,aI z];rfl
 have wO:∀(arr:Array Keyed) (g:Nat->Nat),arr.size=vs.length->(∀i,i<vs.length->arr[i]?=some (vv vs<|g i))->arr.map (·.2)=((List.range vs.length).map λi=>vs.getD (g i) .none).toArray:=λarr g h1 k=>by
  apply Array.ext_getElem?;intro i;have e0:((List.range vs.length).map λi=>vs.getD (g i) Value.none).toArray[i]?=((List.range vs.length).map λi=>vs.getD (g i) Value.none)[i]?:=gb ..;rw[Array.getElem?_map,e0,aO];by_cases c:i<vs.length
  ·rw[k i c,eK c];rfl
  ·rw[dR (),dH<|by rw[bR];lia];rfl
 by_cases k:vs.toArray.size<2
 ·rw[aV k,aV k];refine aH<|aN ?_;rw[StateT.run_pure];refine aH<|aN ?_;dsimp only;refine aH<|seqEpoch_at q rfl ?_;have K:=wO (vs.toArray.zip vs.toArray) (λi=>i) (by rw[jM,G];lia) λi z=>zip_get vs z;refine aH (listUpdate_at q rfl ?_ (by simp) (hsz2:=by rw[size_map];show(vs.toArray.zip vs.toArray).size<=_;rw[jM,G];lia));dsimp[bne_self_eq_false,bI,cK];refine aN ?_;have:=h (λi=>i) (λi a b=>⟨a,b⟩) λi j a b c=>();rw[<- K]at this;exact this
 ·rw[aR k,aR k];have t:2<=vs.length:=()
  refine aH<|hkk t _ ?_;refine aH (fN (ro t (f:=vv vs) (st:=SortSt.mk' kd (vs.toArray.zip vs.toArray) #[] 7 none)
   (Q:=λ_ d=>∃g p,Sg vs.length (vv vs) kd g p d/\Cl g 0 vs.length/\So o g 0 vs.length)
   (C t) ⟨by show(vs.toArray.zip vs.toArray).size=_;rw[jM,G];lia,λi z=>zip_get vs z,λi z=>z,rfl,rfl,rfl⟩ λN V d M T U=>⟨N,V,M,T,U⟩) ?_ λ_ _ e=>e)
  rintro⟨⟨⟩,d⟩ s' ⟨rfl,g,p,hS,hc,J⟩;dsimp only;refine aH<|seqEpoch_at q rfl ?_;have K:=wO (arrOf d) g hS.size hS.get;refine aH (listUpdate_at q rfl ?_ (by simp) (hsz2:=by have O:(arrOf d).size=vs.length:=hS.size;show((arrOf d).map (·.2)).size<=_;rw[size_map,O];lia));rw[hS.failed];dsimp[bne_self_eq_false,bI,cK];have:=h g hc J;rw[<- K]at this;exact aN this
end
section
variable {prog:aj}{w:ah}{A:aA}{E:af->aC->Prop}{s:aC}
def Ln(b:Bool)(x y:af):keyLt' (tuples' b) x y=(do
  let us <- Builtin.List.listItems x
  let vs <- Builtin.List.listItems y
  for ((u,v),k)in (us.toList.zip vs.toList).zipIdx do
   if !(<- eqBool u v)then return <- oneLt' (b && k == 0) u v
  return us.size<vs.size):=rfl
def IZ(b:Bool){x y:Int}{t:Tok}{Q:Bool->aC->Prop}(h:Q (decide<|x<y) s):wpAny (model prog w) A (oneLt' b (.int x t)<|.int y u) Q E s:=by
 cases b with
 | true=>exact oneLt_int h
 | false=>
  rw[oneLt'_eq];dsimp[bI,cK];exact aH<|PySem.P.lt_int<|cT h
def Hj(b:Bool){l k:ak}{xs ys:ba}{ns:ag}{Q:Bool->aC->Prop}(hl:IsTup s.heap l xs.toArray)(hk:IsTup s.heap k ys.toArray)(hi:IntsAre xs ns)(hj:IntsAre ys ms)(h:Q (HT.lexLt ns ms) s) :
  wpAny (model prog w) A (keyLt' (tuples' b) (.ref l)<|.ref k) Q E s:=by
 rw[Ln];obtain⟨L,B,_,O,z⟩:=hl;obtain⟨N,F,_,K,C⟩:=hk;refine aH<|listItems_at B z ?_;refine aH<|listItems_at F C ?_;have g:∀(xs ys:ba) (ns ms:ag) (n:Nat),IntsAre xs ns->IntsAre ys ms->∀f:bi×Unit->aC->Prop,(∀r,(r=some (HT.lexLt ns ms)\/(r=none/\HT.lexLt ns ms=decide (xs.length<ys.length)))->f (r,Unit.unit) s) ->
   wpAny (model prog w) A (forIn ((xs.zip ys).zipIdx n) ((none,Unit.unit):bi×Unit) λx c=>match x with
      | ((p,q),i)=>do
       let e <- eqBool p q
       if (!e)=true then do
         let r <- oneLt' (b && i == 0) p q
         pure (ForInStep.done (some r,Unit.unit))
        else pure (ForInStep.yield (none,Unit.unit))) f E s:=by
  intro xs
  induction xs with
  | nil=>
   intro ys ns ms n h1 h2 f q
   cases h1
   rw[List.zip_nil_left,List.zipIdx_nil,jj];refine aN (q none<|.inr ⟨rfl,?_⟩)
   cases h2 with
   | nil=>rw[HT.qj];rfl
   | cons a t h2=>rw[HT.nP,bf<|by simp]
  | cons v M J=>
   intro ys ns ms n h1 h2 f q
   cases h1 with
   | cons a t h1=>
    cases h2 with
    | nil=>
     rw[List.zip_nil_right,List.zipIdx_nil,jj];exact aN<|q none<|.inr ⟨rfl,by rw[HT.pD,bz<|by simp]⟩
    | cons c u h2=>
     rw[jh,List.zipIdx_cons,jK];rw[HT.rW]at q;dsimp only;refine aH<|aH<|wpAny_eqBool_int ?_;by_cases e:a=c
     ·rw[aV e]at q;subst e;dsimp[c5,b7,bI,cK];refine aN (J _ _ _ _ h1 h2 _ λr d=>q r ?_)
      rcases d with d|⟨d,j⟩
      ·exact .inl d
      ·exact .inr ⟨d,by rw[j];simp⟩
     ·rw[aR e]at q;have G:(a == c)=false:=by simpa using e
      dsimp[G,dc,fq];exact aH<|IZ _<|aN<|aN<|q _<|.inl rfl
 refine aH (g xs ys ns ms 0 hi hj _ λr d=>?_)
 rcases d with rfl|⟨rfl,j⟩
 ·exact aN h
 ·dsimp only;rw[aZ,aZ,<- j];exact aN h
end
theorem zL:∀a:ag,HT.lexLt a a=false
 | []=>HT.qj
 | x::a=>by rw[HT.rW,aV rfl];exact zL a
theorem CN:∀{a b c:ag},HT.lexLt a b=true->HT.lexLt b c=true->HT.lexLt a c=true
 | [],[],_,h,_=>by rw[HT.qj]at h;cases h
 | x::a,[],_,h,_=>by rw[HT.pD]at h;cases h
 | _,y::b,[],_,h=>by rw[HT.pD]at h;cases h
 | [],y::b,z::c,_,_=>HT.nP ..
 | x::a,y::b,z::c,h1,h2=>by
  rw[HT.rW]at h1 h2 ⊢;by_cases e1:x=y
  ·rw[aV e1]at h1;by_cases e2:y=z
   ·rw[aV e2]at h2;rw[aV<|e1.trans e2];exact CN h1 h2
   ·rw[aR e2]at h2;have:=b8 h2;rw[aR<|by omega];exact bf<|by omega
  ·rw[aR e1]at h1;have d:=b8 h1;by_cases e2:y=z
   ·rw[aR<|by omega];exact bf (by omega)
   ·rw[aR e2]at h2;have:=b8 h2;rw[aR<|by omega];exact bf<|by omega
theorem xP:∀{a b:ag},HT.lexLt a b=false->HT.lexLt b a=false->a=b
 | [],[],_,_=>rfl
 | [],y::b,h,_=>by rw[HT.nP]at h;cases h
 | x::a,[],_,h=>by rw[HT.nP]at h;cases h
 | x::a,y::b,h1,h2=>by
  rw[HT.rW]at h1 h2;by_cases e:x=y
  ·rw[aV e]at h1;rw[aV e.symm]at h2;rw[e,xP h1 h2]
  ·rw[aR e]at h1;rw[aR λz=>e z.symm]at h2;have:=eW h1;have:=eW h2;omega
def Lc{a c:ag}(h:HT.lexLt a c=true):HT.lexLt a b=true\/HT.lexLt b c=true:=by
 cases e:HT.lexLt a b with
 | true=>exact .inl rfl
 | false=>
  right
  cases e2:HT.lexLt b a with
  | true=>exact CN e2 h
  | false=>rw[<- xP e e2];exact h
abbrev uO (kss:List<|ag):Ord where
 lt i j:=HT.lexLt (kss.getD i []) (kss.getD j [])
 Mu i:=zL _
 tr i j k:=CN
 neg i j k:=Lc
section
variable {prog:aj}{w:ah}{A:aA}{E:af->aC->Prop}{s:aC}
theorem J_{α β:Type}{f:α->Sem β}(r:α->β):∀(l:List α),(∀a∈l,∀Q:β->aC->Prop,Q (r a) s->wpAny M A (f a) Q E s)->∀Q:List β->aC->Prop,Q (l.map r) s->wpAny M A (l.mapM f) Q E s
 | [],_,Q,q=>by rw[List.mapM_nil];exact aN q
 | a::l,h,Q,q=>by
  rw[List.mapM_cons];refine aH<|h a (aL ..) _<|aH<|J_ r l (λb hb=>h b<|aQ _ hb) _<|aN q
def zR{α β:Type}{f:α->Sem β}(r:α->β)(l:List α)(h:∀a∈l,∀Q:β->aC->Prop,Q (r a) s->wpAny M A (f a) Q E s)(Q:Array β->aC->Prop)(q:Q (l.map r).toArray s):wpAny M A (l.toArray.mapM f) Q E s:=by
 rw[List.mapM_toArray,map_eq_pure_bind];exact aH<|J_ r l h _<|aN q
def EK(u:af):firstOfTuple' u=(do
  if (<- typeOf u) != .type "tuple" then return none
  return (<- Builtin.List.listItems u)[0]?):=rfl
def Lx{vs:ba}(h0:vs≠[])(ht:∀v∈vs,∃(l:ak) (xs:ba) (n:Int) (t:Tok),v=.ref l/\IsTup s.heap l (.int n t::xs).toArray){Q:SortKind->aC->Prop}(q:Q (tuples' true) s) :
  wpAny (model prog w) A (keyKind' vs.toArray) Q E s:=by
 have k:∀v,∃x:Int×Tok,v∈vs->∃(l:ak) (xs:ba),v=.ref l/\IsTup s.heap l (.int x.1 x.2::xs).toArray:=λv=>by
  by_cases c:v∈vs
  ·obtain⟨l,xs,n,t,e1,e2⟩:=ht v c;exact⟨(n,t),λ_=>⟨l,xs,e1,e2⟩⟩
  ·exact⟨(0,0),λz=>absurd z c⟩
 obtain⟨F,B⟩:=Classical.axiomOfChoice k;rw[keyKind'_eq];refine aH (zR (λv=>some<|Value.int (F v).1 (F v).2) vs (λv hv G g=>?_) _ ?_)
 ·obtain⟨l,xs,rfl,o,j,hc,n,C⟩:=B v hv;rw[EK];refine aH<|ie (T := "tuple") ⟨o,j,hc⟩ ?_;rw[aR ⋯];exact aH (listItems_at j C<|aN g)
 ·rw[aV<|by simp];refine aH<|gq ?_;have e1:(vs.map λv=>some<|Value.int (F v).1 (F v).2).toArray.filterMap id=(vs.map λv=>Value.int (F v).1 (F v).2).toArray:=by
   rw[List.filterMap_toArray,List.filterMap_map];congr 1;rw[show(id ∘ λv=>some<|Value.int (F v).1 (F v).2)=λv=>some (Value.int (F v).1 (F v).2)from rfl];exact congrFun List.filterMap_eq_map' vs
  rw[e1,oneTypeOnly'_eq];refine aH (aH<|zR (λ_=>Value.type "int") _ (λv hv G g=>?_) _ ?_)
  ·obtain⟨u,_,rfl⟩:=aY.mp hv;exact aN g
  ·rw[bg];obtain⟨f,d,rfl⟩:∃f d,vs=f::d:=by
    cases vs with
    | nil=>exact absurd rfl h0
    | cons a b=>exact⟨a,b,rfl⟩
   have ha:((List.map ((λ_=>Value.type "int") ∘ λv=>Value.int (F v).1 (F v).2) (f::d)).toArray.all λx=>x == Value.type "int")=true:=by
    dsimp[List.all_toArray,all_map,fJ];intro _ _;rfl
   have p:(List.map ((λ_=>Value.type "int") ∘ λv=>Value.int (F v).1 (F v).2) (f::d)).toArray[0]?=some (Value.type "int"):=by simp
   rw[p];dsimp[ha,fq];exact aN<|aN q
end
end Sx
namespace L2
open PySem PySem.Spec PyProof.Rows
section
variable {X:Cx}
theorem tQ:∀{rs:bb}{its:ba},Vals (rs.map V.ref) its->its=rs.map Value.ref
 | [],_,r=>by cases r;rfl
 | a::rs,_,r=>by
  cases r with
  | cons h t=>
   have e:_=Value.ref a:=h;rw[e,tQ t];rfl
theorem yo:∀(rs:bb),Vals (rs.map V.ref) (rs.map Value.ref)
 | []=>.nil
 | a::rs=>.cons (show RelV (.ref a) (.ref a)from rfl)<|yo rs
def yk{s:aC}{H:Hp}{Q:VK}{h':aq}{tk:Nat}{rs:bb}{kss:List<|ag}(I1:Inv X pins σ H { s with heap:=h',toks:=tk })(ro:Sx.RO kss.length)(hlen:rs.length=kss.length)(hz:rs.length<=sizeLine)
  (hT:∀(i:Nat) (r:ak) (ks:ag),rs[i]?=some r->kss[i]?=some ks->nO X.K H r (ks.map V.int)/\ks≠[])
  (q:∀l g,H l=none->Sx.Cl g 0 kss.length->Sx.So (Sx.uO kss) g 0 kss.length->Q (.ref l) (upd H l<|.lst<|((List.range kss.length).map λi=>rs.getD (g i) 0).map V.ref)) :
  wpAny (model X.prog X.w) X.A.in1 (do
   let l <- newList (rs.map Value.ref)
   let _ <- holding [l] (call (Value.builtin "list.sort") [l] [])
   ret l) (λfin s'=>∃v,fin=Fin.done (Flow.ret v)/\EP X pins σ Q v s') X.xe { s with heap:=h',toks:=tk }:=by
 have B:(rs.map Value.ref).length=kss.length:=by rw[aG,hlen]
 refine aH<|jx ?_;have k:(h'.push<|seqObj "list" (rs.map Value.ref).toArray 0).get? h'.objs.size=some (seqObj "list" (rs.map Value.ref).toArray 0):=bw _ rfl
 skip
 have tup:∀(i:Nat) (r:ak) (ks:ag),rs[i]?=some r->kss[i]?=some ks->∃d:ba,IntsAre d ks/\IsTup (Sx.DY (h'.push<|seqObj "list" (rs.map Value.ref).toArray 0) h'.objs.size<|rs.map Value.ref) r d.toArray:=λi r ks e1 e2=>by
  obtain⟨d,Z,⟨o,J,hc,n,W⟩,_⟩:=I1.tuple (hT i r ks e1 e2).1;refine⟨d,intsAre_of Z,o,?_,hc,n,W⟩;have lt:r<h'.objs.size:=bq J;rw[Sx.IB (bD lt)<|by rw[c_];exact dQ lt];exact aS _ J
 refine aH (cZ<|cD slot_list_sort ⟨_,k,rfl⟩ entry_list_sort (Sx.yR (o:=Sx.uO kss) (kd:=tuples' true) k (by rw[B];lia) (by rw[B];exact ro) (λh2 M G=>?_) (λh2 i j f L E' M G=>?_) λg hc hs=>⟨_,rfl,?_⟩)<|args_list_sort _)
 ·refine Sx.Lx (λz=>by rw[z]at h2;simp at h2) (λv hv=>?_) G;obtain⟨i,f⟩:=iV hv;rw[aO]at f;obtain⟨r,F,rfl⟩:=aW.mp f;have lt:=(aJ.mp F).1;have e2:kss[i]?=some kss[i]:=aI ();obtain⟨d,h1,h3⟩:=tup i r _ F e2;have p:=(hT i r _ F e2).2;generalize kss[i]=ks at h1 p
  cases h1 with
  | nil=>exact absurd rfl p
  | cons a t h1=>exact⟨r,_,a,t,rfl,h3⟩
 ·rw[B]at f L;have e1:rs[i]?=some (rs[i]'()):=aI _;have e2:rs[j]?=some (rs[j]'()):=aI _;have N:kss[i]?=some kss[i]:=aI f;have O:kss[j]?=some kss[j]:=aI L;obtain⟨x1,P,b1⟩:=tup i _ _ e1 N;obtain⟨x2,Y,T⟩:=tup j _ _ e2 O;have v1:(rs.map Value.ref).getD i .none=.ref (rs[i]'()):=by rw[aK,aO,e1];rfl
  have v2:(rs.map Value.ref).getD j .none=.ref (rs[j]'()):=by rw[aK,aO,e2];rfl
  show wpAny _ _ (keyLt' (tuples' true) ((rs.map Value.ref).getD i .none)<|(rs.map Value.ref).getD j .none) M E' _;rw[v1,v2];refine Sx.Hj true b1 T P Y ?_;have d1:kss.getD i []=kss[i]:=by rw[aK,N];rfl
  have U:kss.getD j []=kss[j]:=by rw[aK,O];rfl
  have:(Sx.uO kss).lt i j=HT.lexLt kss[i] kss[j]:=by show HT.lexLt _ _=_;rw[d1,U]
  rw[<- this];exact G
 ·rw[B]at hc hs ⊢;obtain⟨e,he⟩:=sortedHeap_at (out:=((List.range kss.length).map λi=>(rs.map Value.ref).getD (g i) .none).toArray) k;have old:∀b ob,h'.get? b=some ob->(sortedHeap (h'.push<|seqObj "list" (rs.map Value.ref).toArray 0) h'.objs.size (rs.map Value.ref) ((List.range kss.length).map λi=>(rs.map Value.ref).getD (g i) .none).toArray).get? b=some ob:=λb ob C=>by
   rw[sortedHeap_old (bD<|bq C)<|by rw[c_];exact dQ<|bq C];exact aS _ C
  refine aN ⟨_,rfl,.ref h'.objs.size,_,I1.laid (t':=tk) (o:=.lst<|((List.range kss.length).map λi=>rs.getD (g i) 0).map V.ref) old (aM _) ?_,rfl,q _ g (I1.hok.fresh<|aM _) hc hs⟩;refine⟨by rw[aG,aG,bR];lia,((List.range kss.length).map λi=>rs.getD (g i) 0).map Value.ref,e,yo _,?_⟩;rw[he];congr 2;rw[bg];congr 1;refine bW λi f=>?_;have:=(hc i (bK _)<|cF.mp f).2;have lt:g i<rs.length:=()
  show(rs.map Value.ref).getD (g i) .none=Value.ref (rs.getD (g i) 0);rw[aK,aO,aI lt,aK,aI lt];rfl
def Dt:kP X (.builtin "sorted") (λxs H Q=>∃(p:ak) (rs:bb) (kss:List<|ag),xs=[.ref p]/\qe X.K H p (rs.map V.ref)/\Sx.RO kss.length/\rs.length=kss.length /\
  (∀(i:Nat) (r:ak) (ks:ag),rs[i]?=some r->kss[i]?=some ks->nO X.K H r (ks.map V.int)/\ks≠[]) /\
  ∀l g,H l=none->Sx.Cl g 0 kss.length->Sx.So (Sx.uO kss) g 0 kss.length->Q (.ref l) (upd H l<|.lst<|((List.range kss.length).map λi=>rs.getD (g i) 0).map V.ref)):=by
 fin2;obtain⟨p,rs,kss,rfl,hq,k,d,z,q⟩:=h;kcj_m
 cases rx
 obtain⟨L,G,pl,j⟩:=I.list hq;have C:=tQ G;subst C;obtain⟨o,t,f,n,B⟩:=pl.isList;rw[aG]at j;have F:(rs.map Value.ref).length=kss.length:=by rw[aG,d]
 refine dz iW iC iD (iE _) ?_;unfold Builtin.«sorted»;ksr_p;refine aH<|wpAny_collect_seq p (.inl rfl) t f B (λh' J=>yk (s:=s) (I.kept (t':=s.toks) J) k d j z q)<|by rw[aZ,F];lia
end
end L2
namespace Sx
open PySem PyProof.Rows
open PySem.AutoSeq1 (wpAny_loadPart')
open PySem.MeetsSeq PySem.MeetsSeq2 PySem.MeetsSeq3
section
variable {prog:aj}{w:ah}{A:aA}{E:af->aC->Prop}{s:aC}
def HM{v:af}{l:ak}(e:v=.ref l)(h:s.heap.IsList l xs){Q:bd->aC->Prop}(q:Q none s):wpAny (model prog w) A (firstOfTuple' v) Q E s:=by
 subst e;obtain⟨o,d,hc,n,f⟩:=h;rw[EK];refine aH<|ie (T := "list") ⟨o,d,hc⟩ ?_;rw[aV ⋯];exact aN q
def G8{vs:ba}(h0:vs≠[])(ht:∀v∈vs,∃(l:ak) (xs:Array af),v=.ref l/\s.heap.IsList l xs){Q:SortKind->aC->Prop}(q:Q oneType' s) :
  wpAny (model prog w) A (keyKind' vs.toArray) Q E s:=by
 rw[keyKind'_eq];obtain⟨f,d,rfl⟩:∃f d,vs=f::d:=by
  cases vs with
  | nil=>exact absurd rfl h0
  | cons a b=>exact⟨a,b,rfl⟩
 refine aH (zR (λ_=>(none:bd)) (f::d) (λv hv p g=>?_) _ ?_)
 ·obtain⟨l,xs,e,h⟩:=ht v hv;exact HM e h g
 ·rw[aR<|by simp,aR<|by simp,oneTypeOnly'_eq];refine aH (aH<|zR (λ_=>Value.type "list") _ (λv hv p g=>?_) _ ?_)
  ·obtain⟨l,xs,rfl,o,k,hc,_⟩:=ht v hv;exact ie (T := "list") ⟨o,k,hc⟩ g
  ·have ha:((List.map (λ_=>Value.type "list") (f::d)).toArray.all λx=>x == Value.type "list")=true:=by
    rw[List.all_toArray,all_map,fJ];intro _ _;rfl
   have j:(List.map (λ_=>Value.type "list") (f::d)).toArray[0]?=some (Value.type "list"):=by simp
   rw[j];dsimp[ha,fq];exact aN<|aN q
end
end Sx
namespace Am
open PySem
inductive A where
 | unb|non|bl (b:Bool)|int (i:Int)|str (x:Str)|tup (xs:List A)|frz (xs:List A)|rng (lo hi:Int)|ref (n:Nat)|exn (c:Str)|ty (n:String)|ktu (xs:List A)
@[reducible]def ae:=List A
inductive O where
 | lst (xs:ae)|dct (kvs:List<|ag×A)|qQ (kvs:List<|Int×A)|vW (kvs:List<|L2.nG×A)|dcf (kvs:List<|ag×A)|ins (c:Str) (fs:List<|Str×A)
meta abbrev jU:=List O
inductive R (α:Type) where
 | ok (a:α) (S:jU)|ex (c:Str) (S:jU)|no
abbrev R.bind {α β:Type}(r:R α)(f:α->jU->R β):R β:=match r with
 | .ok a S=>f a S
 | .ex c S=>.ex c S
 | .no=>.no
abbrev R.post {α:Type}(r:R α)(P:α->jU->Prop)(E:Str->jU->Prop):Prop:=match r with
 | .ok a S=>P a S
 | .ex c S=>E c S
 | .no=>False
def j5{α β:Type}{r:R α}{f:α->jU->R β}{P:β->jU->Prop}{E:Str->jU->Prop}(h:(r.bind f).post P E):r.post (λa S=>(f a S).post P E) E:=by
 cases r<;>exact h
def LA{α:Type}{r:R α}{P P':α->jU->Prop}{E E':Str->jU->Prop}(h:r.post P E)(hp:∀a S,P a S->P' a S)(he:∀c S,E c S->E' c S):r.post P' E':=by
 cases r with
 | ok a S=>exact hp _ _ h
 | ex c S=>exact he _ _ h
 | no=>exact h.elim
abbrev gd {α:Type}(c:Prop)[Decidable c](r:R α):R α:=if c then r else .no
abbrev opt {α β:Type}(o:Option β)(f:β->R α):R α:=match o with
 | some b=>f b
 | none=>.no
def kD{α:Type}{c:Prop}[Decidable c]{r:R α}{P:α->jU->Prop}{E:Str->jU->Prop}(h:(gd c r).post P E):c/\r.post P E:=by
 unfold gd at h;by_cases hc:c
 ·rw[aV hc]at h;exact⟨hc,h⟩
 ·rw[aR hc]at h;exact h.elim
def jY{α β:Type}{o:Option β}{f:β->R α}{P:α->jU->Prop}{E:Str->jU->Prop}(h:(opt o f).post P E):∃b,o=some b/\(f b).post P E:=by
 cases o with
 | none=>exact h.elim
 | some b=>exact⟨b,rfl,h⟩
def FW{α:Type}{c:Prop}[Decidable c]{r:R α}(h:c):gd c r=r:=aV h
abbrev jS (S:jU)(n:Nat):Option (ae):=match S[n]? with
 | some (.lst xs)=>some xs
 | _=>none
def j_{n:Nat}(h:jS S n=some xs):S[n]?=some (.lst xs):=by
 unfold jS at h;split at h
 ·rename_i e;cases h;exact e
 ·cases h
def nB{S:jU}{n:Nat}(h:S[n]?=some (.lst xs)):jS S n=some xs:=by
 unfold jS;rw[h]
inductive RS where
 | nx (τ:ae) (S:jU)|rt (a:A) (S:jU)|bk (τ:ae) (S:jU)|ct (τ:ae) (S:jU)|ex (c:Str) (S:jU)|no
meta abbrev Ex:=ae->jU->R A
meta abbrev sW:=ae->jU->R (ae)
meta abbrev Te:=ae->jU->R Bool
meta abbrev Sm:=ae->jU->RS
meta abbrev Tg:=A->ae->jU->R (ae)
end Am
namespace Am
open PySem L2
section
variable (K:au) (ρ:bb) (H:Hp)
abbrev ClN (K:au)(c:Str)(C:ak):Prop:=PySem.W.nsIn K mainGlobals c=some (some<|.ref C)
abbrev Fz (K:au)(H:Hp)(a:ak)(vs:List V):Prop:=
 (∃o,H a=some (.frz o<|.lst vs))\/∃(o:Obj) (d:Array af) (n:Nat),K.lookup a=some o/\o.cls=.type "list" /\ o.dict=none/\o.data=.seq d n/\d.size<=sizeLine/\Vals vs d.toList
abbrev KTp (K:au)(a:ak)(vs:List V):Prop:=∃(o:Obj) (d:Array af) (n:Nat),K.lookup a=some o/\o.cls=.type "tuple" /\ o.dict=none/\o.data=.seq d n/\d.size<=sizeLine/\Vals vs d.toList
mutual
inductive AV:A->V->Prop
 | non:AV .non .non
 | bl (b:Bool):AV (.bl b) (.bl b)
 | int (i:Int):AV (.int i) (.int i)
 | str (x:Str):AV (.str x) (.str x)
 | ty (n:String):AV (.ty n) (.ty n)
 | tup {a:ak} {xs:ae} {vs:List V} (h:H a=some (.tup vs)) (r:AVs xs vs):AV (.tup xs) (.ref a)
 | frz {a:ak} {xs:ae} {vs:List V} (h:Fz K H a vs) (r:AVs xs vs):AV (.frz xs) (.ref a)
 | rng {a:ak} {lo hi:Int} (h:H a=some (.rng lo hi)):AV (.rng lo hi) (.ref a)
 | ref {a:ak} {n:Nat} (h:ρ[n]?=some a):AV (.ref n) (.ref a)
 | exn {a C:ak} {c:Str} {oe:Obj} (n:ClN K c C) (h:H a=some (.frz oe xu)) (x:XO C oe):AV (.exn c) (.ref a)
 | ktu {a:ak} {xs:ae} {vs:List V} (h:KTp K a vs) (r:AVs xs vs):AV (.ktu xs)<|.ref a
inductive AVs:ae->List V->Prop
 | nil:AVs [] []
 | cons {x:A} {v:V} {xs:ae} {vs:List V} (h:AV x v) (t:AVs xs vs):AVs (x::xs) (v::vs)
end
abbrev DV:List (ag×A)->List (List Key×V)->Prop
 | [],[]=>True
 | p::r,q::r'=>(q.1=p.1.map Sum.inl/\AV K ρ H p.2 q.2)/\DV r r'
 | _,_=>False
abbrev DI:List (Int×A)->List (Key×V)->Prop
 | [],[]=>True
 | p::r,q::r'=>(q.1=Sum.inl p.1/\AV K ρ H p.2 q.2)/\DI r r'
 | _,_=>False
abbrev DP:List (L2.nG×A)->List (L2.nG×ak×af)->Prop
 | [],[]=>True
 | p::r,q::r'=>(q.1=p.1/\L2.tZ H q.2.1 q.1/\∃v,RelV v q.2.2/\AV K ρ H p.2 v)/\DP r r'
 | _,_=>False
abbrev OR (a:ak):O->Prop
 | .lst xs=>∃d,H a=some (.lst d)/\AVs K ρ H xs d
 | .dct kvs=>∃ks,H a=some (.dT ks)/\DV K ρ H kvs ks
 | .qQ kvs=>∃ks,H a=some (.dK ks)/\DI K ρ H kvs ks
 | .vW kvs=>∃xs,H a=some (.ext<|L2.wV a xs)/\DP K ρ H kvs xs
 | .dcf kvs=>∃o ks,H a=some (.frz o<|.dT ks)/\DV K ρ H kvs ks
 | .ins _ _=>∃o u,H a=some (.frz o u)
structure Rel (S:jU):Prop where
 len:ρ.length=S.length
 nd:ρ.Nodup
 «at»:∀(n:Nat) (a:ak) (o:O),ρ[n]?=some a->S[n]?=some o->OR K ρ H a o
end
abbrev Imm:HO->Prop
 | .tup _=>True
 | .rng _ _=>True
 | .frz _ _=>True
 | _=>False
structure Ext0 (ρ ρ':bb)(H H':Hp):Prop where
 pre:ρ <+: ρ'
 im:∀a u,Imm u->H a=some u->H' a=some u
structure Ext (ρ ρ':bb)(H H':Hp):Prop extends Ext0 ρ ρ' H H' where
 fr:∀a u,H a=some u->a∉ρ->H' a=some u
 nw:∀a,a∈ρ'->a∈ρ\/H a=none
def Ext.refl{H:Hp}:Ext ρ ρ H H:=⟨⟨dX _,λ_ _ _ h=>h⟩,λ_ _ h _=>h,λ_ h=>.inl h⟩
def Ext.trans{H H1 H2:Hp}(a:Ext ρ ρ1 H H1)(b:Ext ρ1 ρ2 H1 H2):Ext ρ ρ2 H H2:=⟨⟨a.pre.trans b.pre,λx u i h=>b.im x u i<|a.im x u i h⟩,λx u h n=>b.fr x u (a.fr x u h n) λz=>(a.nw x z).elim n λz=>by(rw[z]at h;cases h),λx h=>by
 by_cases d:x∈ρ
 ·exact .inl d
 ·right
  cases q:H x with
  | none=>rfl
  | some u=>
   rcases b.nw x h with z|z
   ·exact((a.nw x z).elim d λz=>by(rw[z]at q;cases q)).elim
   ·rw[a.fr x u q d]at z;cases z⟩
def Ext0.get{H H':Hp}(e:Ext0 ρ ρ' H H'){n:Nat}{a:ak}(h:ρ[n]?=some a):ρ'[n]?=some a:=by
 obtain⟨t,rfl⟩:=e.pre;rw[bB (aJ.mp h).1];exact h
section
variable {K:au}{ρ ρ':bb}{H H':Hp}
def Ext0.sqT(e:Ext0 ρ ρ' H H'){a:ak}(h:nO K H a vs):nO K H' a vs:=by
 rcases h with(h|⟨o,h⟩)|h
 ·exact .inl (.inl<|e.im _ _ trivial h)
 ·exact .inl (.inr ⟨o,e.im _ _ trivial h⟩)
 ·exact .inr h
def Ext0.fz(e:Ext0 ρ ρ' H H'){a:ak}(h:Fz K H a vs):Fz K H' a vs:=by
 rcases h with⟨o,h⟩|h
 ·exact .inl ⟨o,e.im _ _ trivial h⟩
 ·exact .inr h
def Fz.SD{a:ak}(h:Fz K H a vs):qe K H a vs:=by
 rcases h with⟨o,h⟩|h
 ·exact .inl (.inr ⟨o,h⟩)
 ·exact .inr h
mutual
theorem AV.m_(e:Ext0 ρ ρ' H H'):∀{x:A}{v:V},AV K ρ H x v->AV K ρ' H' x v
 | _,_,.non=>.non
 | _,_,.bl b=>.bl b
 | _,_,.int i=>.int i
 | _,_,.str x=>.str x
 | _,_,.ty x=>.ty x
 | _,_,.tup h r=>.tup (e.im _ _ trivial h) (AVs.m_ e r)
 | _,_,.frz h r=>.frz (e.fz h) (AVs.m_ e r)
 | _,_,.rng h=>.rng (e.im _ _ trivial h)
 | _,_,.ref h=>.ref (e.get h)
 | _,_,.exn n h x=>.exn n (e.im _ _ trivial h) x
 | _,_,.ktu h r=>.ktu h<|AVs.m_ e r
theorem AVs.m_(e:Ext0 ρ ρ' H H'):∀{xs:ae}{vs:List V},AVs K ρ H xs vs->AVs K ρ' H' xs vs
 | _,_,.nil=>.nil
 | _,_,.cons h t=>.cons (AV.m_ e h)<|AVs.m_ e t
end
theorem DV.m_(e:Ext0 ρ ρ' H H'):∀{xs:List<|ag×A}{vs:List<|List Key×V},DV K ρ H xs vs->DV K ρ' H' xs vs
 | [],[],_=>trivial
 | _::_,_::_,⟨⟨a,b⟩,r⟩=>⟨⟨a,AV.m_ e b⟩,DV.m_ e r⟩
def DV.ext{x:List<|ag×A}{v:List<|List Key×V}(h:DV K ρ H x v)(e:Ext ρ ρ' H H'):DV K ρ' H' x v:=DV.m_ e.toExt0 h
theorem DI.m_(e:Ext0 ρ ρ' H H'):∀{xs:List<|Int×A}{vs:List<|Key×V},DI K ρ H xs vs->DI K ρ' H' xs vs
 | [],[],_=>trivial
 | _::_,_::_,⟨⟨a,b⟩,r⟩=>⟨⟨a,AV.m_ e b⟩,DI.m_ e r⟩
def DI.ext{x:List<|Int×A}{v:List<|Key×V}(h:DI K ρ H x v)(e:Ext ρ ρ' H H'):DI K ρ' H' x v:=DI.m_ e.toExt0 h
def tZ.m_{k:L2.nG}(e:Ext0 ρ ρ' H H'):L2.tZ H b k->L2.tZ H' b k:=λ⟨r1,r2,h1,h2,h3⟩=>⟨r1,r2,e.im _ _ trivial h1,e.im _ _ trivial h2,e.im _ _ trivial h3⟩
theorem DP.m_(e:Ext0 ρ ρ' H H'):∀{xs:List<|L2.nG×A}{vs:List<|L2.nG×ak×af},DP K ρ H xs vs->DP K ρ' H' xs vs
 | [],[],_=>trivial
 | _::_,_::_,⟨⟨a,k,v,c,b⟩,r⟩=>⟨⟨a,tZ.m_ e k,v,c,AV.m_ e b⟩,DP.m_ e r⟩
def DP.ext{x:List<|L2.nG×A}{v:List<|L2.nG×ak×af}(h:DP K ρ H x v)(e:Ext ρ ρ' H H'):DP K ρ' H' x v:=DP.m_ e.toExt0 h
def AV.ext{x:A}{v:V}(h:AV K ρ H x v)(e:Ext ρ ρ' H H'):AV K ρ' H' x v:=AV.m_ e.toExt0 h
def AVs.ext{x:ae}{v:List V}(h:AVs K ρ H x v)(e:Ext ρ ρ' H H'):AVs K ρ' H' x v:=AVs.m_ e.toExt0 h
theorem AVs.length:∀{xs:ae}{vs:List V},AVs K ρ H xs vs->xs.length=vs.length
 | _,_,.nil=>rfl
 | _,_,.cons _ t=>cV (·+1)<|AVs.length t
theorem AVs.append:∀{xs ys:ae}{vs ws:List V},AVs K ρ H xs vs->AVs K ρ H ys ws->AVs K ρ H (xs++ys) (vs++ws)
 | _,_,_,_,.nil,s=>s
 | _,_,_,_,.cons h t,s=>.cons h<|AVs.append t s
theorem AVs.take:∀{xs:ae}{vs:List V}(n:Nat),AVs K ρ H xs vs->AVs K ρ H (xs.take n) (vs.take n)
 | _,_,0,_=>.nil
 | _,_,_+1,.nil=>.nil
 | _,_,n+1,.cons h t=>.cons h<|AVs.take n t
theorem AVs.reverse:∀{xs:ae}{vs:List V},AVs K ρ H xs vs->AVs K ρ H xs.reverse vs.reverse
 | _,_,.nil=>.nil
 | _,_,.cons h t=>by rw[h_,h_];exact(AVs.reverse t).append (.cons h .nil)
theorem AVs.get:∀{xs:ae}{vs:List V}{i:Nat}{x:A},AVs K ρ H xs vs->xs[i]?=some x->∃v,vs[i]?=some v/\AV K ρ H x v
 | _,_,_,_,.nil,e=>by simp at e
 | _,_,0,_,.cons h _,e=>by simp at e;subst e;exact⟨_,rfl,h⟩
 | _,_,i+1,x,.cons _ t,e=>by
  obtain⟨u,h1,h2⟩:=AVs.get (i:=i) (x:=x) t (by simpa using e);exact⟨u,by simpa using h1,h2⟩
theorem AVs.set{x:A}{v:V}(h:AV K ρ H x v):∀{xs:ae}{vs:List V}(i:Nat),AVs K ρ H xs vs->AVs K ρ H (xs.set i x) (vs.set i v)
 | _,_,_,.nil=>.nil
 | _,_,0,.cons _ t=>.cons h t
 | _,_,i+1,.cons q t=>.cons q<|AVs.set h i t
def AVs.one{x:A}{v:V}(h:AV K ρ H x v):AVs K ρ H [x] [v]:=.cons h .nil
theorem AVs.eraseIdx:∀{xs:ae}{vs:List V}(i:Nat),AVs K ρ H xs vs->AVs K ρ H (xs.eraseIdx i) (vs.eraseIdx i)
 | _,_,_,.nil=>.nil
 | _,_,0,.cons _ t=>t
 | _,_,i+1,.cons q t=>.cons q<|AVs.eraseIdx i t
theorem rY:∀(ns:ag),AVs K ρ H (ns.map .int) (ns.map .int)
 | []=>.nil
 | n::ns=>.cons (.int n)<|rY ns
def Rel.lay{S:jU}{p:ak}(R:Rel K ρ H S)(hp:H p=none)(r:AVs K ρ H xs vs):Ext ρ (ρ++[p]) H (upd H p<|.lst vs)/\Rel K (ρ++[p]) (upd H p<|.lst vs) (S++[.lst xs])/\(ρ++[p])[S.length]?=some p:=by
 have ex:Ext ρ (ρ++[p]) H (upd H p<|.lst vs):=⟨⟨dY _ _,λa u _ h=>by rw[j0<|kh h hp];exact h⟩,λa u h _=>by rw[j0<|kh h hp];exact h,λa h=>by
  rcases bG.mp h with z|z
  ·exact .inl z
  ·have e:a=p:=by simpa using z
   rw[e];exact .inr hp⟩
 have g:∀(n:Nat) (a:ak),ρ[n]?=some a->a≠p:=by
  intro n a e z;subst z;have hn:n<S.length:=by rw[<- R.len];exact(aJ.mp e).1
  have:=R.at n a S[n] e (aI hn)
  cases j:S[n]with
  | lst xs=>rw[j]at this;obtain⟨vs,h,_⟩:=this;rw[hp]at h;cases h
  | dct _|qQ _|vW _=>rw[j]at this;obtain⟨vs,h,_⟩:=this;rw[hp]at h;cases h
  | dcf _=>rw[j]at this;obtain⟨_,vs,h,_⟩:=this;rw[hp]at h;cases h
  | ins _ _=>rw[j]at this;obtain⟨_,_,h⟩:=this;rw[hp]at h;cases h
 have d:(ρ++[p])[S.length]?=some p:=by rw[<- R.len];simp
 refine⟨ex,⟨by simp[R.len],?_,?_⟩,d⟩
 ·rw[cy];f_are;have:b=p:=by simpa using hb
  obtain⟨n,hn,B⟩:=bQ.mp ha;exact g n a (by rw[aI hn,B])<|e.trans this
 ·intro n a o h1 h2;by_cases hn:n<S.length
  ·rw[bB<|by rw[R.len];exact hn]at h1;rw[bB hn]at h2;have:=R.at n a o h1 h2
   cases o with
   | lst ys=>obtain⟨f,e,q⟩:=this;exact⟨f,by rw[j0<|g n a h1];exact e,q.ext ex⟩
   | dct _|qQ _|vW _=>obtain⟨f,e,q⟩:=this;exact⟨f,by rw[j0<|g n a h1];exact e,q.ext ex⟩
   | dcf _=>obtain⟨k,f,e,q⟩:=this;exact⟨k,f,by rw[j0<|g n a h1];exact e,q.ext ex⟩
   | ins _ _=>obtain⟨k,t,e⟩:=this;exact⟨k,t,by rw[j0<|g n a h1];exact e⟩
  ·have e:n=S.length:=by
    have:=(aJ.mp h2).1;simp at this
    lia
   subst e;rw[d]at h1
   cases h1
   simp at h2;subst h2;exact⟨vs,kQ,r.ext ex⟩
def Rel.im{p:ak}(R:Rel K ρ H S)(hp:H p=none):Ext ρ ρ H (upd H p u)/\Rel K ρ (upd H p u) S:=by
 have ex:Ext ρ ρ H (upd H p u):=⟨⟨dX _,λa u _ h=>by rw[j0<|kh h hp];exact h⟩,λa u h _=>by rw[j0<|kh h hp];exact h,λ_ h=>.inl h⟩;refine⟨ex,R.len,R.nd,λn a o h1 h2=>?_⟩;have:=R.at n a o h1 h2
 cases o with
 | lst ys=>obtain⟨d,e,q⟩:=this;exact⟨d,by rw[j0<|kh e hp];exact e,q.ext ex⟩
 | dct _|qQ _|vW _=>obtain⟨d,e,q⟩:=this;exact⟨d,by rw[j0<|kh e hp];exact e,q.ext ex⟩
 | dcf _=>obtain⟨f,d,e,q⟩:=this;exact⟨f,d,by rw[j0<|kh e hp];exact e,q.ext ex⟩
 | ins _ _=>obtain⟨f,g,e⟩:=this;exact⟨f,g,by rw[j0<|kh e hp];exact e⟩
def Rel.put{S:jU}{n:Nat}{a:ak}(R:Rel K ρ H S)(ha:ρ[n]?=some a)(hS:S[n]?=some (.lst xs))(r:AVs K ρ H ys ws):Ext ρ ρ H (upd H a<|.lst ws)/\Rel K ρ (upd H a<|.lst ws) (S.set n<|.lst ys):=by
 obtain⟨t,e,_⟩:=R.at n a _ ha hS;have ex:Ext ρ ρ H (upd H a<|.lst ws):=⟨⟨dX _,λb u i h=>by
  have:b≠a:=by
   intro z;subst z;rw[e]at h;cases h;exact i
  rw[j0 this];exact h⟩,λb u h n=>by
  rw[j0 λz=>n<|by rw[z];exact a_ ha];exact h,λ_ h=>.inl h⟩
 refine⟨ex,by rw[bU];exact R.len,R.nd,λm b o h1 h2=>?_⟩;by_cases g:m=n
 ·subst g;rw[ha]at h1;cases h1;rw[bE (aJ.mp hS).1]at h2
  cases h2
  exact⟨ws,kQ,r.ext ex⟩
 ·rw[bM<|cR g]at h2;have nb:b≠a:=λz=>by
   subst z;obtain⟨p,e1⟩:=aJ.mp ha;obtain⟨B,e2⟩:=aJ.mp h1;exact g<|(cg R.nd).mp<|e2.trans e1.symm
  have:=R.at m b o h1 h2
  cases o with
  | lst ys=>obtain⟨d,f,q⟩:=this;exact⟨d,by rw[j0 nb];exact f,q.ext ex⟩
  | dct _|qQ _|vW _=>obtain⟨d,f,q⟩:=this;exact⟨d,by rw[j0 nb];exact f,q.ext ex⟩
  | dcf _=>obtain⟨j,d,f,q⟩:=this;exact⟨j,d,by rw[j0 nb];exact f,q.ext ex⟩
  | ins _ _=>obtain⟨j,k,f⟩:=this;exact⟨j,k,by rw[j0 nb];exact f⟩
def Rel.lst{n:Nat}{a:ak}(R:Rel K ρ H S)(ha:ρ[n]?=some a)(hS:S[n]?=some (.lst xs)):∃vs,H a=some (.lst vs)/\AVs K ρ H xs vs:=R.at n a _ ha hS
structure SR (K:au)(ρ:bb)(H:Hp)(τ:ae)(σ:St):Prop where
 len:τ.length=σ.length
 «at»:∀(i:Nat) (a:A),τ[i]?=some a->a=.unb\/∃v,σ[i]?=some (some v)/\AV K ρ H a v
def SR.m_(s:SR K ρ H τ σ)(e:Ext0 ρ ρ' H H'):SR K ρ' H' τ σ:=⟨s.len,λi a h=>by
 rcases s.at i a h with z|⟨v,h1,h2⟩
 ·exact .inl z
 ·exact .inr ⟨v,h1,AV.m_ e h2⟩⟩
def SR.ext(s:SR K ρ H τ σ)(e:Ext ρ ρ' H H'):SR K ρ' H' τ σ:=s.m_ e.toExt0
def Rel.out{D:ak}(R:Rel K ρ H S)(hD:H D=some (.lst vs))(hn:D∉ρ):Ext0 ρ ρ H (upd H D<|.lst ws)/\Rel K ρ (upd H D<|.lst ws) S:=by
 have ex:Ext0 ρ ρ H (upd H D<|.lst ws):=⟨dX _,λb u i h=>by
  have:b≠D:=by
   intro z;subst z;rw[hD]at h;cases h;exact i
  rw[j0 this];exact h⟩
 refine⟨ex,R.len,R.nd,λn a o h1 h2=>?_⟩;have na:a≠D:=λz=>hn (by rw[<- z];exact a_ h1);have:=R.at n a o h1 h2
 cases o with
 | lst ys=>obtain⟨d,e,q⟩:=this;exact⟨d,by rw[j0 na];exact e,AVs.m_ ex q⟩
 | dct _|qQ _|vW _=>obtain⟨d,e,q⟩:=this;exact⟨d,by rw[j0 na];exact e,q.m_ ex⟩
 | dcf _=>obtain⟨f,d,e,q⟩:=this;exact⟨f,d,by rw[j0 na];exact e,q.m_ ex⟩
 | ins _ _=>obtain⟨f,g,e⟩:=this;exact⟨f,g,by rw[j0 na];exact e⟩
def Rel.take{S:jU}{D:ak}(R:Rel K ρ H S)(hD:H D=some (.lst vs))(hn:D∉ρ)(r:AVs K ρ H xs vs):Rel K (ρ++[D]) H (S++[.lst xs])/\(ρ++[D])[S.length]?=some D:=by
 have ex:Ext0 ρ (ρ++[D]) H H:=⟨dY _ _,λ_ _ _ h=>h⟩;have d:(ρ++[D])[S.length]?=some D:=by rw[<- R.len];simp
 refine⟨⟨by simp[R.len],?_,λn a o h1 h2=>?_⟩,d⟩
 ·rw[cy];f_are;have:b=D:=by simpa using hb
  exact hn<|by rw[<- this,<- e];exact ha
 ·by_cases hs:n<S.length
  ·rw[bB<|by rw[R.len];exact hs]at h1;rw[bB hs]at h2;have:=R.at n a o h1 h2
   cases o with
   | lst ys=>obtain⟨f,e,q⟩:=this;exact⟨f,e,AVs.m_ ex q⟩
   | dct _|qQ _|vW _=>obtain⟨f,e,q⟩:=this;exact⟨f,e,q.m_ ex⟩
   | dcf _=>obtain⟨g,f,e,q⟩:=this;exact⟨g,f,e,q.m_ ex⟩
   | ins _ _=>obtain⟨g,j,e⟩:=this;exact⟨g,j,e⟩
  ·have e:n=S.length:=by
    have:=(aJ.mp h2).1;simp at this
    lia
   subst e;rw[d]at h1
   cases h1
   simp at h2;subst h2;exact⟨vs,hD,AVs.m_ ex r⟩
def SR.set{τ:ae}{σ:St}{a:A}{v:V}(s:SR K ρ H τ σ)(h:AV K ρ H a v):SR K ρ H (τ.set i a) (σ.set i<|some v):=by
 refine⟨by simp[s.len],λj b e=>?_⟩;by_cases d:j=i
 ·subst d;have f:j<τ.length:=by
   have:=(aJ.mp e).1;simpa using this
  rw[bE f]at e
  cases e
  exact .inr ⟨v,bE<|by rw[<- s.len];exact f,h⟩
 ·rw[bM<|cR d]at e;rw[bM<|cR d];exact s.at j b e
end
end Am
namespace Am
open PySem PySem.Spec PyProof.Rows L2
abbrev XE (X:Cx)(ρ:bb)(H:Hp):Str->jU->Prop:=λc d=>∀(C:ak) (ρ':bb) (H':Hp),ClN X.K c C->Ext ρ ρ' H H'->Rel X.K ρ' H' d->EX X (.ref C) none H'
def XE.ext{X:Cx}{H H':Hp}{c:Str}(h:XE X ρ H c S)(e:Ext ρ ρ' H H'):XE X ρ' H' c S:=λC ρ2 H2 n e2=>h C ρ2 H2 n<|e.trans e2
abbrev zN (X:Cx)(ρ:bb)(H:Hp)(Q:VK):A->jU->Prop:=λa d=>∀ρ' H' v,Ext ρ ρ' H H'->Rel X.K ρ' H' d->AV X.K ρ' H' a v->Q v H'
abbrev okB (X:Cx)(ρ:bb)(H:Hp)(Q:Bool->Hp->Prop):Bool->jU->Prop:=λb d=>∀ρ' H',Ext ρ ρ' H H'->Rel X.K ρ' H' d->Q b H'
abbrev okL (X:Cx)(ρ:bb)(H:Hp)(Q:List V->Hp->Prop):ae->jU->Prop:=λf g=>∀ρ' H' d,Ext ρ ρ' H H'->Rel X.K ρ' H' g->AVs X.K ρ' H' f d->Q d H'
def zN.ext{X:Cx}{H H':Hp}{Q:VK}{a:A}(h:zN X ρ H Q a S)(e:Ext ρ ρ' H H'):zN X ρ' H' Q a S:=λρ2 H2 v e2=>h ρ2 H2 v<|e.trans e2
def okB.ext{X:Cx}{H H':Hp}{Q:Bool->Hp->Prop}{a:Bool}(h:okB X ρ H Q a S)(e:Ext ρ ρ' H H'):okB X ρ' H' Q a S:=λρ2 H2 e2=>h ρ2 H2<|e.trans e2
def jX{α:Type}{X:Cx}{H H':Hp}{r:R α}{P P':α->jU->Prop}(h:r.post P<|XE X ρ H)(e:Ext ρ ρ' H H')(hp:∀a S,P a S->P' a S):r.post P' (XE X ρ' H'):=LA h hp λ_ _ z=>z.ext e
abbrev tE (X:Cx)(c:Ex):TE:=λσ H Q=>∃ρ S τ,Rel X.K ρ H S/\SR X.K ρ H τ σ/\(c τ S).post (zN X ρ H Q) (XE X ρ H)
abbrev tT (X:Cx)(c:Te):TT:=λσ H Q=>∃ρ S τ,Rel X.K ρ H S/\SR X.K ρ H τ σ/\(c τ S).post (okB X ρ H Q) (XE X ρ H)
abbrev tL (X:Cx)(c:sW):TA:=λσ H Q=>∃ρ S τ,Rel X.K ρ H S/\SR X.K ρ H τ σ/\(c τ S).post (okL X ρ H Q) (XE X ρ H)
abbrev AE (X:Cx)(e:aE)(c:Ex):Prop:=PE X e<|tE X c
abbrev AT (X:Cx)(e:aE)(c:Te):Prop:=PT X e<|tT X c
abbrev AW (X:Cx)(e:aE)(c:Te):Prop:=PW X e<|tT X c
abbrev AL (X:Cx)(es:List aE)(c:sW):Prop:=PA X es<|tL X c
def PE.imp{X:Cx}{e:aE}{t t':TE}(h:PE X e t)(i:∀σ H Q,t' σ H Q->t σ H Q):PE X e t':=λpins s σ H Q I q=>h pins s σ H Q I<|i σ H Q q
def PT.imp{X:Cx}{e:aE}{t t':TT}(h:PT X e t)(i:∀σ H Q,t' σ H Q->t σ H Q):PT X e t':=λpins s σ H Q I q=>h pins s σ H Q I<|i σ H Q q
def PW.imp{X:Cx}{e:aE}{t t':TT}(h:PW X e t)(i:∀σ H Q,t' σ H Q->t σ H Q):PW X e t':=λw pins s σ H Q I q=>h w pins s σ H Q I<|i σ H Q q
def PA.imp{X:Cx}{e:List aE}{t t':TA}(h:PA X e t)(i:∀σ H Q,t' σ H Q->t σ H Q):PA X e t':=λp pins s σ H Q I q=>h p pins s σ H Q I<|i σ H Q q
def AW.at{X:Cx}{e:aE}{c:Te}(h:AW X e c):AT X e c:=h _
abbrev A.pV:A->Bool
 | .unb=>true
 | _=>false
abbrev jQ (i:Nat):Ex:=λτ S=>if (τ.getD i .unb).pV then .no else .ok (τ.getD i .unb) S
abbrev eC (a:A):Ex:=λ_ S=>.ok a S
section
variable {X:Cx}{pos:Pos}{a b:aE}
def jP(i:Nat){x:Str}(hN:X.N[i]?=some x:=by rfl)(hv:Z5 X.env.scope x:=by first|exact Or.inl rfl|exact Or.inr (Or.inl rfl)|exact Or.inr<|Or.inr rfl)(hd:(x == ("__debug__" : Str))=false:=by decide)
  (hcd:(x == ("__classdict__" : Str))=false:=by decide):AE X (.Name x pos) (jQ i):=PE.imp (Yp hN hv hd hcd) λσ H Q h9=>by
 x_go;unfold jQ at h
 cases d:τ[i]? with
 | none=>
  rw[aK,d]at h;exact h.elim
 | some x=>
  rw[aK,d]at h
  rcases r.at i x d with z|⟨v,e,q⟩
  ·subst z;exact h.elim
  ·refine⟨v,e,?_⟩
   cases x<;>first|(exact h ρ H v .refl R q)|exact h.elim
def j6{i:Int}{j pos}:AE X (.Constant (.int i) j pos) (eC<|.int i):=PE.imp Ys λσ H Q ⟨ρ,S,τ,R,r,h⟩=>h ρ H _ .refl R<|.int i
def ET{j pos}:AE X (.Constant (.bool i) j pos) (eC<|.bl i):=PE.imp aat λσ H Q ⟨ρ,S,τ,R,r,h⟩=>h ρ H _ .refl R<|.bl i
def OU{j pos}:AE X (.Constant .none j pos) (eC .non):=PE.imp WN λσ H Q ⟨ρ,S,τ,R,r,h⟩=>h ρ H _ .refl R .non
def Rh{x:Str}{i:Int}{t:Tok}(hm:X.mg x=some (.int i t))(hg:Gl X x:=by rfl)(hd:(x == ("__debug__" : Str))=false:=by decide):AE X (.Name x pos) (eC<|.int i):=
 PE.imp (JC (v:=.int i) hg hm ⟨t,rfl⟩ hd) λσ H Q ⟨ρ,S,τ,R,r,h⟩=>h ρ H _ .refl R<|.int i
abbrev j4 (f:A->A->jU->R A)(ca cb:Ex):Ex:=λτ S=>(ca τ S).bind λa S1=>(cb τ S1).bind λb S2=>f a b S2
abbrev r2 (X:Cx)(f:A->A->jU->R A):R2:=λx y H Q=>∃ρ S a b,Rel X.K ρ H S/\AV X.K ρ H a x/\AV X.K ρ H b y/\(f a b S).post (zN X ρ H Q) (XE X ρ H)
abbrev r1 (X:Cx)(f:A->jU->R A):V->Hp->VK->Prop:=λx H Q=>∃ρ S a,Rel X.K ρ H S/\AV X.K ρ H a x/\(f a S).post (zN X ρ H Q) (XE X ρ H)
abbrev rN (X:Cx)(f:ae->jU->R A):List V->Hp->VK->Prop:=λxs H Q=>∃ρ S d,Rel X.K ρ H S/\AVs X.K ρ H d xs/\(f d S).post (zN X ρ H Q) (XE X ρ H)
def oY.imp{f:af->af->Sem af}{r r':R2}(h:oY X f r)(i:∀x y H Q,r' x y H Q->r x y H Q):oY X f r':=λpins s σ H x y v u Q I rx ry q=>h pins s σ H x y v u Q I rx ry<|i _ _ _ _ q
def kP.imp{f:af}{r r':List V->Hp->VK->Prop}(h:kP X f r)(i:∀x H Q,r' x H Q->r x H Q):kP X f r':=λpins s σ H x v Q I rx q=>h pins s σ H x v Q I rx<|i _ _ _ q
def ux{f:A->A->jU->R A}{ca cb:Ex}{H:Hp}{Q:VK}(h:tE X (j4 f ca cb) σ H Q):tOp (r2 X f) (tE X ca) (tE X cb) σ H Q:=by
 kl_no;refine⟨ρ,S,τ,R,r,jX (j5 h) .refl λa S1 h1 ρ1 H1 x e1 R1 v1=>⟨ρ1,S1,τ,R1,r.ext e1,jX (j5 h1) e1 λb S2 h2 ρ2 H2 y e2 R2 v2=>?_⟩⟩;exact⟨ρ2,S2,a,b,R2,v1.ext e2,v2,jX h2 (e1.trans e2) λc S3 h3=>h3.ext<|e1.trans e2⟩
def ko{f:A->A->jU->R A}{ca cb:Ex}(ho:oY X (binaryOp op)<|r2 X f)(ha:AE X a ca)(hb:AE X b cb):AE X (.BinOp a op b pos) (j4 f ca cb):=
 PE.imp (aaB ho ha hb) λσ H Q h=>ux h
def Xr{op:CmpOp}{f:A->A->jU->R A}{ca cb:Ex}(ho:oY X (compareOp op)<|r2 X f)(ha:AE X a ca)(hb:AE X b cb)(hm:behindInMarks op b=false:=by first|exact OY _|with_unfolding_all rfl):AE X (.Compare a [op] [b] pos) (j4 f ca cb):=
 PE.imp (SS ho ha hb hm) λσ H Q h=>ux h
abbrev A.VB:A->jU->bi
 | .non,_=>some false
 | .bl b,_=>some b
 | .int i,_=>some (i != 0)
 | .str x,_=>if x.length<=sizeLine then some ((x.length:Int) != 0)else none
 | .tup xs,_=>some (!xs.isEmpty)
 | .frz xs,_=>some (!xs.isEmpty)
 | .ref n,S=>(jS S n).map λxs=>!xs.isEmpty
 | _,_=>none
abbrev tB (c:Ex):Te:=λτ S=>(c τ S).bind λa S1=>opt (a.VB S1) λb=>.ok b S1
abbrev pR (c:Ex):Te:=λτ S=>(c τ S).bind λa S1=>match a with
 | .bl b=>.ok b S1
 | _=>.no
def E9{K:au}{H:Hp}{b:Bool}{v:V}(h:AV K ρ H (.bl b) v):v=.bl b:=by cases h;rfl
def lV{op:CmpOp}{f:A->A->jU->R A}{ca cb:Ex}(ho:oY X (compareOp op)<|r2 X f)(ha:AE X a ca)(hb:AE X b cb)(hm:behindInMarks op b=false:=by first|exact OY _|with_unfolding_all rfl):AT X (.Compare a [op] [b] pos) (pR<|j4 f ca cb):=
 PT.imp (UX ho ha hb hm) λσ H Q h9=>by
  x_go;refine ux ⟨ρ,S,τ,R,r,jX (j5 h) .refl λc S1 h1 ρ1 H1 x e1 R1 v1=>?_⟩
  cases c with
  | bl k=>cases E9 v1;exact⟨k,rfl,h1 ρ1 H1 e1 R1⟩
  | _=>exact h1.elim
def W_{K:au}{H:Hp}{x:A}{v:V}{b:Bool}(R:Rel K ρ H S)(h:AV K ρ H x v)(e:x.VB S=some b):Xi K v H b:=by
 have d:∀{xs:ae} {f:List V},AVs K ρ H xs f->(!xs.isEmpty)=!f.isEmpty:=λr=>by cases r<;>rfl
 cases h with
 | non=>exact(br e).symm
 | bl b=>exact(br e).symm
 | int i=>exact(br e).symm
 | str x=>
  by_cases g:x.length<=sizeLine
  ·exact⟨g,by have:=(aV g).symm.trans e;exact(br this).symm⟩
  ·have:=(aR g).symm.trans e;cases this
 | tup h r=>exact .inr (.inl ⟨_,nO.of h,by rw[<- d r];exact(br e).symm⟩)
 | frz h r=>exact .inl ⟨_,h.SD,by rw[<- d r];exact(br e).symm⟩
 | rng h=>cases e
 | ty n=>cases e
 | exn n h x=>cases e
 | ktu h r=>cases e
 | @ref a n h=>
  have e:(jS S n).map (λxs=>!xs.isEmpty)=some b:=e;obtain⟨xs,hn,e⟩:=aW.mp e;obtain⟨f,h1,h2⟩:=R.lst h<|j_ hn;exact .inl ⟨f,qe.of h1,by rw[<- d h2];exact e.symm⟩
def qC{ca:Ex}(ha:AE X a ca)(he:∀whole,isTrue a X.env whole=(do let v <- whole;standAt a.pos;holding [v] (truthy v)):=by intro _;rfl):AT X a (tB ca):=
 PT.imp (Q4 ha he) λσ H Q ⟨ρ,S,τ,R,r,h⟩=>⟨ρ,S,τ,R,r,jX (j5 h) .refl λc S1 h1 ρ1 H1 x e1 R1 v1=>by
  obtain⟨b,hb,h1⟩:=jY h1;exact⟨b,W_ R1 v1 hb,h1 ρ1 H1 e1 R1⟩⟩
abbrev Fe (c:Te):Te:=λτ S=>(c τ S).bind λb S1=>.ok (!b) S1
abbrev zU (c d:Te):Te:=λτ S=>(c τ S).bind λb S1=>match b with|true=>d τ S1|false=>.ok false S1
abbrev XF (c d:Te):Te:=λτ S=>(c τ S).bind λb S1=>match b with|true=>.ok true S1|false=>d τ S1
def Bg{c:Te}(h:AT X a c):AT X (.UnaryOp .Not a pos) (Fe c):=PT.imp (X_ h) λσ H Q ⟨ρ,S,τ,R,r,h⟩=>⟨ρ,S,τ,R,r,jX (j5 h) .refl λb S1 h1=>h1⟩
def and_imp{c d:Te}{H:Hp}{Q:Bool->Hp->Prop}(h:tT X (zU c d) σ H Q):aaJ (tT X c) (tT X d) σ H Q:=by
 kl_no;refine⟨ρ,S,τ,R,r,jX (j5 h) .refl λb S1 h1 ρ1 H1 e1 R1=>?_⟩
 cases b with
 | true=>
  rw[aV rfl];exact⟨ρ1,S1,τ,R1,r.ext e1,jX h1 e1 λ_ _ z=>z.ext e1⟩
 | false=>
  rw[aR bF];exact h1 ρ1 H1 e1 R1
def or_imp{c d:Te}{H:Hp}{Q:Bool->Hp->Prop}(h:tT X (XF c d) σ H Q):tOr (tT X c) (tT X d) σ H Q:=by
 kl_no;refine⟨ρ,S,τ,R,r,jX (j5 h) .refl λb S1 h1 ρ1 H1 e1 R1=>?_⟩
 cases b with
 | false=>
  rw[aR bF];exact⟨ρ1,S1,τ,R1,r.ext e1,jX h1 e1 λ_ _ z=>z.ext e1⟩
 | true=>
  rw[aV rfl];exact h1 ρ1 H1 e1 R1
variable {rest:List aE}
def C4{c:Te}(h:AT X a c):AW X (.BoolOp .And [a] pos) c:=Tf h
def Om{c:Te}(h:AT X a c):AW X (.BoolOp .Or [a] pos) c:=WW h
def HL{c d:Te}(h:AT X a c)(h2:AW X (.BoolOp .And (b::rest) pos) d):AW X (.BoolOp .And (a::b::rest) pos) (zU c d):=PW.imp (YZ h h2) λ_ _ _ q=>and_imp q
def HW{c d:Te}(h:AT X a c)(h2:AW X (.BoolOp .Or (b::rest) pos) d):AW X (.BoolOp .Or (a::b::rest) pos) (XF c d):=PW.imp (aam h h2) λ_ _ _ q=>or_imp q
abbrev Nv (c d:Ex):Ex:=λτ S=>(c τ S).bind λa S1=>match a with | .bl true=>d τ S1 | .bl false=>.ok (.bl false) S1|_=>.no
abbrev eOr (c d:Ex):Ex:=λτ S=>(c τ S).bind λa S1=>match a with | .bl true=>.ok (.bl true) S1 | .bl false=>d τ S1|_=>.no
abbrev XT (c:Ex):Ex:=λτ S=>(c τ S).bind λa S1=>match a with | .bl b=>.ok (.bl !b) S1|_=>.no
def PZ{op}{c:Ex}(h:AE X a c):AE X (.BoolOp op [a] pos) c:=W4 h
def OA{c d:Ex}(h:AE X a c)(h2:AE X (.BoolOp .And (b::rest) pos) d):AE X (.BoolOp .And (a::b::rest) pos) (Nv c d):=PE.imp (WM h h2) λσ H Q h9=>by
 x_go;refine⟨ρ,S,τ,R,r,jX (j5 h) .refl λb S1 h1 ρ1 H1 x e1 R1 v1=>?_⟩
 cases b with
 | bl k=>
  cases E9 v1
  refine⟨k,rfl,?_⟩
  cases k with
  | true=>
   rw[aV rfl];exact⟨ρ1,S1,τ,R1,r.ext e1,jX h1 e1 λ_ _ z=>z.ext e1⟩
  | false=>
   rw[aR bF];exact h1 ρ1 H1 _ e1 R1<|.bl false
 | _=>exact h1.elim
def YE{c:Ex}(h:AE X a c):AE X (.UnaryOp .Not a pos) (XT c):=PE.imp (WU h) λσ H Q h9=>by
 x_go;refine⟨ρ,S,τ,R,r,jX (j5 h) .refl λb S1 h1 ρ1 H1 x e1 R1 v1=>?_⟩
 cases b with
 | bl k=>
  cases E9 v1
  exact⟨k,rfl,h1 ρ1 H1 _ e1 R1<|.bl _⟩
 | _=>exact h1.elim
abbrev eIf (t:Te)(c d:Ex):Ex:=λτ S=>(t τ S).bind λb S1=>match b with|true=>c τ S1|false=>d τ S1
abbrev jW:sW:=λ_ S=>.ok [] S
abbrev jR (c:Ex)(d:sW):sW:=λτ S=>(c τ S).bind λa S1=>(d τ S1).bind λf S2=>.ok (a::f) S2
def j3:AL X [] jW:=PA.imp Ad λσ H Q ⟨ρ,S,τ,R,r,h⟩=>h ρ H _ .refl R .nil
def jT{e:aE}{c:Ex}{d:sW}(ha:AE X e c)(hr:AL X es d)(hs:starEach (e::es) X.env=(false,eval e X.env)::starEach es X.env:=by rfl):AL X (e::es) (jR c d):=
 PA.imp (wg ha hr hs) λσ H Q h9=>by
  x_go;refine⟨ρ,S,τ,R,r,jX (j5 h) .refl λa S1 h1 ρ1 H1 x e1 R1 v1=>⟨ρ1,S1,τ,R1,r.ext e1,jX (j5 h1) e1 λf S2 h2 ρ2 H2 xs e2 R2 v2=>?_⟩⟩;exact h2 ρ2 H2 _ (e1.trans e2) R2<|.cons (v1.ext e2) v2
abbrev pP (d:sW):Ex:=λτ S=>(d τ S).bind λf S1=>gd (f.length<=sizeLine)<|.ok (.tup f) S1
abbrev newL (as:ae)(S:jU):R A:=gd (as.length<=sizeLine)<|.ok (.ref S.length)<|S++[.lst as]
abbrev n8 (d:sW):Ex:=λτ S=>(d τ S).bind λf S1=>newL f S1
def xR{H H0:Hp}{Q:VK}(R:Rel X.K ρ H S)(r:AVs X.K ρ H as vs)(e:Ext ρ0 ρ H0 H)(h:zN X ρ0 H0 Q (.tup as) S):∀p,H p=none->Q (.ref p) (upd H p<|.tup vs):=λp f=>by
 obtain⟨ex,d⟩:=R.im (u:=.tup vs) f;exact h ρ _ _ (e.trans ex) d<|.tup kQ<|r.ext ex
def o4{H H0:Hp}{S:jU}{Q:VK}(R:Rel X.K ρ H S)(r:AVs X.K ρ H as vs)(e:Ext ρ0 ρ H0 H)(h:zN X ρ0 H0 Q (.ref S.length)<|S++[.lst as]):∀p,H p=none->Q (.ref p) (upd H p<|.lst vs):=λp f=>by
 obtain⟨ex,d,g⟩:=R.lay f r;exact h _ _ _ (e.trans ex) d<|.ref g
def Vd{H H0:Hp}{vs:List V}{Q:VK}(R:Rel X.K ρ H S)(r:AVs X.K ρ H as vs)(e:Ext ρ0 ρ H0 H)(h:(newL as S).post (zN X ρ0 H0 Q)<|XE X ρ0 H0):vs.length<=sizeLine/\∀p,H p=none->Q (.ref p) (upd H p<|.lst vs):=by
 obtain⟨d,h⟩:=kD h;exact⟨by rw[<- r.length];exact d,o4 R r e h⟩
def oO{d:sW}{x1}(h:AL X es d):AE X (.Tuple es x1 pos) (pP d):=PE.imp (Zj h) λσ H Q h9=>by
 x_go;refine⟨ρ,S,τ,R,r,jX (j5 h) .refl λg S1 h1 ρ1 H1 xs e1 R1 v1=>?_⟩;obtain⟨f,h1⟩:=kD h1;exact⟨by rw[<- v1.length];exact f,xR R1 v1 e1 h1⟩
def mK{d:sW}(h:AL X es d):AE X (.List es pos) (n8 d):=PE.imp (WE h) λσ H Q ⟨ρ,S,τ,R,r,h⟩=>
 ⟨ρ,S,τ,R,r,jX (j5 h) .refl λf S1 h1 ρ1 H1 xs e1 R1 v1=>Vd R1 v1 e1 h1⟩
end
section
variable {X:Cx}{pos:Pos}{a b:aE}
abbrev aSub (a b:A)(S:jU):R A:=match a,b with
 | .int i,.int j=>.ok (.int<|i-j) S
 | _,_=>.no
def zg:oY X (binaryOp .Sub) (r2 X aSub):=oY.imp X5 λx y H Q h9=>by
 z_go
 cases va<;>first|exact h.elim|(cases vb<;>first|exact h.elim|exact⟨_,_,rfl,rfl,h _ _ _ .refl R<|.int _⟩)
abbrev xU (i j:Int):Bool:=(decide (-(2 ^ 64)<i) && decide (i<2 ^ 64)) || (decide (-(2 ^ 64)<j) && decide (j<2 ^ 64))
def mulOk_of{i j:Int}(h:xU i j=true):Vs i j:=by
 unfold xU at h;dsimp[Bool.or_eq_true,fH,iF]at h;exact h
abbrev yz (a b:A)(S:jU):R A:=match a,b with
 | .int i,.int j=>gd (xU i j) (.ok (.int<|i * j) S)
 | .ref n,.int k=>opt (jS S n) λxs=>gd (-(2 ^ 63)<=k/\k<2 ^ 63/\xs.length * k.toNat<=sizeLine) (.ok (.ref S.length)<|S++[.lst (List.replicate k.toNat xs).flatten])
 | _,_=>.no
theorem AVs.rep{K:au}{H:Hp}(r:AVs K ρ H xs vs):∀k:Nat,AVs K ρ H (List.replicate k xs).flatten (List.replicate k vs).flatten
 | 0=>.nil
 | k+1=>by rw[dD,dD,dF,dF];exact r.append<|AVs.rep r k
def z7:oY X (binaryOp .Mult) (r2 X yz):=λpins s σ H x y v u Q I rx ry h9=>by
 z_go
 cases va with
 | int i=>
  cases vb with
  | int j=>
   obtain⟨d,h⟩:=kD h;exact W3 pins s σ H _ _ v u Q I rx ry ⟨i,j,rfl,rfl,mulOk_of d,h _ _ _ .refl R<|.int _⟩
  | _=>exact h.elim
 | @ref p n g=>
  cases vb with
  | int k=>
   kj_on;obtain⟨hc,h⟩:=kD h;obtain⟨f,h1,h2⟩:=R.lst g<|j_ hn;exact Zg pins s σ H _ _ v u Q I rx ry ⟨p,k,f,rfl,rfl,h1,hc.1,hc.2.1,by rw[<- h2.length];exact hc.2.2,o4 R (h2.rep _) .refl h⟩
  | _=>exact h.elim
 | _=>exact h.elim
abbrev AY (a b:A)(S:jU):R A:=match a,b with
 | .int i,.int j=>gd (0<j/\j<18446744073709551616) (.ok (.int<|i / j) S)
 | _,_=>.no
def D8:oY X (binaryOp .FloorDiv) (r2 X AY):=oY.imp Qu λx y H Q h9=>by
 z_go
 cases va<;>first|exact h.elim|(cases vb<;>first|exact h.elim|exact⟨_,_,rfl,rfl,(kD h).1,(kD h).2 _ _ _ .refl R<|.int _⟩)
abbrev CP (a b:A)(S:jU):R A:=match a,b with
 | .int i,.int j=>gd (0<j) (.ok (.int<|i % j) S)
 | _,_=>.no
def B9:oY X (binaryOp .Mod) (r2 X CP):=oY.imp X4 λx y H Q h9=>by
 z_go
 cases va<;>first|exact h.elim|(cases vb<;>first|exact h.elim|exact⟨_,_,rfl,rfl,(kD h).1,(kD h).2 _ _ _ .refl R<|.int _⟩)
abbrev Zc (a b:A)(S:jU):R A:=match a,b with
 | .int i,.int j=>gd (0<=j/\j<=1000000/\i.natAbs<2 ^ 64) (.ok (.int<|i ^ j.toNat) S)
 | _,_=>.no
def abq:oY X (binaryOp .Pow) (r2 X Zc):=oY.imp Y6 λx y H Q h9=>by
 z_go
 cases va<;>first|exact h.elim|(cases vb<;>first|exact h.elim|exact⟨_,_,rfl,rfl,(kD h).1,(kD h).2 _ _ _ .refl R<|.int _⟩)
abbrev nV (a b:A)(S:jU):R A:=match a,b with
 | .int i,.int j=>.ok (.int<|i+j) S
 | .tup xs,.tup ys=>gd (xs.length+ys.length<=sizeLine) (.ok (.tup<|xs++ys) S)
 | .str x,.str y=>gd (x.length+y.length<=sizeLine) (.ok (.str<|x++y) S)
 | .ref n,.ref m=>opt (jS S n) λxs=>opt (jS S m) λys=>gd (xs.length+ys.length<=sizeLine) (.ok (.ref S.length)<|S++[.lst<|xs++ys])
 | _,_=>.no
def AVs.nil_inv{K:au}{H:Hp}(r:AVs K ρ H xs vs):xs=[] ↔ vs=[]:=by cases r<;>simp
def oV:oY X (binaryOp .Add) (r2 X nV):=λpins s σ H x y v u Q I rx ry h9=>by
 z_go
 cases va with
 | int i=>
  cases vb with
  | int j=>exact Xz pins s σ H _ _ v u Q I rx ry ⟨i,j,rfl,rfl,h _ _ _ .refl R<|.int _⟩
  | _=>exact h.elim
 | str x=>
  cases vb with
  | str y=>
   obtain⟨hc,h⟩:=kD h;exact GY pins s σ H _ _ v u Q I rx ry ⟨x,y,rfl,rfl,hc,h _ _ _ .refl R<|.str _⟩
  | _=>exact h.elim
 | @tup p xs f h1 r1=>
  cases vb with
  | @tup q ys d h2 r2=>
   obtain⟨hc,h⟩:=kD h;by_cases hv:f=[]
   ·have t:=r1.nil_inv.mpr hv;subst hv t;exact Od pins s σ H _ _ v u Q I rx ry ⟨p,q,d,rfl,rfl,nO.of h1,nO.of h2,h _ _ _ .refl R<|.tup h2 r2⟩
   ·refine UZ pins s σ H _ _ v u Q I rx ry ⟨p,q,f,d,rfl,rfl,nO.of h1,nO.of h2,hv,by rw[<- r1.length,<- r2.length];exact hc,λe=>?_,λ_=>xR R (r1.append r2) .refl h⟩;have hy:=r2.nil_inv.mpr e;subst hy;rw[bZ]at h;exact h _ _ _ .refl R<|.tup h1 r1
  | _=>exact h.elim
 | @ref p n z=>
  cases vb with
  | @ref q m hq=>
   kj_on;obtain⟨ys,k,h⟩:=jY h;obtain⟨hc,h⟩:=kD h;obtain⟨f,h1,h2⟩:=R.lst z<|j_ hn;obtain⟨d,h3,g⟩:=R.lst hq<|j_ k;exact XX pins s σ H _ _ v u Q I rx ry ⟨p,q,f,d,rfl,rfl,h1,h3,by rw[<- h2.length,<- g.length];exact hc,o4 R (h2.append g) .refl h⟩
  | _=>exact h.elim
 | _=>exact h.elim
abbrev A.ints:ae->Option (ag)
 | []=>some []
 | .int i::xs=>(A.ints xs).map (i::·)
 | _=>none
def WK{x:A}{bs:ag}(e:A.ints (x::xs)=some bs):∃b cs,x=.int b/\A.ints xs=some cs/\bs=b::cs:=by
 unfold A.ints at e;split at e
 ·rename_i z;cases z
 ·rename_i i ys z
  cases z
  obtain⟨cs,h1,h2⟩:=aW.mp e;exact⟨i,cs,rfl,h1,h2.symm⟩
 ·cases e
def rD{K:au}{H:Hp}:∀{xs:ae}{vs:List V}{bs:ag},AVs K ρ H xs vs->A.ints xs=some bs->vs=bs.map V.int:=by
 intro xs
 induction xs with
 | nil=>
  intro vs bs h e
  cases h
  cases e
  rfl
 | cons x xs d=>
  intro vs bs h e;obtain⟨b,f,rfl,e1,rfl⟩:=WK e
  cases h with
  | cons h t=>
   cases h
   rw[d t e1];rfl
abbrev WX (a b:A)(S:jU):R A:=match a,b with
 | .int i,.int j=>.ok (.bl<|decide<|i<j) S
 | _,_=>.no
def Ub(hu:X.A.units+64<cLine):oY X (compareOp .Lt) (r2 X WX):=λpins s σ H x y v u Q I rx ry h9=>by
 z_go
 cases va with
 | int i=>
  cases vb with
  | int j=>exact abx pins s σ H _ _ v u Q I rx ry ⟨i,j,rfl,rfl,h _ _ _ .refl R<|.bl _⟩
  | _=>exact h.elim
 | _=>exact h.elim
abbrev aLe (a b:A)(S:jU):R A:=match a,b with
 | .int i,.int j=>.ok (.bl<|decide<|i<=j) S
 | _,_=>.no
def ab3:oY X (compareOp .LtE) (r2 X aLe):=oY.imp aa2 λx y H Q h9=>by
 z_go
 cases va<;>first|exact h.elim|(cases vb<;>first|exact h.elim|exact⟨_,_,rfl,rfl,h _ _ _ .refl R<|.bl _⟩)
abbrev MJ (a b:A)(S:jU):R A:=match a,b with
 | .int i,.int j=>.ok (.bl<|decide<|j<i) S
 | _,_=>.no
def Nt(hu:X.A.units+64<cLine):oY X (compareOp .Gt) (r2 X MJ):=λpins s σ H x y v u Q I rx ry h9=>by
 z_go
 cases va with
 | int i=>
  cases vb with
  | int j=>exact aa4 pins s σ H _ _ v u Q I rx ry ⟨i,j,rfl,rfl,h _ _ _ .refl R<|.bl _⟩
  | _=>exact h.elim
 | _=>exact h.elim
abbrev aGe (a b:A)(S:jU):R A:=match a,b with
 | .int i,.int j=>.ok (.bl<|decide<|j<=i) S
 | _,_=>.no
def adp:oY X (compareOp .GtE) (r2 X aGe):=oY.imp aa9 λx y H Q h9=>by
 z_go
 cases va<;>first|exact h.elim|(cases vb<;>first|exact h.elim|exact⟨_,_,rfl,rfl,h _ _ _ .refl R<|.bl _⟩)
abbrev Ho (neg:Bool)(a b:A)(S:jU):R A:=match a,b with
 | .bl i,.bl j=>.ok (.bl<|if neg then i != j else i == j) S
 | .non,.non=>.ok (.bl<|!neg) S
 | .unb,.non=>.no
 | .exn _,.non=>.no
 | _,.non=>.ok (.bl neg) S
 | _,_=>.no
def Zx{n:Bool}{a b:A}(h1:b≠.non)(h2:∀j,b≠.bl j):Ho n a b S=.no:=by
 unfold Ho;split<;>first|rfl|exact absurd rfl h1|exact absurd rfl<|h2 _
def XJ{n:Bool}{a b:A}{F:A->jU->Prop}{G:Str->jU->Prop}(h:(Ho n a b S).post F G)(h1:b≠.non)(h2:∀j,b≠.bl j):False:=by
 rw[Zx h1 h2]at h;exact h
def U_:oY X (compareOp .IsNot) (r2 X<|Ho true):=λpins s σ H x y v u Q I rx ry h9=>by
 z_go
 cases vb with
 | non=>
  refine Vr pins s σ H _ _ v u Q I rx ry ⟨rfl,?_⟩
  cases va<;>first|exact h _ _ _ .refl R (.bl _)|exact h.elim
 | bl j=>
  cases va with
  | bl i=>exact MG pins s σ H _ _ v u Q I rx ry ⟨i,j,rfl,rfl,h _ _ _ .refl R<|.bl _⟩
  | _=>exact h.elim
 | _=>
  exact(XJ h (λz=>nomatch z) nofun).elim
abbrev eUn (f:A->jU->R A)(c:Ex):Ex:=λτ S=>(c τ S).bind λa S1=>f a S1
abbrev P1 (a:A)(S:jU):R A:=match a with
 | .int i=>.ok (.int<|-i) S
 | _=>.no
def Z9:UnR X (unaryOp .USub) (r1 X P1):=λpins s σ H x v Q I rx h9=>by
 obtain⟨ρ,S,a,R,va,h⟩:=h9
 cases va with
 | int i=>exact Yu pins s σ H _ v Q I rx ⟨i,rfl,h _ _ _ .refl R<|.int _⟩
 | _=>exact h.elim
def YR{f:A->jU->R A}{c:Ex}{H:Hp}{Q:VK}(h:tE X (eUn f c) σ H Q):tUn (r1 X f) (tE X c) σ H Q:=by
 kl_no;exact⟨ρ,S,τ,R,r,jX (j5 h) .refl λa S1 h1 ρ1 H1 x e1 R1 v1=>⟨ρ1,S1,a,R1,v1,jX h1 e1 λc S3 h3=>h3.ext e1⟩⟩
def Yn{c:Ex}(h:AE X a c):AE X (.UnaryOp .USub a pos) (eUn P1 c):=PE.imp (aaa Z9 h) λ_ _ _ q=>YR q
abbrev pS (a b:A)(S:jU):R A:=match a,b with
 | .tup xs,.int i=>opt (uY xs i) λx=>.ok x S
 | .frz xs,.int i=>opt (uY xs i) λx=>.ok x S
 | .ref n,.int i=>opt (jS S n) λxs=>opt (uY xs i) λx=>.ok x S
 | .str z,.int i=>gd (z.length<=sizeLine) (opt (uY z.cps.toList i) λc=>.ok (.str ⟨#[c]⟩) S)
 | _,_=>.no
def AVs.uY{K:au}{H:Hp}{i:Int}{x:A}(r:AVs K ρ H xs vs)(h:L2.uY xs i=some x):∃v,L2.uY vs i=some v/\AV K ρ H x v:=by
 unfold L2.uY at h ⊢;rw[<- r.length]
 cases d:Em xs.length i with
 | none=>rw[d]at h;cases h
 | some j=>
  rw[d]at h;exact r.get h
def aaO:Uq X (r2 X pS):=λf d pins s σ H x y v u Q I rx ry ⟨ρ,S,a,b,R,va,vb,h⟩ hs=>by
 cases va with
 | @tup p xs j h1 r1=>
  cases vb with
  | int i=>
   obtain⟨x,g,h⟩:=jY h;obtain⟨z,e,q⟩:=r1.uY g;exact YA f d pins s σ H _ _ v u Q I rx ry ⟨p,j,i,z,rfl,rfl,nO.of h1,e,h _ _ _ .refl R q⟩ hs
  | _=>exact h.elim
 | @frz p xs j h1 r1=>
  cases vb with
  | int i=>
   obtain⟨x,g,h⟩:=jY h;obtain⟨z,e,q⟩:=r1.uY g;exact J2 f d pins s σ H _ _ v u Q I rx ry ⟨p,j,i,z,rfl,rfl,h1.SD,e,h _ _ _ .refl R q⟩ hs
  | _=>exact h.elim
 | @ref p n t=>
  cases vb with
  | int i=>
   kj_on;obtain⟨x,g,h⟩:=jY h;obtain⟨j,h1,r1⟩:=R.lst t<|j_ hn;obtain⟨z,e,q⟩:=r1.uY g;exact J2 f d pins s σ H _ _ v u Q I rx ry ⟨p,j,i,z,rfl,rfl,qe.of h1,e,h _ _ _ .refl R q⟩ hs
  | _=>exact h.elim
 | str z=>
  cases vb with
  | int i=>
   obtain⟨k,h⟩:=kD h;obtain⟨c,hc,h⟩:=jY h;exact Yj f d pins s σ H _ _ v u Q I rx ry ⟨z,i,c,rfl,rfl,k,hc,h _ _ _ .refl R<|.str _⟩ hs
  | _=>exact h.elim
 | _=>exact h.elim
def mU{ca cb:Ex}(ha:AE X a ca)(hb:AE X b cb)(hs:xH b:=by exact λ_ _=>rfl):AE X (.Subscript a b pos) (j4 pS ca cb):=PE.imp (Jr aaO ha hb hs) λσ H Q h=>ux h
end
abbrev tV (f:A->A->bi):ae->ae->bi
 | [],[]=>some true
 | x::xs,y::ys=>(f x y).bind λp=>(tV f xs ys).map λq=>p && q
 | _,_=>some false
inductive Sh
 | non
 | bl (b:Bool)
 | int (i:Int)
 | str (x:Str)
 | tup (xs:ae)
 | lst
abbrev Zh (S:jU):A->Option Sh
 | .non=>some .non
 | .bl b=>some (.bl b)
 | .int i=>some (.int i)
 | .str x=>some (.str x)
 | .tup xs=>some (.tup xs)
 | .ref i=>(jS S i).map λ_=>.lst
 | _=>none
abbrev Vm (f:A->A->bi):Sh->Sh->bi
 | .non,.non=>some true
 | .bl x,.bl y=>some (x == y)
 | .bl x,.int y=>some ((if x then 1 else 0) == y)
 | .int x,.bl y=>some (x == (if y then 1 else 0))
 | .int x,.int y=>some (x == y)
 | .str x,.str y=>some (x == y)
 | .tup xs,.tup ys=>tV f xs ys
 | .lst,.lst=>none
 | _,_=>some false
abbrev yg (S:jU):Nat->A->A->bi
 | 0,_,_=>none
 | n+1,a,b=>match a,b with
  | .ref i,.ref j=>(jS S i).bind λxs=>(jS S j).bind λys=>tV (yg S n) xs ys
  | _,_=>(Zh S a).bind λx=>(Zh S b).bind λy=>Vm (yg S n) x y
section
variable {X:Cx}{pins:bn}{σ:L2.St}{H:Hp}{s:aC}{ρ:bb}{S:jU}
inductive KdV (s:aC):Sh->af->Prop
 | non:KdV s .non .none
 | bl (b:Bool):KdV s (.bl b) (.bool b)
 | int (i:Int) (t:Tok):KdV s (.int i) (.int i t)
 | str (x:Str) (t:Tok):KdV s (.str x) (.str x t)
 | tup {p:ak} {us:ba} (xs:ae) (h:s.heap.IsTuple p us.toArray):KdV s (.tup xs) (.ref p)
 | lst {p:ak} {us:ba} (h:s.heap.IsList p us.toArray):KdV s .lst<|.ref p
def Iz{p:ak}(h:s.heap.IsTuple p us)(h':s.heap.IsList p ws):False:=by
 obtain⟨o,e,c,_⟩:=h;obtain⟨o',d,f,_⟩:=h';rw[e]at d
 cases d
 exact absurd (c.symm.trans f) ⋯
def Ij(I:Inv X pins σ H s)(R:Rel X.K ρ H S){a:A}{x:V}(ha:AV X.K ρ H a x)(r:RelV x u)(e:Zh S a=some h):KdV s h u:=by
 cases ha with
 | non=>cases e;cases(show u=Value.none from r);exact .non
 | bl b=>cases e;cases(show u=Value.bool b from r);exact .bl b
 | int i=>cases e;obtain⟨t,rfl⟩:∃t,u=Value.int i t:=r;exact .int i t
 | str i=>cases e;obtain⟨t,rfl⟩:∃t,u=Value.str i t:=r;exact .str i t
 | tup h1 r1=>cases e;cases(show u=Value.ref _ from r);obtain⟨us,_,p,_⟩:=I.tuple<|nO.of h1;exact .tup _ p
 | ref h1=>
  obtain⟨xs,e1,rfl⟩:=aW.mp e
  cases(show u=Value.ref _ from r)
  obtain⟨d,h3,r1⟩:=R.lst h1<|j_ e1;obtain⟨us,_,p,_⟩:=I.list<|qe.of h3;exact .lst p.isList
 | _=>cases e
abbrev Al (B:aA)(s:aC)(u v:af)(k:Bool):Prop:=SeqAt.RcAt B s u v k/\SeqAt.EqAt B s u v k/\SeqAt.RcNeAt B s u v (!k)
def abo{B:aA}(hu:B.units<cLine){f:A->A->bi}{v:af}{k:Bool}(d:KdV s h u)(d':KdV s h' v)(nt:∀xs ys,h=.tup xs->h'≠.tup ys)(e:Vm f h h'=some k):Al B s u v k:=by
 cases d with
 | non=>cases d' with
  | non=>cases e;exact⟨.none_none,.same _,.none_none⟩
  | bl b=>cases e;exact⟨.none_bool _,.none_bool _,.none_bool _⟩
  | int i t=>cases e;exact⟨.none_int _ _,.none_int _ _,.none_int _ _⟩
  | str x t=>cases e;exact⟨.none_str _ _,.none_str _ _,.none_str _ _⟩
  | tup xs p=>cases e;exact⟨.none_tuple p hu,.none_tuple p hu,.none_tuple p hu⟩
  | lst p=>cases e;exact⟨.none_list p hu,.none_list p hu,.none_list p hu⟩
 | bl c=>cases d' with
  | non=>cases e;exact⟨.bool_none _,.bool_none _,.bool_none _⟩
  | bl b=>cases e;exact⟨.bool_bool _ _,.bool_bool _ _,.bool_bool _ _⟩
  | int i t=>cases e;exact⟨.bool_int _ _ _,.bool_int _ _ _,.bool_int _ _ _⟩
  | str x t=>cases e;exact⟨.bool_str _ _ _,.bool_str _ _ _,.bool_str _ _ _⟩
  | tup xs p=>cases e;exact⟨.bool_tuple _ p hu,.bool_tuple _ p hu,.bool_tuple _ p hu⟩
  | lst p=>cases e;exact⟨.bool_list _ p hu,.bool_list _ p hu,.bool_list _ p hu⟩
 | int c j=>cases d' with
  | non=>cases e;exact⟨.int_none _ _,.int_none _ _,.int_none _ _⟩
  | bl b=>cases e;exact⟨.int_bool _ _ _,.int_bool _ _ _,.int_bool _ _ _⟩
  | int i t=>cases e;exact⟨.int_int _ _ _ _,.int_int _ _ _ _,.int_int _ _ _ _⟩
  | str x t=>cases e;exact⟨.int_str _ _ _ _,.int_str _ _ _ _,.int_str _ _ _ _⟩
  | tup xs p=>cases e;exact⟨.int_tuple _ _ p hu,.int_tuple _ _ p hu,.int_tuple _ _ p hu⟩
  | lst p=>cases e;exact⟨.int_list _ _ p hu,.int_list _ _ p hu,.int_list _ _ p hu⟩
 | str c j=>cases d' with
  | non=>cases e;exact⟨.str_none _ _,.str_none _ _,.str_none _ _⟩
  | bl b=>cases e;exact⟨.str_bool _ _ _,.str_bool _ _ _,.str_bool _ _ _⟩
  | int i t=>cases e;exact⟨.str_int _ _ _ _,.str_int _ _ _ _,.str_int _ _ _ _⟩
  | str x t=>cases e;exact⟨.str_str _ _ _ _,.str_str _ _ _ _,.str_str _ _ _ _⟩
  | tup xs p=>cases e;exact⟨.str_tuple _ _ p hu,.str_tuple _ _ p hu,.str_tuple _ _ p hu⟩
  | lst p=>cases e;exact⟨.str_list _ _ p hu,.str_list _ _ p hu,.str_list _ _ p hu⟩
 | tup zs g=>cases d' with
  | non=>cases e;exact⟨.tuple_none g hu,.tuple_none g hu,.tuple_none g hu⟩
  | bl b=>cases e;exact⟨.tuple_bool _ g hu,.tuple_bool _ g hu,.tuple_bool _ g hu⟩
  | int i t=>cases e;exact⟨.tuple_int _ _ g hu,.tuple_int _ _ g hu,.tuple_int _ _ g hu⟩
  | str x t=>cases e;exact⟨.tuple_str _ _ g hu,.tuple_str _ _ g hu,.tuple_str _ _ g hu⟩
  | tup xs p=>exact absurd rfl (nt _ _ rfl)
  | lst p=>cases e;exact⟨.tuple_list g p hu,.of_refs (λz=>by subst z;exact Iz g p)<|.tuple_list g p hu,.tuple_list g p hu⟩
 | lst g=>cases d' with
  | non=>cases e;exact⟨.list_none g hu,.list_none g hu,.list_none g hu⟩
  | bl b=>cases e;exact⟨.list_bool _ g hu,.list_bool _ g hu,.list_bool _ g hu⟩
  | int i t=>cases e;exact⟨.list_int _ _ g hu,.list_int _ _ g hu,.list_int _ _ g hu⟩
  | str x t=>cases e;exact⟨.list_str _ _ g hu,.list_str _ _ g hu,.list_str _ _ g hu⟩
  | tup xs p=>cases e;exact⟨.list_tuple g p hu,.of_refs (λz=>by subst z;exact Iz p g)<|.list_tuple g p hu,.list_tuple g p hu⟩
  | lst p=>cases e
def Dl{a:A}{x:V}(h:AV X.K ρ H a x)(e:Zh S a=some (.tup xs)):a=.tup xs/\∃p vs,x=.ref p/\H p=some (.tup vs)/\AVs X.K ρ H xs vs:=by
 cases h with
 | tup h r=>cases e;exact⟨rfl,_,_,rfl,h,r⟩
 | ref h=>obtain⟨_,_,z⟩:=aW.mp e;cases z
 | _=>cases e
def D_{i:Nat}{x:V}(h:AV X.K ρ H (.ref i) x):∃p,x=.ref p/\ρ[i]?=some p:=by
 cases h with
 | ref h=>exact⟨_,rfl,h⟩
def Oz{a:A}(e:Zh S a=some .lst):∃i,a=.ref i:=by
 cases a with
 | ref i=>exact⟨i,rfl⟩
 | _=>cases e
def P5{n:Nat}{a:A}{k:Bool}(e:yg S (n+1) a b=some k):(∃i j xs ys,a=.ref i/\b=.ref j/\jS S i=some xs/\jS S j=some ys/\tV (yg S n) xs ys=some k)\/(∃h h',Zh S a=some h/\Zh S b=some h'/\Vm (yg S n) h h'=some k/\(h=.lst->h'≠.lst)):=by
 unfold yg at e;split at e
 ·obtain⟨xs,e1,e⟩:=cz.mp e;obtain⟨ys,e2,e⟩:=cz.mp e;exact .inl ⟨_,_,xs,ys,rfl,rfl,e1,e2,e⟩
 ·rename_i d;obtain⟨h,e1,e⟩:=cz.mp e;obtain⟨h',e2,e⟩:=cz.mp e;refine .inr ⟨h,h',e1,e2,e,λg f=>?_⟩;subst g f;obtain⟨i,rfl⟩:=Oz e1;obtain⟨j,rfl⟩:=Oz e2;exact d i j rfl rfl
def Ua{f:A->A->bi}{k:Bool}(d:KdV s h u)(d':KdV s h' u)(nt:∀xs ys,h=.tup xs->h'≠.tup ys)(e:Vm f h h'=some k):k=true:=by
 cases d with
 | non=>cases d';exact(br e).symm
 | bl b=>cases d';exact(br e).symm.trans (c5 b)
 | int b=>cases d';exact(br e).symm.trans (c5 b)
 | str b=>cases d';exact(br e).symm.trans (c5 b)
 | tup xs p=>cases d' with
  | tup=>exact absurd rfl (nt _ _ rfl)
  | lst q=>exact(Iz p q).elim
 | lst p=>cases d' with
  | tup _ q=>exact(Iz q p).elim
  | lst q=>cases e
def EC{f:A->A->bi}(hf:∀a b x u k,AV X.K ρ H a x->AV X.K ρ H b x->RelV x u->f a b=some k->k=true):∀{xs ys:ae}{vs:List V}{us:ba}{k:Bool},AVs X.K ρ H xs vs->AVs X.K ρ H ys vs->Vals vs us->tV f xs ys=some k->k=true:=by
 intro xs ys vs us k h1 h2 q e
 induction q generalizing xs ys k with
 | nil=>cases h1;cases h2;exact(br e).symm
 | cons d _ j=>
  cases h1 with
  | cons h t=>cases h2 with
   | cons h' g=>
    obtain⟨p,e1,e⟩:=cz.mp e;obtain⟨q,e2,e3⟩:=aW.mp e;rw[<- e3,hf _ _ _ _ p h h' d e1,j t g e2];rfl
def Jg(h h':Sh):(∃xs ys,h=.tup xs/\h'=.tup ys)\/(∀xs ys,h=.tup xs->h'≠.tup ys):=by
 cases h with
 | tup xs=>cases h' with
  | tup ys=>exact .inl ⟨xs,ys,rfl,rfl⟩
  | _=>exact .inr λ_ _ _ z=>nomatch z
 | _=>exact .inr λ_ _ z=>nomatch z
theorem CS(I:Inv X pins σ H s)(R:Rel X.K ρ H S):∀(n:Nat) (a b:A) (x:V) (u:af) (k:Bool),AV X.K ρ H a x->AV X.K ρ H b x->RelV x u->yg S n a b=some k->k=true
 | 0,_,_,_,_,_,_,_,_,e=>nomatch e
 | n+1,a,b,x,u,k,ha,hb,ru,e=>by
  rcases P5 e with⟨i,j,xs,ys,rfl,rfl,e1,e2,e⟩|⟨h,h',e1,e2,e,_⟩
  ·obtain⟨p,rfl,h1⟩:=D_ ha;obtain⟨q,z,h2⟩:=D_ hb
   cases z
   obtain⟨t,h3,r1⟩:=R.lst h1<|j_ e1;obtain⟨g,d,r2⟩:=R.lst h2<|j_ e2;rw[h3]at d
   cases d
   obtain⟨us,q,_⟩:=I.list<|qe.of h3;exact EC (λa b x u k=>CS I R n a b x u k) r1 r2 q e
  ·rcases Jg h h' with⟨xs,ys,rfl,rfl⟩|f
   ·obtain⟨rfl,p,t,rfl,h3,r1⟩:=Dl ha e1;obtain⟨rfl,q,g,z,d,r2⟩:=Dl hb e2
    cases z
    have:=I.vX (nO.of h3)<|nO.of d;subst this;obtain⟨us,q,_⟩:=I.tuple<|nO.of h3;exact EC (λa b x u k=>CS I R n a b x u k) r1 r2 q e
   ·exact Ua (Ij I R ha ru e1) (Ij I R hb ru e2) f e
abbrev Bx (f:A->A->bi)(xs ys:ae)(j:Nat):Bool:=match xs[j]?,ys[j]? with
 | some x,some y=>(f x y).getD true
 | _,_=>true
theorem zD{f:A->A->bi}:∀{xs ys:ae}{k:Bool},tV f xs ys=some k->k=((List.range<|min xs.length ys.length).all (Bx f xs ys) && xs.length == ys.length)/\∀j x y,xs[j]?=some x->ys[j]?=some y->f x y=some (Bx f xs ys j)
 | [],[],k,e=>⟨(br e).symm,λj x y h=>by simp at h⟩
 | [],_::_,k,e=>⟨(br e).symm,λj x y h=>by simp at h⟩
 | _::_,[],k,e=>⟨(br e).symm,λj x y _ h=>by simp at h⟩
 | x::xs,y::ys,k,e=>by
  unfold tV at e
  cases e1:f x y with
  | none=>rw[e1]at e;cases e
  | some p=>
   rw[e1]at e;obtain⟨q,e2,e3⟩:=aW.mp e;obtain⟨h1,h2⟩:=zD e2;have d:Bx f (x::xs) (y::ys) 0=p:=by simp[Bx,e1]
   have ps:∀j,Bx f (x::xs) (y::ys) (j+1)=Bx f xs ys j:=λj=>by simp[Bx]
   refine⟨?_,λj a b ha hb=>?_⟩
   ·rw[<- e3,h1,bA,bA,Nat.succ_min_succ,List.range_succ_eq_map,List.all_cons,all_map,d];have:(Bx f (x::xs) (y::ys) ∘ Nat.succ)=Bx f xs ys:=funext ps;rw[this,Bool.and_assoc];simp
   ·cases j with
    | zero=>
     simp at ha hb;subst ha hb;rw[d];exact e1
    | succ j=>rw[ps];exact h2 j a b (by simpa using ha)<|by simpa using hb
def zE{f:A->A->bi}{B:aA}(hf:∀a b x y u v k,AV X.K ρ H a x->AV X.K ρ H b y->RelV x u->RelV y v->f a b=some k->SeqAt.EqAt B s u v k){us ts:ba}{k:Bool}
  (r1:AVs X.K ρ H xs vs) (r2:AVs X.K ρ H ys ws) (q1:Vals vs us) (q2:Vals ws ts) (e:tV f xs ys=some k):∀j (h1:j<us.toArray.size) (h2:j<ts.toArray.size),SeqAt.EqAt B s us.toArray[j] ts.toArray[j] (Bx f xs ys j):=by
 intro j h1 h2;have L:=r1.length;have N:=r2.length;have M:=q1.length;have l4:=q2.length;have z:j<xs.length:=by simp at h1;lia
 have hy:j<ys.length:=by simp at h2;lia
 have e1:xs[j]?=some xs[j]:=aI z;have e2:ys[j]?=some ys[j]:=aI hy;obtain⟨x,ex,J⟩:=r1.get e1;obtain⟨y,G,q⟩:=r2.get e2;obtain⟨u,C,p⟩:=q1.get ex;obtain⟨t,g,rt⟩:=q2.get G;have d:us.toArray[j]=u:=by
  have:us[j]?=some us.toArray[j]:=by simp at h1;simp[h1]
  rw[C]at this;exact(br this).symm
 have F:ts.toArray[j]=t:=by
  have:ts[j]?=some ts.toArray[j]:=by simp at h2;simp[h2]
  rw[g]at this;exact(br this).symm
 rw[d,F];exact hf _ _ x y u t _ J q p rt<|(zD e).2 j _ _ e1 e2
def in1_units(B:aA):B.in1.units=B.units+1:=rfl
theorem J0(I:Inv X pins σ H s)(R:Rel X.K ρ H S):∀(n:Nat) (B:aA) (a b:A) (x y:V) (u v:af) (k:Bool),B.units+n<cLine->AV X.K ρ H a x->AV X.K ρ H b y->RelV x u->RelV y v->yg S n a b=some k->Al B s u v k
 | 0,_,_,_,_,_,_,_,_,_,_,_,_,_,e=>nomatch e
 | n+1,B,a,b,x,y,u,v,k,hu,ha,hb,rx,ry,e=>by
  have f:B.units<cLine:=()
  have d:∀a b x y u v k,AV X.K ρ H a x->AV X.K ρ H b y->RelV x u->RelV y v->yg S n a b=some k->SeqAt.EqAt B.in1 s u v k:=λa b x y u v k h1 h2 h3 L P=>(J0 I R n B.in1 a b x y u v k (by rw[in1_units];lia) h1 h2 h3 L P).2.1;have same:=λ(z:y=x)=>CS I R (n+1) a b x u k ha (z ▸ hb) rx e;have t:∀{p q:ak},x=.ref p->y=.ref q->u=.ref p->v=.ref q->SeqAt.RcAt B s u v k->SeqAt.EqAt B s u v k:=λ{p q} g C z3 z4 h=>by
   subst z3 z4;by_cases N:p=q
   ·subst N;rw[same<|C.trans g.symm];exact .same _
   ·exact .of_refs N h
  rcases P5 e with⟨i,j,xs,ys,rfl,rfl,e1,e2,e⟩|⟨h,h',e1,e2,e,_⟩
  ·obtain⟨p,rfl,h1⟩:=D_ ha;obtain⟨q,rfl,h2⟩:=D_ hb;obtain⟨Z,h3,r1⟩:=R.lst h1<|j_ e1;obtain⟨W,L,r2⟩:=R.lst h2<|j_ e2;obtain⟨us,G,p1,_⟩:=I.list<|qe.of h3;obtain⟨ts,F,p2,_⟩:=I.list<|qe.of L;have M:=t rfl rfl rx ry
   cases(show u=Value.ref p from rx)
   cases(show v=Value.ref q from ry)
   have Y:=r1.length;have l2:=r2.length;have T:=G.length;have l4:=F.length;have ek:=(zD e).1;by_cases O:xs.length=ys.length
   ·rw[<- O,Nat.min_self,c5,Bool.and_true]at ek;have J:us.toArray.size=ts.toArray.size:=by simp;lia
    have g:=SeqAt.RcAt.lists p1.isList p2.isList J f<|zE d r1 r2 G F e;have C:=SeqAt.RcNeAt.lists p1.isList p2.isList J f<|zE d r1 r2 G F e;rw[aZ,<- T,<- Y,<- ek]at g C;exact⟨g,M g,C⟩
   ·have:(xs.length == ys.length)=false:=by simpa using O
    rw[this,Bool.and_false]at ek;subst ek;have J:(us.toArray.size != ts.toArray.size)=true:=by simp;lia
    have g:=SeqAt.RcAt.lists_lengths p1.isList p2.isList J f;exact⟨g,M g,SeqAt.RcNeAt.lists_lengths p1.isList p2.isList J f⟩
  ·rcases Jg h h' with⟨xs,ys,rfl,rfl⟩|U
   ·obtain⟨rfl,p,Z,rfl,h3,r1⟩:=Dl ha e1;obtain⟨rfl,q,W,rfl,L,r2⟩:=Dl hb e2;have M:=t rfl rfl rx ry
    cases(show u=Value.ref p from rx)
    cases(show v=Value.ref q from ry)
    obtain⟨us,G,p1,_⟩:=I.tuple<|nO.of h3;obtain⟨ts,F,p2,_⟩:=I.tuple<|nO.of L;have ek:=(zD e).1;have g:=SeqAt.RcAt.tuples p1 p2 f<|zE d r1 r2 G F e;have C:=SeqAt.RcNeAt.tuples p1 p2 f<|zE d r1 r2 G F e;rw[aZ,aZ,<- G.length,<- F.length,<- r1.length,<- r2.length,<- ek]at g C;exact⟨g,M g,C⟩
   ·exact abo f (Ij I R ha rx e1) (Ij I R hb ry e2) U e
end
section
variable {X:Cx}
abbrev wo (neg:Bool)(a b:A)(S:jU):R A:=opt (yg S 12 a b) λk=>.ok (.bl<|if neg then !k else k) S
def Ud(hu:X.A.units+64<cLine):oY X (compareOp .Eq) (r2 X<|wo false):=λpins s σ H x y v u Q I rx ry h9=>by
 z_go;obtain⟨k,e,h⟩:=jY h;exact(J0 I R 12 X.A a b x y v u k (by omega) va vb rx ry e).1 _ _ _ _ ⟨.bl _,H,I,rfl,h _ _ _ .refl R<|.bl _⟩
def Mf(hu:X.A.units+64<cLine):oY X (compareOp .NotEq) (r2 X<|wo true):=λpins s σ H x y v u Q I rx ry h9=>by
 z_go;obtain⟨k,e,h⟩:=jY h;exact(J0 I R 12 X.A a b x y v u k (by omega) va vb rx ry e).2.2 _ _ _ _ ⟨.bl _,H,I,rfl,h _ _ _ .refl R<|.bl _⟩
end
section
variable {X:Cx}{pos:Pos}{a b:aE}
meta abbrev Pt:=ae->jU->R (Option Int)
abbrev aaH:Pt:=λ_ S=>.ok none S
abbrev aaj (c:Ex):Pt:=λτ S=>(c τ S).bind λa S1=>match a with
 | .int i=>.ok (some i) S1
 | _=>.no
abbrev Vk (xs:ae)(lo hi:Option Int):ae:=(xs.drop<|HT.sIx xs.length 0 lo).take<|HT.sIx xs.length xs.length hi-HT.sIx xs.length 0 lo
abbrev aSl (a:A)(lo hi:Option Int)(S:jU):R A:=match a with
 | .ref n=>opt (jS S n) λxs=>.ok (.ref S.length) (S++[.lst<|Vk xs lo hi])
 | .frz xs=>.ok (.ref S.length) (S++[.lst<|Vk xs lo hi])
 | .tup xs=>gd (¬(HT.sIx xs.length 0 lo=0/\HT.sIx xs.length xs.length hi=xs.length)) (.ok (.tup<|Vk xs lo hi) S)
 | _=>.no
abbrev eSl (c:Ex)(lo hi:Pt):Ex:=λτ S=>(c τ S).bind λa S1=>(lo τ S1).bind λl S2=>(hi τ S2).bind λu S3=>aSl a l u S3
abbrev aaN (a:A)(S:jU):R A:=match a with
 | .ref n=>opt (jS S n) λxs=>.ok (.ref S.length) (S++[.lst xs.reverse])
 | .tup xs=>.ok (.tup xs.reverse) S
 | _=>.no
abbrev ku (f:ae->jU->R A)(d:sW):Ex:=λτ S=>(d τ S).bind λg S1=>f g S1
def F9{f:ae->jU->R A}{d:sW}{H:Hp}{Q:VK}(h:tE X (ku f d) σ H Q):tCB (rN X f) (tL X d) σ H Q:=by
 kl_no;exact⟨ρ,S,τ,R,r,jX (j5 h) .refl λg S1 h1 ρ1 H1 j e1 R1 v1=>⟨ρ1,S1,g,R1,v1,jX h1 e1 λ_ _ z=>z.ext e1⟩⟩
variable {x:Str}{p:Pos}{e:aE}{es:List aE}{id T:String}{f:ae->jU->R A}{d:sW}
def kJ(hc:kP X (.builtin id)<|rN X f)(hm:X.mg x=none)(hv:bootBuiltins x=some (.builtin id))(ha:AL X (e::es) d)(hg:Gl X x:=by rfl)(hn:x ≠ "__name__" := by decide)(hdb:(x == ("__debug__" : Str))=false:=by decide)
  (he:starEach (e::es) X.env=(false,eval e X.env)::starEach es X.env:=by rfl) (hpl:(backTo pos<|starEach es X.env).any (·.1)=false:=by rfl):AE X (.Call (.Name x p) (e::es) [] pos) (ku f d):=
 PE.imp (Fd hc hg hm hv ha hn hdb he hpl) λ_ _ _ h=>F9 h
def oq(hc:kP X (.type T)<|rN X f)(hm:X.mg x=none)(hv:bootBuiltins x=some (.type T))(ha:AL X (e::es) d)(hg:Gl X x:=by rfl)(hn:x ≠ "__name__" := by decide)(hdb:(x == ("__debug__" : Str))=false:=by decide)
  (he:starEach (e::es) X.env=(false,eval e X.env)::starEach es X.env:=by rfl) (hpl:(backTo pos<|starEach es X.env).any (·.1)=false:=by rfl):AE X (.Call (.Name x p) (e::es) [] pos) (ku f d):=
 PE.imp (LM hc hg hm hv ha hn hdb he hpl) λ_ _ _ h=>F9 h
def Fc(hm:X.mg x=none)(hv:bootBuiltins x=some (.type T))(hg:Gl X x:=by rfl)(hn:x ≠ "__name__" := by decide)(hdb:(x == ("__debug__" : Str))=false:=by decide):AE X (.Name x pos) (eC<|.ty T):=
 PE.imp (Vo (v:=.ty T) hg hm hv rfl hn hdb) λσ H Q ⟨ρ,S,τ,R,r,h⟩=>h ρ H _ .refl R<|.ty T
abbrev A.seq (S:jU):A->Option (ae)
 | .tup xs=>some xs
 | .frz xs=>some xs
 | .ref n=>jS S n
 | _=>none
def P8{K:au}{H:Hp}{x:A}{v:V}(R:Rel K ρ H S)(h:AV K ρ H x v)(e:x.seq S=some xs):∃p vs,v=.ref p/\(qe K H p vs\/nO K H p vs)/\AVs K ρ H xs vs:=by
 cases h with
 | tup h r=>cases br e;exact⟨_,_,rfl,.inr<|nO.of h,r⟩
 | frz h r=>cases br e;exact⟨_,_,rfl,.inl h.SD,r⟩
 | ref h=>
  obtain⟨vs,h1,r1⟩:=R.lst h<|j_ e;exact⟨_,vs,rfl,.inl<|qe.of h1,r1⟩
 | _=>cases e
def Na{K:au}{H:Hp}{x:A}(h:AVs K ρ H [x] vs):∃v,vs=[v]/\AV K ρ H x v:=by
 cases h with
 | cons h t=>cases t;exact⟨_,rfl,h⟩
def Ux{K:au}{H:Hp}{x:A}(h:AVs K ρ H [x,y] vs):∃v w,vs=[v,w]/\AV K ρ H x v/\AV K ρ H y w:=by
 cases h with
 | cons h t=>obtain⟨w,rfl,h'⟩:=Na t;exact⟨_,_,rfl,h,h'⟩
abbrev f1 (g:A->jU->R A):ae->jU->R A:=λd S=>match d with
 | [x]=>g x S
 | _=>.no
abbrev f2 (g:A->A->jU->R A):ae->jU->R A:=λd S=>match d with
 | [x,y]=>g x y S
 | _=>.no
def Tz{g:A->jU->R A}{P:A->jU->Prop}{E:Str->jU->Prop}(h:(f1 g as S).post P E):∃x,as=[x]/\(g x S).post P E:=by
 match as,h with
 | [],h=>exact h.elim
 | [x],h=>exact⟨x,rfl,h⟩
 | _::_::_,h=>exact h.elim
def SJ{g:A->A->jU->R A}{P:A->jU->Prop}{E:Str->jU->Prop}(h:(f2 g as S).post P E):∃x y,as=[x,y]/\(g x y S).post P E:=by
 match as,h with
 | [],h=>exact h.elim
 | [_],h=>exact h.elim
 | [x,y],h=>exact⟨x,y,rfl,h⟩
 | _::_::_::_,h=>exact h.elim
def MK{g:A->jU->R A}{H:Hp}{Q:VK}(h:rN X (f1 g) vs H Q):∃v,vs=[v]/\∃ρ S x,Rel X.K ρ H S/\AV X.K ρ H x v/\(g x S).post (zN X ρ H Q) (XE X ρ H):=by
 obtain⟨ρ,S,d,R,v,h⟩:=h;obtain⟨x,rfl,h⟩:=Tz h;obtain⟨w,rfl,hv⟩:=Na v;exact⟨w,rfl,ρ,S,x,R,hv,h⟩
def rn2{g:A->A->jU->R A}{H:Hp}{Q:VK}(h:rN X (f2 g) vs H Q):∃v w,vs=[v,w]/\∃ρ S x y,Rel X.K ρ H S/\AV X.K ρ H x v/\AV X.K ρ H y w/\(g x y S).post (zN X ρ H Q) (XE X ρ H):=by
 obtain⟨ρ,S,j,R,v,h⟩:=h;obtain⟨x,y,rfl,h⟩:=SJ h;obtain⟨w,f,rfl,hv,d⟩:=Ux v;exact⟨w,f,rfl,ρ,S,x,y,R,hv,d,h⟩
abbrev qU (x:A)(S:jU):R A:=match x with
 | .str x=>gd (x.length<=sizeLine) (.ok (.int x.length) S)
 | .tup xs=>.ok (.int xs.length) S
 | .frz xs=>.ok (.int xs.length) S
 | .ref n=>opt (jS S n) λxs=>.ok (.int xs.length) S
 | _=>.no
def vG:kP X (.builtin "len") (rN X<|f1 qU):=kP.imp OO λg H Q h0=>by
 kd_p;clear h0
 cases hv with
 | str z=>
  obtain⟨d,h⟩:=kD h;exact⟨_,_,rfl,⟨d,rfl⟩,h _ _ _ .refl R<|.int _⟩
 | @tup p xs us h1 r=>exact⟨_,us.length,rfl,.inr ⟨us,(nO.of h1),rfl⟩,by rw[<- r.length];exact h _ _ _ .refl R<|.int _⟩
 | @frz p xs us h1 r=>exact⟨_,us.length,rfl,.inl ⟨us,h1.SD,rfl⟩,by rw[<- r.length];exact h _ _ _ .refl R<|.int _⟩
 | ref f=>
  kj_on;obtain⟨us,h1,r⟩:=R.lst f<|j_ hn;exact⟨_,us.length,rfl,.inl ⟨us,qe.of h1,rfl⟩,by rw[<- r.length];exact h _ _ _ .refl R<|.int _⟩
 | _=>exact h.elim
abbrev X0 (x:A)(S:jU):R A:=match x with
 | .int i=>.ok (.int<|if i<0 then -i else i) S
 | _=>.no
def ZY:kP X (.builtin "abs") (rN X<|f1 X0):=kP.imp QN λd H Q h0=>by
 kd_p;clear h0
 cases hv<;>first|exact h.elim|exact⟨_,rfl,h _ _ _ .refl R<|.int _⟩
abbrev aa5 (x y:A)(S:jU):R A:=match x,y with
 | .int i,.int j=>.ok (.int<|if j>i then j else i) S
 | _,_=>.no
abbrev aaP (x y:A)(S:jU):R A:=match x,y with
 | .int i,.int j=>.ok (.int<|if j<i then j else i) S
 | _,_=>.no
abbrev Wv (x:A)(S:jU):R A:=match x with
 | .int i=>.ok (.int i) S
 | .bl k=>.ok (.int<|if k then 1 else 0) S
 | .str y=>opt (PySem.intText? y) λn=>gd (y.length<=640) (.ok (.int n) S)
 | _=>.no
abbrev CI (x y:A)(S:jU):R A:=match x,y with
 | .int i,.int j=>.ok (.rng i j) S
 | _,_=>.no
def Nc:kP X (.type "range") (rN X<|f2 CI):=kP.imp Du λq H Q h0=>by
 obtain⟨w,k,rfl,ρ,S,x,y,R,hv,d,h⟩:=rn2 h0;clear h0
 cases hv with
 | int i=>
  cases d with
  | int j=>
   refine⟨i,j,rfl,λp g=>?_⟩;obtain⟨ex,f⟩:=R.im (u:=.rng i j) g;exact h ρ _ _ ex f<|.rng kQ
  | _=>exact h.elim
 | _=>exact h.elim
abbrev B0 (i j:Int):Prop:=(-(2 ^ 62)<=i/\i<2 ^ 62/\-(2 ^ 62)<=j/\j<2 ^ 62)/\(j-i).toNat<=1000
instance (i j:Int):Decidable (B0 i j):=by unfold B0;infer_instance
abbrev zb (x:A)(S:jU):R A:=match x with
 | .rng i j=>gd (B0 i j) (.ok (.ref S.length)<|S++[.lst<|(mJ i j).map .int])
 | .tup xs=>.ok (.ref S.length) (S++[.lst xs])
 | .frz xs=>.ok (.ref S.length) (S++[.lst xs])
 | .ref n=>opt (jS S n) λxs=>.ok (.ref S.length) (S++[.lst xs])
 | _=>.no
def Hx(hc:X.calm=true):kP X (.type "list") (rN X<|f1 zb):=λpins s σ H d us Q I rx h0=>by
 kd_p;clear h0
 cases hv with
 | @rng p i j g=>
  obtain⟨f,h⟩:=kD h;exact BG hc pins s σ H _ us Q I rx ⟨p,i,j,rfl,g,f.1,f.2,o4 R (rY _) .refl h⟩
 | @tup p xs d h1 r=>exact uz pins s σ H _ us Q I rx ⟨p,d,rfl,.inr<|nO.of h1,o4 R r .refl h⟩
 | @frz p xs d h1 r=>exact uz pins s σ H _ us Q I rx ⟨p,d,rfl,.inl h1.SD,o4 R r .refl h⟩
 | @ref p n g=>
  kj_on;obtain⟨d,h1,r⟩:=R.lst g<|j_ hn;exact uz pins s σ H _ us Q I rx ⟨p,d,rfl,.inl<|qe.of h1,o4 R r .refl h⟩
 | _=>exact h.elim
abbrev ue (x:A)(S:jU):R A:=match x with
 | .rng i j=>gd (B0 i j) (.ok (.tup<|(mJ i j).map .int) S)
 | .tup xs=>.ok (.tup xs) S
 | .frz xs=>.ok (.tup xs) S
 | .ref n=>opt (jS S n) λxs=>.ok (.tup xs) S
 | _=>.no
def zI(hc:X.calm=true):kP X (.type "tuple") (rN X<|f1 ue):=λpins s σ H d us Q I rx h0=>by
 kd_p;clear h0
 cases hv with
 | @rng p i j g=>
  obtain⟨f,h⟩:=kD h;exact AN hc pins s σ H _ us Q I rx ⟨p,i,j,rfl,g,f.1,f.2,xR R (rY _) .refl h⟩
 | @tup p xs d h1 r=>exact tu pins s σ H _ us Q I rx ⟨p,d,rfl,.inr ⟨(nO.of h1),h _ _ _ .refl R<|.tup h1 r⟩⟩
 | @frz p xs d h1 r=>exact tu pins s σ H _ us Q I rx ⟨p,d,rfl,.inl ⟨h1.SD,xR R r .refl h⟩⟩
 | @ref p n g=>
  kj_on;obtain⟨d,h1,r⟩:=R.lst g<|j_ hn;exact tu pins s σ H _ us Q I rx ⟨p,d,rfl,.inl ⟨qe.of h1,xR R r .refl h⟩⟩
 | _=>exact h.elim
abbrev A.G6:ae->Option (List Bool)
 | []=>some []
 | .bl b::xs=>(A.G6 xs).map (b::·)
 | _=>none
theorem Gs{K:au}{H:Hp}:∀{xs:ae}{vs:List V}{bs:List Bool},AVs K ρ H xs vs->A.G6 xs=some bs->vs=bs.map V.bl
 | _,_,_,.nil,e=>by cases e;rfl
 | x::xs,_,bs,.cons h t,e=>by
  cases x with
  | bl b=>
   obtain⟨d,e1,rfl⟩:=aW.mp (show(A.G6 xs).map (b::·)=some bs from e)
   cases h
   rw[Gs t e1];rfl
  | _=>cases e
abbrev HC (x:A)(S:jU):R A:=match x with
 | .ref n=>opt (jS S n) λxs=>opt (A.G6 xs) λbs=>.ok (.bl<|bs.all λb=>b) S
 | _=>.no
def OZ(hc:X.calm=true):kP X (.builtin "all") (rN X<|f1 HC):=kP.imp (Mj hc) λd H Q h0=>by
 kd_p;clear h0
 cases hv with
 | @ref p n f=>
  kj_on;obtain⟨bs,hb,h⟩:=jY h;obtain⟨d,h1,r⟩:=R.lst f<|j_ hn;rw[Gs r hb]at h1;exact⟨p,bs,rfl,qe.of h1,h _ _ _ .refl R<|.bl _⟩
 | _=>exact h.elim
abbrev YQ (x:A)(S:jU):R A:=match x with
 | .ref n=>opt (jS S n) λxs=>opt (A.G6 xs) λbs=>.ok (.bl<|bs.any λb=>b) S
 | _=>.no
def Z1(hc:X.calm=true):kP X (.builtin "any") (rN X<|f1 YQ):=kP.imp (MF hc) λd H Q h0=>by
 kd_p;clear h0
 cases hv with
 | @ref p n f=>
  kj_on;obtain⟨bs,hb,h⟩:=jY h;obtain⟨d,h1,r⟩:=R.lst f<|j_ hn;rw[Gs r hb]at h1;exact⟨p,bs,rfl,qe.of h1,h _ _ _ .refl R<|.bl _⟩
 | _=>exact h.elim
abbrev insI (x:Int):ag->ag
 | []=>[x]
 | y::ys=>if x<=y then x::y::ys else y::insI x ys
abbrev sortI:ag->ag
 | []=>[]
 | x::xs=>insI x<|sortI xs
theorem insI_perm(x:Int):∀ys:ag,(insI x ys).Perm (x::ys)
 | []=>eX _
 | y::ys=>by
  unfold insI;by_cases h:x<=y
  ·rw[aV h]
  ·rw[aR h];exact((insI_perm x ys).cons y).trans (List.Perm.swap x y ys)
theorem sortI_perm:∀xs:ag,(sortI xs).Perm xs
 | []=>eX _
 | x::xs=>(insI_perm x<|sortI xs).trans<|(sortI_perm xs).cons x
theorem JT(x:Int):∀ys:ag,ys.Pairwise (·<=·)->(insI x ys).Pairwise (·<=·)
 | [],_=>cP _ _
 | y::ys,h=>by
  unfold insI;obtain⟨h1,h2⟩:=b9.mp h;by_cases f:x<=y
  ·rw[aV f];exact b9.mpr ⟨λz d=>(bH.mp d).elim (λe=>e ▸ f) λd=>Int.le_trans f<|h1 z d,h⟩
  ·rw[aR f];refine b9.mpr ⟨λz d=>?_,JT x ys h2⟩
   rcases bH.mp ((insI_perm x ys).mem_iff.mp d)with e|d
   ·subst e;lia
   ·exact h1 z d
theorem AR:∀xs:ag,(sortI xs).Pairwise (·<=·)
 | []=>List.Pairwise.nil
 | x::xs=>JT x _<|AR xs
abbrev A.kd:A->jU->Option Kd
 | .non,_=>some .non
 | .bl _,_=>some .bl
 | .int _,_=>some .int
 | .str _,_=>some .str
 | .tup _,_=>some .tup
 | .ref n,S=>(jS S n).map λ_=>.lst
 | _,_=>none
def T8{K:au}(k:Kd):PySem.W.kitOne K k.ty (.type "str")=some (decide<|k=.str):=by cases k<;>rfl
abbrev Mz (k:Kd)(c:String):bi:=if c = "int" then some (decide<|k=.int\/k=.bl)else if c = "bool" then some (decide<|k=.bl)else if c = "tuple" then some (decide<|k=.tup)else if c = "list" then some (decide<|k=.lst)else if c = "str" then some (decide<|k=.str)else none
def K6{K:au}{k:Kd}{c:String}{b:Bool}(h:Mz k c=some b):PySem.W.kitOne K k.ty (.type c)=some b:=by
 unfold Mz at h;split at h
 ·rename_i e;subst e;rw[<- h];exact Up k
 ·split at h
  ·rename_i e;subst e;rw[<- h];exact Ot k
  ·split at h
   ·rename_i e;subst e;rw[<- h];exact kit_tuple k
   ·split at h
    ·rename_i e;subst e;rw[<- h];exact NZ k
    ·split at h
     ·rename_i e;subst e;rw[<- h];exact T8 k
     ·cases h
abbrev yw (x y:A)(S:jU):R A:=match y with
 | .ty c=>opt (x.kd S) λk=>opt (Mz k c) λb=>.ok (.bl b) S
 | _=>.no
def abr{K:au}{H:Hp}{x:A}{v:V}{k:Kd}(R:Rel K ρ H S)(h:AV K ρ H x v)(e:x.kd S=some k):(∃p vs,v=.ref p/\nO K H p vs/\k=.tup)\/W6 H v k:=by
 cases h with
 | non=>cases e;exact .inr rfl
 | bl b=>cases e;exact .inr ⟨b,rfl⟩
 | int i=>cases e;exact .inr ⟨i,rfl⟩
 | str i=>cases e;exact .inr ⟨i,rfl⟩
 | tup h r=>cases e;exact .inl ⟨_,_,rfl,(nO.of h),rfl⟩
 | ref h=>
  obtain⟨xs,e1,e2⟩:=aW.mp e;obtain⟨vs,h1,_⟩:=R.lst h (j_ e1)
  cases e2
  exact .inr ⟨_,vs,rfl,h1⟩
 | _=>cases e
def Gm:kP X (.builtin "isinstance") (rN X<|f2 yw):=λpins s σ H g us Q I rx h0=>by
 obtain⟨w,C,rfl,ρ,S,x,y,R,hv,d,h⟩:=rn2 h0;clear h0
 cases d with
 | ty c=>
  obtain⟨k,j,h⟩:=jY h;obtain⟨b,hb,hq⟩:=jY h;have hq:zN X ρ H Q (.bl b) S:=hq;clear h
  rcases abr R hv j with⟨p,g,rfl,t,rfl⟩|f
  ·obtain⟨F,G,rfl,r1,r2⟩:=vals2 rx;obtain⟨B,q,⟨o,h1,h2,_⟩,_⟩:=I.tuple t
   cases(show _=Value.ref p from r1)
   cases(show _=Value.type c from r2)
   exact cX PySem.W.kitx_tuple I.El ⟨o,h1,h2⟩ (K6 hb) (λz=>nomatch z) λJ=>⟨.bl b,H,I.tok _,rfl,hq _ _ _ .refl R<|.bl _⟩
  ·exact Ez (c:=c) pins s σ H _ us Q I rx ⟨w,_,b,rfl,f.adh,K6 hb,hq _ _ _ .refl R<|.bl _⟩
 | _=>exact h.elim
end
abbrev Ea (x:ag):List (ag)->List (ag)
 | []=>[x]
 | y::ys=>if HT.lexLt y x=true then y::Ea x ys else x::y::ys
abbrev kR:List (ag)->List (ag)
 | []=>[]
 | x::xs=>Ea x<|kR xs
abbrev Di (a b:ag):Prop:=HT.lexLt b a=false
def Di.trans{a c:ag}(h1:Di a b)(h2:Di b c):Di a c:=by
 unfold Di at *
 cases e:HT.lexLt c a with
 | false=>rfl
 | true=>
  rcases Sx.Lc (b:=b) e with z|z
  ·rw[h2]at z;cases z
  ·rw[h1]at z;cases z
theorem yl(x:ag):∀ys:List<|ag,(Ea x ys).Perm (x::ys)
 | []=>eX _
 | y::ys=>by
  unfold Ea;by_cases h:HT.lexLt y x=true
  ·rw[aV h];exact((yl x ys).cons y).trans (List.Perm.swap x y ys)
  ·rw[aR h]
theorem kN:∀xs:List<|ag,(kR xs).Perm xs
 | []=>eX _
 | x::xs=>(yl x<|kR xs).trans<|(kN xs).cons x
theorem Kc(x:ag):∀ys:List<|ag,ys.Pairwise Di->(Ea x ys).Pairwise Di
 | [],_=>cP _ _
 | y::ys,h=>by
  unfold Ea;obtain⟨h1,h2⟩:=b9.mp h;by_cases g:HT.lexLt y x=true
  ·rw[aV g];refine b9.mpr ⟨λz d=>?_,Kc x ys h2⟩
   rcases bH.mp ((yl x ys).mem_iff.mp d)with e|d
   ·subst e;unfold Di
    cases e:HT.lexLt z y with
    | false=>rfl
    | true=>have:=Sx.CN g e;rw[Sx.zL]at this;cases this
   ·exact h1 z d
  ·rw[aR g];have f:Di x y:=by unfold Di;simpa using g
   exact b9.mpr ⟨λz d=>(bH.mp d).elim (λe=>e ▸ f) λd=>f.trans<|h1 z d,h⟩
theorem vA:∀xs:List<|ag,(kR xs).Pairwise Di
 | []=>List.Pairwise.nil
 | x::xs=>Kc x _<|vA xs
def HJ{xs:List<|ag}(p:xs.Perm ys)(h:xs.Pairwise Di):xs=kR ys:=
 d8 (λa b _ _ h1 h2=>(Sx.xP h1 h2).symm) h (vA ys) (p.trans (kN ys).symm)
theorem pig:∀(N:Nat) (l:am),l.Nodup->(∀x∈l,x<N)->l.length<=N
 | 0,l,_,h=>by
  cases l with
  | nil=>exact aM _
  | cons a l=>exact absurd (h a<|aL ..)<|eB _
 | N+1,l,nd,h=>by
  have h1:=pig N (l.erase N) (nd.erase N) λx d=>by
   have:=h x<|List.mem_of_mem_erase d;have:x≠N:=λz=>by
    subst z;exact(List.Nodup.not_mem_erase nd) d
   lia
  have:=List.le_length_erase (l:=l) (a:=N)
  lia
def uF{N:Nat}{g:Nat->Nat}(h:∀i,i<N->g i<N)(inj:∀i j,i<j->j<N->g i≠g j):((List.range N).map g).Perm (List.range N):=by
 have nd:((List.range N).map g).Nodup:=by
  unfold List.Nodup;rw[b_];intro i j k p f;rw[aG,bR]at k p;rw[cQ,cQ,dM,dM];exact inj i j f p
 have lt:∀x∈(List.range N).map g,x<N:=λx d=>by
  obtain⟨i,k,rfl⟩:=aY.mp d;exact h i<|cF.mp k
 refine(jm nd List.nodup_range).mpr λa=>⟨λha=>cF.mpr<|lt a ha,λha=>?_⟩;refine Classical.byContradiction λhn=>?_;have:=pig N (a::(List.range N).map g) (bX.mpr ⟨hn,nd⟩) λx d=>by
  rcases bH.mp d with rfl|d
  ·exact cF.mp ha
  ·exact lt x d
 rw[bA,aG,bR]at this
 lia
def range_getD{α:Type}(l:List α)(d:α):(List.range l.length).map (λi=>l.getD i d)=l:=by
 apply dS;intro i;rw[aO];by_cases c:i<l.length
 ·rw[eK c];show some (l.getD i d)=_;rw[aK,aI c];rfl
 ·rw[dH<|by rw[bR];lia,dH ()];rfl
def Qi{kss:List<|ag}{g:Nat->Nat}(c:Sx.Cl g 0 kss.length)(so:Sx.So (Sx.uO kss) g 0 kss.length):(List.range kss.length).map (λi=>kss.getD (g i) [])=kR kss:=by
 refine HJ ?_ ?_
 ·have p:=uF (N:=kss.length) (g:=g) (λi k=>(c i (bK _) k).2) λi j d f z=>by
   have:=so i j (bK _) d f;rw[z]at this;exact this.Mu
  have:=p.map λi=>kss.getD i [];rw[bg,range_getD]at this;exact this
 ·rw[b_];intro i j k f d;rw[aG,bR]at k f;rw[cQ,cQ,dM,dM];exact(so i j (bK _) d f).ge
abbrev Yg:ae->Option (List<|ag)
 | []=>some []
 | .tup xs::r=>match A.ints xs with
  | some (k::ks)=>(Yg r).map λd=>(k::ks)::d
  | _=>none
 | _=>none
theorem VV{K:au}{H:Hp}:∀{xs:ae}{vs:List V}{kss:List<|ag},AVs K ρ H xs vs->Yg xs=some kss ->
  ∃rs:bb,vs=rs.map V.ref/\rs.length=kss.length/\∀(i:Nat) (r:ak) (ks:ag),rs[i]?=some r->kss[i]?=some ks->nO K H r (ks.map V.int)/\ks≠[]/\AV K ρ H (.tup<|ks.map .int) (.ref r)
 | [],_,_,.nil,e=>by cases e;exact⟨[],rfl,rfl,λi r ks h=>by simp at h⟩
 | x::xs,_,kss,.cons h t,e=>by
  cases h with
  | tup h r=>
   rename_i a ys us;unfold Yg at e
   cases e1:A.ints ys with
   | none=>rw[e1]at e;cases e
   | some ks=>
    rw[e1]at e
    cases ks with
    | nil=>cases e
    | cons k ks=>
     obtain⟨f,e2,rfl⟩:=aW.mp e;obtain⟨rs,rfl,j,g⟩:=VV t e2;have ev:=rD r e1;subst ev;refine⟨a::rs,rfl,by rw[bA,bA,j],λi p d h1 h2=>?_⟩
     cases i with
     | zero=>
      cases h1
      cases h2
      exact⟨nO.of h,(λz=>nomatch z),.tup h<|rY _⟩
     | succ i=>exact g i p d (by simpa using h1)<|by simpa using h2
  | _=>cases e
theorem Au{K:au}{H:Hp}{α:Type}{f:α->A}{h:α->V}:∀{l:List α},(∀a∈l,AV K ρ H (f a)<|h a)->AVs K ρ H (l.map f) (l.map h)
 | [],_=>.nil
 | a::l,e=>.cons (e a<|aL ..)<|Au λb hb=>e b<|aQ _ hb
abbrev Ma (k:Nat->ag)(i:Nat):am->am
 | []=>[i]
 | j::js=>if HT.lexLt (k j) (k i)=true then j::Ma k i js else i::j::js
abbrev NW (k:Nat->ag):am->am
 | []=>[]
 | i::is=>Ma k i<|NW k is
theorem yt(k:Nat->ag)(i:Nat):∀js:am,(Ma k i js).Perm (i::js)
 | []=>eX _
 | j::js=>by
  unfold Ma;by_cases h:HT.lexLt (k j) (k i)=true
  ·rw[aV h];exact((yt k i js).cons j).trans (List.Perm.swap i j js)
  ·rw[aR h]
theorem vV(k:Nat->ag):∀is:am,(NW k is).Perm is
 | []=>eX _
 | i::is=>(yt k i<|NW k is).trans<|(vV k is).cons i
theorem J3{kss:List<|ag}:∀{js:am},(∀j∈js,i<j)->js.Pairwise (Sx.P<|Sx.uO kss)->(Ma (λi=>kss.getD i []) i js).Pairwise (Sx.P<|Sx.uO kss)
 | [],_,_=>cP _ _
 | j::js,hi,h=>by
  obtain⟨h1,h2⟩:=b9.mp h;unfold Ma;by_cases c:HT.lexLt (kss.getD j []) (kss.getD i [])=true
  ·rw[aV c];refine b9.mpr ⟨λz d=>?_,J3 (λg f=>hi g<|aQ _ f) h2⟩
   rcases bH.mp ((yt _ i js).mem_iff.mp d)with e|d
   ·subst e;exact .inl c
   ·exact h1 z d
  ·rw[aR c];have p:Sx.P (Sx.uO kss) i j:=.inr ⟨by show HT.lexLt _ _=false;simpa using c,hi j<|aL ..⟩;exact b9.mpr ⟨λz d=>(bH.mp d).elim (λe=>e ▸ p) λd=>p.trans<|h1 z d,h⟩
theorem Jj{kss:List<|ag}:∀{is:am},is.Pairwise (· < ·)->(NW (λi=>kss.getD i []) is).Pairwise (Sx.P<|Sx.uO kss)
 | [],_=>List.Pairwise.nil
 | i::is,h=>by
  obtain⟨h1,h2⟩:=b9.mp h;exact J3 (λj d=>h1 j<|(vV _ is).mem_iff.mp d)<|Jj h2
abbrev M3 (kss:List<|ag):am:=NW (λi=>kss.getD i [])<|List.range kss.length
def aaU{kss:List<|ag}{g:Nat->Nat}(c:Sx.Cl g 0 kss.length)(so:Sx.So (Sx.uO kss) g 0 kss.length):(List.range kss.length).map g=M3 kss:=by
 refine d8 (λa b _ _ h1 h2=>absurd (h1.trans h2) λz=>z.Mu) ?_ (Jj<|ig) ?_
 ·rw[b_];intro i j k f d;rw[aG,bR]at k f;rw[cQ,cQ,dM,dM];exact so i j (bK _) d f
 ·exact(uF (λi k=>(c i (bK _) k).2) λi j d f z=>by
   have:=so i j (bK _) d f;rw[z]at this;exact this.Mu).trans (vV _ _).symm
abbrev RS.post (r:RS)(N:ae->jU->Prop)(T:A->jU->Prop)(B C:ae->jU->Prop)(E:Str->jU->Prop):Prop:=match r with
 | .nx τ S=>N τ S
 | .rt a S=>T a S
 | .bk τ S=>B τ S
 | .ct τ S=>C τ S
 | .ex c S=>E c S
 | .no=>False
abbrev RS.of {α:Type}(r:R α)(f:α->jU->RS):RS:=match r with
 | .ok a S=>f a S
 | .ex c S=>.ex c S
 | .no=>.no
def of_post{α:Type}{r:R α}{f:α->jU->RS}{N B C:ae->jU->Prop}{T:A->jU->Prop}{E:Str->jU->Prop}(h:(RS.of r f).post N T B C E):r.post (λa S=>(f a S).post N T B C E) E:=by
 cases r<;>exact h
def RS.mono{r:RS}{N B C N' B' C':ae->jU->Prop}{T T':A->jU->Prop}{E E':Str->jU->Prop}(h:r.post N T B C E)(hn:∀τ S,N τ S->N' τ S)(ht:∀a S,T a S->T' a S)(hb:∀τ S,B τ S->B' τ S)(hc:∀τ S,C τ S->C' τ S)(he:∀c S,E c S->E' c S):r.post N' T' B' C' E':=by
 cases r with
 | nx τ S=>exact hn _ _ h
 | rt a S=>exact ht _ _ h
 | bk τ S=>exact hb _ _ h
 | ct τ S=>exact hc _ _ h
 | ex c S=>exact he _ _ h
 | no=>exact h.elim
abbrev IS (X:Cx)(ρ:bb)(H:Hp)(N:L2.St->Hp->Prop):ae->jU->Prop:=λf g=>∀ρ' H' d,Ext ρ ρ' H H'->Rel X.K ρ' H' g->SR X.K ρ' H' f d->N d H'
def IS.ext{X:Cx}{H H':Hp}{N:L2.St->Hp->Prop}(h:IS X ρ H N τ S)(e:Ext ρ ρ' H H'):IS X ρ' H' N τ S:=λρ2 H2 d e2=>h ρ2 H2 d<|e.trans e2
abbrev Cm (X:Cx)(ρ:bb)(H:Hp)(D:Ends)(r:RS):Prop:=r.post (IS X ρ H D.nx) (zN X ρ H D.rt) (IS X ρ H D.bk) (IS X ρ H D.ct)<|XE X ρ H
def Cm.ext{X:Cx}{H H':Hp}{D:Ends}{r:RS}(h:Cm X ρ H D r)(e:Ext ρ ρ' H H'):Cm X ρ' H' D r:=RS.mono h (λ_ _ z=>z.ext e) (λ_ _ z=>z.ext e) (λ_ _ z=>z.ext e) (λ_ _ z=>z.ext e) λ_ _ z=>z.ext e
abbrev tS (X:Cx)(c:Sm):TS:=λD σ H=>∃ρ S τ,Rel X.K ρ H S/\SR X.K ρ H τ σ/\Cm X ρ H D (c τ S)
abbrev AS (X:Cx)(st:aF)(c:Sm):Prop:=PS X st<|tS X c
abbrev TJ (X:Cx)(sts:List aF)(c:Sm):Prop:=C8 X sts<|tS X c
abbrev tG (X:Cx)(g:Tg):TG:=λv σ H Q=>∃ρ S τ a,Rel X.K ρ H S/\SR X.K ρ H τ σ/\AV X.K ρ H a v/\(g a τ S).post (IS X ρ H Q) (XE X ρ H)
abbrev AG (X:Cx)(e:aE)(g:Tg):Prop:=PG X e<|tG X g
meta abbrev Sq:=ae->ae->jU->R (ae)
abbrev tGs (X:Cx)(g:Sq):We:=λf σ H Q=>∃ρ S τ d,Rel X.K ρ H S/\SR X.K ρ H τ σ/\AVs X.K ρ H d f/\(g d τ S).post (IS X ρ H Q) (XE X ρ H)
abbrev AGs (X:Cx)(es:List aE)(g:Sq):Prop:=PGs X es<|tGs X g
section
variable {X:Cx}{pos:Pos}{a b e:aE}{st:aF}{rest:List aF}{c d:Sm}
def PS.imp{t t':TS}(h:PS X st t)(i:∀D σ H,t' D σ H->t D σ H):PS X st t':=λpins s σ H D I q=>h pins s σ H D I<|i D σ H q
def C8.imp{t t':TS}(h:C8 X rest t)(i:∀D σ H,t' D σ H->t D σ H):C8 X rest t':=λpins s σ H D I q=>h pins s σ H D I<|i D σ H q
def PG.imp{t t':TG}(h:PG X e t)(i:∀v σ H Q,t' v σ H Q->t v σ H Q):PG X e t':=λpins s σ H v u Q I r q=>h pins s σ H v u Q I r<|i _ _ _ _ q
abbrev kB (i:Nat):Tg:=λa τ S=>.ok (τ.set i a) S
def kg{i:Nat}{x:Str}(hN:X.N.Nodup)(hi:X.N[i]?=some x:=by rfl)(hx:Loc X.env.scope x:=by first|exact Or.inl rfl|exact Or.inr rfl)(hf:X.fn x=true\/X.env.scope.names.lookup x=some .local:=by first|exact .inl rfl|exact .inr rfl|assumption):AG X (.Name x pos) (kB i):=
 PG.imp (DU hN hi hx hf) λv σ H Q ⟨ρ,S,τ,a,R,r,va,h⟩=>h ρ H _ .refl R<|r.set va
abbrev Br:Sq:=λd τ S=>match d with
 | []=>.ok τ S
 | _=>.no
abbrev tP (g:Tg)(gs:Sq):Sq:=λd τ S=>match d with
 | a::d=>(g a τ S).bind λf S1=>gs d f S1
 | []=>.no
def oE:AGs X [] Br:=λpins s σ H d us Q I r ⟨ρ,S,τ,g,R,f,va,h⟩=>Vj pins s σ H d us Q I r (by
 cases va with
 | nil=>exact⟨rfl,h ρ H σ .refl R f⟩
 | cons _ _=>exact h.elim)
def kO{g:Tg}{gs:Sq}(h1:AG X e g)(h2:AGs X es gs)(hs:(assignEach (e::es) X.env).map (·.2)=assign e X.env::(assignEach es X.env).map (·.2):=by rfl):AGs X (e::es) (tP g gs):=
 λpins s σ H k us Q I r ⟨ρ,S,τ,t,R,p,va,h⟩=>Rl h1 h2 hs pins s σ H k us Q I r (by
  cases va with
  | nil=>exact h.elim
  | cons ha q=>exact⟨_,_,rfl,ρ,S,τ,_,R,p,ha,jX (j5 h) .refl λd S1 h1 ρ1 H1 j e1 R1 f=>⟨ρ1,S1,d,_,R1,f,q.ext e1,jX h1 e1 λ_ _ z=>z.ext e1⟩⟩)
abbrev Bs (n:Nat)(gs:Sq):Tg:=λa τ S=>match a with
 | .tup xs | .ktu xs=>gd (xs.length=n) (gs xs τ S)
 | _=>.no
def qI{k n:Nat}{gs:Sq}(hc:X.calm=true)(h:AGs X es gs)(hn:(assignEach es X.env).length=n:=by rfl)(hst:(assignEach es X.env).findIdx? (·.1)=none:=by rfl):AG X (.Tuple es k pos) (Bs n gs):=
 PG.imp (Y0 hc h hn hst) λv σ H Q h9=>by
  obtain⟨ρ,S,τ,a,R,r,va,h⟩:=h9
  cases va with
  | tup h1 r1=>
   obtain⟨d,h⟩:=kD h;exact⟨_,_,rfl,nO.of h1,by rw[<- r1.length];exact d,ρ,S,τ,_,R,r,r1,h⟩
  | ktu h1 r1=>
   obtain⟨d,h⟩:=kD h;exact⟨_,_,rfl,.inr h1,by rw[<- r1.length];exact d,ρ,S,τ,_,R,r,r1,h⟩
  | _=>exact h.elim
abbrev FF (o i v:A)(S:jU):R Unit:=match o,i with
 | .ref n,.int k=>opt (jS S n) λxs=>opt (Em xs.length k) λj=>.ok Unit.unit (S.set n<|.lst<|xs.set j v)
 | _,_=>.no
abbrev rSt (X:Cx):GC:=λo i v H Q=>∃ρ S ao f d,Rel X.K ρ H S/\AV X.K ρ H ao o/\AV X.K ρ H f i/\AV X.K ρ H d v/\(FF ao f d S).post (λ_ g=>∀ρ' H',Ext ρ ρ' H H'->Rel X.K ρ' H' g->Q H') (XE X ρ H)
def Ui:E2 X (rSt X):=λpins s σ H o i v z iv u Q I g q B h9=>by
 obtain⟨ρ,S,ao,G,F,R,h1,h2,h3,h⟩:=h9
 cases h1 with
 | @ref p n d=>
  cases h2 with
  | int k=>
   kj_on;obtain⟨j,t,h⟩:=jY h;obtain⟨C,e,r⟩:=R.lst d<|j_ hn;obtain⟨ex,f⟩:=R.put d (j_ hn)<|r.set h3 j;exact set_list pins s σ H _ _ v z iv u Q I g q B ⟨p,C,k,j,rfl,rfl,e,by rw[<- r.length];exact t,h _ _ ex f⟩
  | _=>exact h.elim
 | _=>exact h.elim
abbrev Vn (co ci:Ex):Tg:=λa τ S=>(co τ S).bind λo S1=>(ci τ S1).bind λi S2=>(FF o i a S2).bind λ_ S3=>.ok τ S3
def yj{co ci:Ex}(ho:AE X o co)(hi:AE X i ci)
  (ha:∀v,assign (.Subscript o i pos) X.env v=(do
   let ov <- holding [v] (eval o X.env)
   let iv <- holding [v,ov] (eval i X.env)
   standAt pos
   holding [v,ov,iv] (setItem ov iv v)
   release [v,ov,iv] []):=by intro _;rfl):AG X (.Subscript o i pos) (Vn co ci):=PG.imp (D4 ho hi Ui ha) λv σ H Q h9=>by
 obtain⟨ρ,S,τ,a,R,r,va,h⟩:=h9;k_ne;gp_on;kpf_c
abbrev r9:Sm:=λτ S=>.nx τ S
abbrev ki (c d:Sm):Sm:=λτ S=>match c τ S with
 | .nx f g=>d f g
 | r=>r
def mj:TJ X [] r9:=C8.imp Um λD σ H ⟨ρ,S,τ,R,r,h⟩=>h ρ H σ .refl R r
def TQ{D:Ends}{H:Hp}(h:tS X (ki c d) D σ H):abm (tS X c) (tS X d) D σ H:=by
 kl_no;refine⟨ρ,S,τ,R,r,?_⟩;unfold ki at h
 cases hc:c τ S with
 | nx f S1=>
  rw[hc]at h;exact λρ1 H1 g e1 R1 r1=>⟨ρ1,S1,f,R1,r1,Cm.ext h e1⟩
 | rt a S1=>rw[hc]at h;exact h
 | bk f S1=>rw[hc]at h;exact h
 | ct f S1=>rw[hc]at h;exact h
 | ex x S1=>rw[hc]at h;exact h
 | no=>rw[hc]at h;exact h
def jV(h1:AS X st c)(h2:TJ X rest d):TJ X (st::rest) (ki c d):=C8.imp (QX h1 h2) λD σ H h=>TQ h
def jZ(h1:AS X st c):TJ X [st] c:=UK h1
abbrev Zo:Sm:=λτ S=>.bk τ S
abbrev aao:Sm:=λτ S=>.ct τ S
abbrev ny (e:Ex):Sm:=λτ S=>.of (e τ S) λ_ S1=>.nx τ S1
def mT{f:Ex}(he:AE X e f)(hs:swapsWith e none pos.line X.env=pure false:=by rfl):AS X (.Expr e pos) (ny f):=PS.imp (Vc he hs) λD σ H ⟨ρ,S,τ,R,r,h⟩=>
 ⟨ρ,S,τ,R,r,jX (of_post h) .refl λa S1 h1 ρ1 H1 x e1 R1 v1=>h1 ρ1 H1 σ e1 R1<|r.ext e1⟩
abbrev mH (e:Ex):Sm:=λτ S=>.of (e τ S) λa S1=>.rt a S1
def kG{f:Ex}(he:AE X e f):AS X (.Return (some e) pos) (mH f):=PS.imp (Y8 he) λD σ H ⟨ρ,S,τ,R,r,h⟩=>⟨ρ,S,τ,R,r,jX (of_post h) .refl λa S1 h1=>h1⟩
abbrev aaV:Sm:=λτ S=>.rt .non S
abbrev zc (t:Te)(c d:Sm):Sm:=λτ S=>.of (t τ S) λb S1=>match b with|true=>c τ S1|false=>d τ S1
def n_{t:Te}(ht:AT X e t)(ha:TJ X ca c)(hb:TJ X cb d):AS X (.If e ca cb pos) (zc t c d):=PS.imp (aa_ ht ha hb) λD σ H h9=>by
 x_go;refine⟨ρ,S,τ,R,r,jX (of_post h) .refl λb S1 h1 ρ1 H1 e1 R1=>?_⟩
 cases b with
 | true=>rw[aV rfl];exact⟨ρ1,S1,τ,R1,r.ext e1,Cm.ext h1 e1⟩
 | false=>rw[aR bF];exact⟨ρ1,S1,τ,R1,r.ext e1,Cm.ext h1 e1⟩
abbrev kM (e:Ex)(g:Tg):Sm:=λτ S=>.of (e τ S) λa S1=>.of (g a τ S1) λd S2=>.nx d S2
def Tc{f:Ex}{g:Tg}{D:Ends}{H:Hp}(h:tS X (kM f g) D σ H):Nz (tE X f) (tG X g) D σ H:=by
 kl_no;exact⟨ρ,S,τ,R,r,jX (of_post h) .refl λa S1 h1 ρ1 H1 x e1 R1 v1=>⟨ρ1,S1,τ,a,R1,r.ext e1,v1,jX (of_post h1) e1 λd S2 h2=>IS.ext h2 e1⟩⟩
def o8{tg:aE}{f:Ex}{g:Tg}(he:AE X e f)(hg:AG X tg g)(hs:swapsWithSole [tg] e pos.line X.env=pure false:=by rfl)(hw:swappedStores [tg] e X.env=pure none:=by rfl)
  (h1:(assignEach [tg] X.env).map (·.2)=[assign tg X.env]:=by rfl):AS X (.Assign [tg] e pos) (kM f g):=PS.imp (Xk he hg hs hw h1) λD σ H h=>Tc h
def kj{i:Nat}{x:Str}{f:Ex}(hN:X.N.Nodup)(he:AE X e f)(hi:X.N[i]?=some x:=by rfl)(hx:Loc X.env.scope x:=by first|exact Or.inl rfl|exact Or.inr rfl)(hs:swapsWith e (some<|.Name x pos') pos.line X.env=pure false:=by rfl)(hf:X.fn x=true\/X.env.scope.names.lookup x=some .local:=by first|exact .inl rfl|exact .inr rfl|assumption) :
  AS X (.Assign [.Name x pos'] e pos) (kM f<|kB i):=PS.imp (XR hN hi hx he hs hf) λD σ H ⟨ρ,S,τ,R,r,h⟩=>
 ⟨ρ,S,τ,R,r,jX (of_post h) .refl λa S1 h1 ρ1 H1 x e1 R1 v1=>h1 ρ1 H1 _ e1 R1<|(r.ext e1).set v1⟩
abbrev acg (i j:Nat)(c:sW):Sm:=λτ S=>.of (c τ S) λd S1=>match d with
 | [a,b]=>.nx ((τ.set i a).set j b) S1
 | _=>.no
abbrev ip (X:Cx)(f:A->A->jU->R A):TIp:=λx y H Q=>∃ρ S a b,Rel X.K ρ H S/\AV X.K ρ H a x/\AV X.K ρ H b y/\(f a b S).post (zN X ρ H Q) (XE X ρ H)
abbrev acn (a b:A)(S:jU):R A:=match a,b with
 | .int i,.int j=>.ok (.int<|i+j) S
 | _,_=>.no
abbrev Q5 (i:Nat)(f:A->A->jU->R A)(e:Ex):Sm:=λτ S=>if (τ.getD i .unb).pV then .no else .of (e τ S) λb S1=>.of (f (τ.getD i .unb) b S1) λc S2=>.nx (τ.set i c) S2
def Zd{i:Nat}{x:Str}{c:Ex}{f:A->A->jU->R A}(hN:X.N.Nodup)(he:AE X e c)(ho:PIp X op<|ip X f)(hi:X.N[i]?=some x:=by rfl)(hx:Loc X.env.scope x:=by first|exact Or.inl rfl|exact Or.inr rfl)(hf:X.fn x=true\/X.env.scope.names.lookup x=some .local:=by first|exact .inl rfl|exact .inr rfl|assumption) :
  AS X (.AugAssign (.Name x pos') op e pos) (Q5 i f c):=PS.imp (Wz hN hi hx he ho hf) λD σ H h9=>by
 x_go;have d:∀x,τ[i]?=some x->x.pV=false->(RS.of (c τ S) λb S1=>.of (f x b S1) λc S2=>.nx (τ.set i c) S2).post (IS X ρ H D.nx) (zN X ρ H D.rt) (IS X ρ H D.bk) (IS X ρ H D.ct) (XE X ρ H) ->
   ∃x,σ[i]?=some (some x)/\tE X c σ H λy H1=>ip X f x y H1 λz H2=>D.nx (σ.set i<|some z) H2:=by
  intro x hi hx h
  rcases r.at i x hi with z|⟨v,e,q⟩
  ·subst z;cases hx
  ·refine⟨v,e,ρ,S,τ,R,r,jX (of_post h) .refl λb S1 h1 ρ1 H1 y e1 R1 v1=>⟨ρ1,S1,x,b,R1,q.ext e1,v1,jX (of_post h1) e1 λw S2 h2 ρ2 H2 z e2 R2 v2=>?_⟩⟩;exact h2 ρ2 H2 _ (e1.trans e2) R2<|(r.ext<|e1.trans e2).set v2
 unfold Q5 Cm at h;rw[aK]at h
 cases hi:τ[i]? with
 | none=>rw[hi]at h;exact h.elim
 | some x=>
  rw[hi]at h
  cases hx:x.pV with
  | true=>rw[show(some x).getD .unb=x from rfl,hx]at h;exact h.elim
  | false=>rw[show(some x).getD .unb=x from rfl,hx]at h;exact d x hi hx h
abbrev Vw (a b:A)(S:jU):R A:=match a,b with
 | .ref n,.int i=>opt (jS S n) λxs=>gd (0<=i) (opt (xs[i.toNat]?) λx=>.ok x S)
 | _,_=>.no
abbrev aan (co ci ce:Ex)(f:A->A->jU->R A):Sm:=λτ S=>.of (co τ S) λo S1=>.of (ci τ S1) λi S2=>.of (Vw o i S2) λx S3=>.of (ce τ S3) λy d=>.of (f x y d) λz j=>.of (FF o i z j) λ_ g=>.nx τ g
abbrev lR (t:Te)(c:Sm):Nat->Sm
 | 0=>λ_ _=>.no
 | n+1=>λτ S=>.of (t τ S) λb S1=>match b with
  | false=>.nx τ S1
  | true=>match c τ S1 with
   | .nx d f=>lR t c n d f
   | .ct d f=>lR t c n d f
   | .bk d f=>.nx d f
   | r=>r
def A2(n:Nat){t:Te}(hp:PassesOwn (model X.prog X.w) X.A X.env X.xe)(ht:AT X e t)(hb:TJ X body c):AS X (.While e body [] pos) (lR t c n):=PS.imp (Rg hp ht hb) λD σ H h9=>by
 x_go;refine⟨λm j H'=>∃ρ' f d,Ext ρ ρ' H H'/\Rel X.K ρ' H' f/\SR X.K ρ' H' d j/\Cm X ρ' H' D (lR t c m d f),⟨n,ρ,S,τ,.refl,R,r,h⟩,?_⟩;rintro m p H1 ⟨ρ1,S1,k,e1,R1,r1,h1⟩
 cases m with
 | zero=>exact h1.elim
 | succ m=>
  refine⟨ρ1,S1,k,R1,r1,jX (of_post h1) .refl λb S2 h2 ρ2 H2 e2 R2=>?_⟩
  cases b with
  | false=>rw[aR bF];exact h2 ρ2 H2 p e2 R2 (r1.ext e2)
  | true=>
   rw[aV rfl];refine⟨λj H'=>∃ρ' f d,Ext ρ ρ' H H'/\Rel X.K ρ' H' f/\SR X.K ρ' H' d j/\Cm X ρ' H' D (lR t c m d f),λj H' z=>⟨m,dN _,z⟩,ρ2,S2,k,R2,r1.ext e2,?_⟩;have h2:Cm X ρ1 H1 D (match c k S2 with
    | .nx d f=>lR t c m d f
    | .ct d f=>lR t c m d f
    | .bk d f=>.nx d f
    | r=>r):=h2
   cases hc:c k S2 with
   | nx g S3=>rw[hc]at h2;exact λρ3 H3 B e3 R3 q=>⟨ρ3,S3,g,(e1.trans e2).trans e3,R3,q,Cm.ext h2<|e2.trans e3⟩
   | ct g S3=>rw[hc]at h2;exact λρ3 H3 B e3 R3 q=>⟨ρ3,S3,g,(e1.trans e2).trans e3,R3,q,Cm.ext h2<|e2.trans e3⟩
   | bk g S3=>rw[hc]at h2;exact IS.ext h2 e2
   | rt a S3=>rw[hc]at h2;exact zN.ext h2 e2
   | ex x S3=>rw[hc]at h2;exact XE.ext h2 e2
   | no=>rw[hc]at h2;exact h2
end
structure Src where
 k:Nat
 get:Nat->jU->Option A
 fin:jU->Bool
structure JR (K:au)(s:Src)(J:It)(ρ0:bb)(H0:Hp):Prop where
 go:∀(i:Nat) (S:jU) (H:Hp) (ρ:bb) (x:A),Ext0 ρ0 ρ H0 H->Rel K ρ H S->s.get i S=some x->J.go i H/\∀v H',J.yld i H v H'->Ext ρ ρ H H'/\Rel K ρ H' S/\AV K ρ H' x v
 stop:∀(S:jU) (H:Hp) (ρ:bb),Ext0 ρ0 ρ H0 H->Rel K ρ H S->s.fin S=true->J.stop s.k H
meta abbrev Ic:=ae->jU->R Src
abbrev tI (X:Cx)(c:Ic):TI:=λσ H Q=>∃ρ S τ,Rel X.K ρ H S/\SR X.K ρ H τ σ/\(c τ S).post (λs d=>∀ρ' H' J,Ext ρ ρ' H H'->Rel X.K ρ' H' d->JR X.K s J ρ' H'->Q J H') (XE X ρ H)
abbrev AI (X:Cx)(tg iter:aE)(c:Ic):Prop:=PI X tg iter<|tI X c
abbrev qO (xs:ae):Src:=⟨xs.length,λi _=>xs[i]?,λ_=>true⟩
abbrev lU (n k:Nat):Src:=⟨k,λi S=>(jS S n).bind (·[i]?),λS=>match jS S n with
 | some ys=>decide (ys.length<=k)
 | none=>false⟩
abbrev uo (lo hi:Int):Src:=⟨(hi-lo).toNat,λi _=>if i<(hi-lo).toNat then some (.int<|lo+i)else none,λ_=>true⟩
abbrev kY (c:Ex):Ic:=λτ S=>(c τ S).bind λa S1=>match a with
 | .tup xs=>.ok (qO xs) S1
 | .frz xs=>.ok (qO xs) S1
 | .ref n=>opt (jS S1 n) λxs=>.ok (lU n xs.length) S1
 | .str x=>gd (x.cps.all (· < 128)=true) (.ok (qO<|x.cps.toList.map λc=>.str ⟨#[c]⟩) S1)
 | _=>.no
section
variable {X:Cx}{pos:Pos}{tg e a b:aE}
def Yc{K:au}{H0:Hp}{p:ak}(h:nO K H0 p vs)(r:AVs K ρ0 H0 xs vs):JR K (qO xs) (Itt K p) ρ0 H0 where
 go:=λi S H ρ x e R g=>by
  obtain⟨v,ev,d⟩:=(AVs.m_ e r).get g;have hs:=e.sqT h;refine⟨⟨vs,v,hs,ev⟩,λw H' ⟨e1,y⟩=>?_⟩;subst e1;have:=y vs hs;rw[ev]at this
  cases this
  exact⟨.refl,R,d⟩
 stop:=λS H ρ e R _=>⟨vs,e.sqT h,by rw[<- r.length];exact aM _⟩
def Yl{K:au}{H0:Hp}{p:ak}(h:Fz K H0 p vs)(r:AVs K ρ0 H0 xs vs):JR K (qO xs) (Itl K p) ρ0 H0 where
 go:=λi S H ρ x e R g=>by
  obtain⟨v,ev,d⟩:=(AVs.m_ e r).get g;have hs:=(e.fz h).SD;refine⟨⟨vs,v,hs,ev⟩,λw H' ⟨e1,y⟩=>?_⟩;subst e1;have:=y vs hs;rw[ev]at this
  cases this
  exact⟨.refl,R,d⟩
 stop:=λS H ρ e R _=>⟨vs,(e.fz h).SD,by rw[<- r.length];exact aM _⟩
def W8{K:au}{ρ0:bb}{H0:Hp}{p:ak}{n k:Nat}(h:ρ0[n]?=some p):JR K (lU n k) (Itl K p) ρ0 H0 where
 go:=λi S H ρ x e R g=>by
  obtain⟨ys,hn,f⟩:=cz.mp<|show(jS S n).bind (·[i]?)=some x from g;obtain⟨d,h1,r⟩:=R.lst (e.get h)<|j_ hn;obtain⟨v,ev,j⟩:=r.get f;refine⟨⟨d,v,qe.of h1,ev⟩,λw H' ⟨e1,y⟩=>?_⟩;subst e1;have:=y d<|qe.of h1;rw[ev]at this
  cases this
  exact⟨.refl,R,j⟩
 stop:=λS H ρ e R g=>by
  have g:(match jS S n with
   | some ys=>decide (ys.length<=k)
   | none=>false)=true:=g
  cases hn:jS S n with
  | none=>rw[hn]at g;cases g
  | some ys=>
   rw[hn]at g;obtain⟨d,h1,r⟩:=R.lst (e.get h)<|j_ hn;exact⟨d,qe.of h1,by rw[<- r.length];exact b8 g⟩
def Qy{K:au}{H0:Hp}{lo hi:Int}:JR K (uo lo hi) (Itr lo (hi-lo).toNat) ρ0 H0 where
 go:=λi S H ρ x e R g=>by
  have g:(if i<(hi-lo).toNat then some (A.int<|lo+i)else none)=some x:=g;by_cases d:i<(hi-lo).toNat
  ·rw[aV d]at g
   cases g
   refine⟨d,λw H' ⟨e1,y⟩=>?_⟩;subst e1 y;exact⟨.refl,R,.int _⟩
  ·rw[aR d]at g;cases g
 stop:=λS H ρ e R _=>aM _
def Zk{K:au}{H0:Hp}{x:Str}:JR K (qO<|x.cps.toList.map λc=>A.str ⟨#[c]⟩) (Its x) ρ0 H0 where
 go:=λi S H ρ y e R g=>by
  have g:(x.cps.toList.map λc=>A.str ⟨#[c]⟩)[i]?=some y:=g;rw[aO]at g;obtain⟨c,hc,rfl⟩:=aW.mp g;rw[cH]at hc;refine⟨(Array.getElem?_eq_some_iff.mp hc).1,λw H' ⟨e1,j,d,f⟩=>?_⟩;rw[hc]at d
  cases d
  subst e1 f;exact⟨.refl,R,.str _⟩
 stop:=λS H ρ e R _=>by
  show(x.cps.toList.map λc=>A.str ⟨#[c]⟩).length=x.cps.size;rw[aG,eF]
def lB{c:Ex}(he:AE X e c):AI X tg e (kY c):=λpins s σ H Q I h9=>by
 x_go;have hb:=j5 h
 cases hc:c τ S with
 | no=>rw[hc]at hb;exact hb.elim
 | ex x S1=>
  rw[hc]at hb;exact RE he pins s σ H Q I ⟨ρ,S,τ,R,r,by rw[hc];exact hb⟩
 | ok a S1=>
  rw[hc]at hb
  cases a with
  | tup xs=>
   refine RE he pins s σ H Q I ⟨ρ,S,τ,R,r,?_⟩;rw[hc];intro ρ1 H1 x e1 R1 v1
   cases v1 with
   | tup h1 r1=>exact⟨_,rfl,⟨_,(nO.of h1)⟩,hb ρ1 H1 _ e1 R1<|Yc (nO.of h1) r1⟩
  | frz xs=>
   refine JB he pins s σ H Q I ⟨ρ,S,τ,R,r,?_⟩;rw[hc];intro ρ1 H1 x e1 R1 v1
   cases v1 with
   | frz h1 r1=>exact⟨_,rfl,⟨_,h1.SD⟩,hb ρ1 H1 _ e1 R1<|Yl h1 r1⟩
  | ref n=>
   obtain⟨xs,hn,hb⟩:=jY hb;refine JB he pins s σ H Q I ⟨ρ,S,τ,R,r,?_⟩;rw[hc];intro ρ1 H1 x e1 R1 v1
   cases v1 with
   | ref d=>
    obtain⟨f,h1,r1⟩:=R1.lst d<|j_ hn;exact⟨_,rfl,⟨_,qe.of h1⟩,hb ρ1 H1 _ e1 R1<|W8 d⟩
  | str x=>
   obtain⟨ha,hb⟩:=kD hb;refine XS he pins s σ H Q I ⟨ρ,S,τ,R,r,?_⟩;rw[hc];intro ρ1 H1 v e1 R1 v1
   cases v1 with
   | str=>exact⟨x,rfl,ha,hb ρ1 H1 _ e1 R1 Zk⟩
  | _=>exact hb.elim
abbrev bnd (i:Int):Prop:=-(2 ^ 62)<=i/\i<2 ^ 62
instance (i:Int):Decidable (bnd i):=by unfold bnd;infer_instance
abbrev tR (c:Ex):Ic:=λτ S=>(c τ S).bind λa S1=>match a with
 | .int j=>gd (bnd j) (.ok (uo 0 j) S1)
 | _=>.no
abbrev wJ (c d:Ex):Ic:=λτ S=>(c τ S).bind λa S1=>(d τ S1).bind λb S2=>match a,b with
 | .int i,.int j=>gd (bnd i/\bnd j) (.ok (uo i j) S2)
 | _,_=>.no
def v9{p:Pos}{c:Ex}(hm:X.mg "range" = none)(ha:AE X a c)(hg:Gl X "range" := by rfl)(hs:starEach [a] X.env=[(false,eval a X.env)]:=by rfl):AI X tg (.Call (.Name "range" p) [a] [] pos) (tR c):=λpins s σ H Q I h9=>by
 x_go;refine Lu hg hm (wg ha Ad hs) hs pins s σ H Q I ⟨ρ,S,τ,R,r,jX (j5 h) .refl λx S1 h1 ρ1 H1 v e1 R1 v1=>?_⟩
 cases v1 with
 | int j=>
  obtain⟨hb,h1⟩:=kD h1;exact⟨_,rfl,hb.1,hb.2,by have:=h1 ρ1 H1 _ e1 R1 Qy;rwa [Int.sub_zero]at this⟩
 | _=>exact h1.elim
def yJ{p:Pos}{c d:Ex}(hm:X.mg "range" = none)(ha:AE X a c)(hb:AE X b d)(hg:Gl X "range" := by rfl)(hs:starEach [a,b] X.env=[(false,eval a X.env),(false,eval b X.env)]:=by rfl)(hs2:starEach [b] X.env=[(false,eval b X.env)]:=by rfl):AI X tg (.Call (.Name "range" p) [a,b] [] pos) (wJ c d):=λpins s σ H Q I h9=>by
 x_go;refine Li hg hm (wg ha (wg hb Ad hs2)<|by rw[hs,hs2]) hs hs2 pins s σ H Q I ⟨ρ,S,τ,R,r,jX (j5 h) .refl λx S1 h1 ρ1 H1 v e1 R1 v1=>⟨ρ1,S1,τ,R1,r.ext e1,jX (j5 h1) e1 λy S2 h2 ρ2 H2 w e2 R2 v2=>?_⟩⟩
 cases v1 with
 | int i=>
  cases v2 with
  | int j=>
   obtain⟨hb,h2⟩:=kD h2;exact⟨_,_,rfl,⟨hb.1.1,hb.1.2,hb.2.1,hb.2.2⟩,h2 ρ2 H2 _ (e1.trans e2) R2 Qy⟩
  | _=>exact h2.elim
 | _=>exact h2.elim
abbrev FG (xs:ae):Src:=⟨xs.length,λi _=>(xs[i]?).map λx=>.tup [.int i,x],λ_=>true⟩
abbrev Rv (c:Ex):Ic:=λτ S=>(c τ S).bind λa S1=>match a with
 | .tup xs=>.ok (FG xs) S1
 | _=>.no
def YC{K:au}{H0:Hp}{p:ak}(h:nO K H0 p vs)(r:AVs K ρ0 H0 xs vs):JR K (FG xs) (Ite K p) ρ0 H0 where
 go:=λi S H ρ x e R g=>by
  obtain⟨y,hy,rfl⟩:=aW.mp<|show(xs[i]?).map (λx=>A.tup [.int i,x])=some x from g;obtain⟨v,ev,k⟩:=(AVs.m_ e r).get hy;have hs:=e.sqT h;refine⟨⟨vs,v,hs,ev⟩,λw H' q=>?_⟩;obtain⟨z,t,rfl,j⟩:=q;have d:=j vs v hs ev;subst d;obtain⟨ex,f⟩:=R.im (u:=.tup [.int i,v]) t;exact⟨ex,f,.tup kQ<|.cons (.int _)<|.cons (k.ext ex) .nil⟩
 stop:=λS H ρ e R _=>⟨vs,e.sqT h,by rw[<- r.length];rfl⟩
def Pk{p:Pos}{c:Ex}(hm:X.mg "enumerate" = none)(ha:AE X a c)(hg:Gl X "enumerate" := by rfl)(hs:starEach [a] X.env=[(false,eval a X.env)]:=by rfl):AI X (.Tuple elts x1 tpos) (.Call (.Name "enumerate" p) [a] [] pos) (Rv c):=λpins s σ H Q I h9=>by
 x_go;refine Sb hg hm (wg ha Ad hs) hs pins s σ H Q I ⟨ρ,S,τ,R,r,jX (j5 h) .refl λx S1 h1 ρ1 H1 v e1 R1 v1=>?_⟩
 cases v1 with
 | tup h2 r2=>exact⟨_,_,rfl,(nO.of h2),h1 ρ1 H1 _ e1 R1<|YC (nO.of h2) r2⟩
 | _=>exact h1.elim
abbrev sJ (s:Src)(g:Tg)(c:Sm):Nat->Nat->Sm
 | 0,_=>λτ S=>if s.fin S then .nx τ S else .no
 | k+1,i=>λτ S=>match s.get i S with
  | none=>.no
  | some x=>.of (g x τ S) λj S1=>match c j S1 with
   | .nx d f=>sJ s g c k (i+1) d f
   | .ct d f=>sJ s g c k (i+1) d f
   | .bk d f=>.nx d f
   | r=>r
abbrev mC (src:Ic)(g:Tg)(c:Sm):Sm:=λτ S=>.of (src τ S) λs S1=>sJ s g c s.k 0 τ S1
def mV{iter:aE}{src:Ic}{g:Tg}{c:Sm}(hp:PassesOwn (model X.prog X.w) X.A X.env X.xe)(hc:X.calm=true)(hi:AI X tg iter src)(hg:AG X tg g)(hb:TJ X body c)
  (hs:∀x,foldedSetIterable iter X.env x=pure x:=by intro _;rfl):AS X (.For tg iter body [] pos) (mC src g c):=PS.imp (Yy hp hc hi hg hb hs) λD σ H h9=>by
 x_go;refine⟨ρ,S,τ,R,r,jX (of_post h) .refl λs S1 h1 ρ1 H1 J e1 R1 jr=>?_⟩;refine⟨λi m B H'=>m+i=s.k/\∃ρ' q d,Ext ρ1 ρ' H1 H'/\Rel X.K ρ' H' q/\SR X.K ρ' H' d B/\Cm X ρ' H' D (sJ s g c m i d q),⟨s.k,rfl,ρ1,S1,τ,.refl,R1,r.ext e1,Cm.ext h1 e1⟩,?_⟩;rintro i m N H2 ⟨hm,ρ2,S2,C,e2,R2,r2,h2⟩
 cases m with
 | zero=>
  left;have h2:Cm X ρ2 H2 D (if s.fin S2 then .nx C S2 else .no):=h2
  cases hf:s.fin S2 with
  | false=>rw[hf]at h2;exact h2.elim
  | true=>
   rw[hf]at h2;refine⟨by rw[show i=s.k by lia];exact jr.stop S2 H2 ρ2 e2.toExt0 R2 hf,h2 ρ2 H2 N .refl R2 r2⟩
 | succ m=>
  right;have h2:Cm X ρ2 H2 D (match s.get i S2 with
   | none=>.no
   | some x=>.of (g x C S2) λY S1=>match c Y S1 with
    | .nx d q=>sJ s g c m (i+1) d q
    | .ct d q=>sJ s g c m (i+1) d q
    | .bk d q=>.nx d q
    | r=>r):=h2
  cases W:s.get i S2 with
  | none=>rw[W]at h2;exact h2.elim
  | some x=>
   rw[W]at h2;obtain⟨V,hy⟩:=jr.go i S2 H2 ρ2 x e2.toExt0 R2 W;refine⟨V,λB H'=>m+(i+1)=s.k/\∃ρ' q d,Ext ρ1 ρ' H1 H'/\Rel X.K ρ' H' q/\SR X.K ρ' H' d B/\Cm X ρ' H' D (sJ s g c m (i+1) d q),λB H' z=>⟨m,dN _,z⟩,λv H3 y=>?_⟩;obtain⟨e3,R3,v3⟩:=hy v H3 y;refine⟨ρ2,S2,C,x,R3,r2.ext e3,v3,jX (of_post h2) e3 λM Z p U H4 σ4 e4 R4 r4=>⟨U,Z,M,R4,r4,?_⟩⟩;have f:=e3.trans e4
   cases j:c M Z with
   | nx t G=>rw[j]at p;exact λF H5 T L O P=>⟨(),F,G,t,(e2.trans f).trans L,O,P,Cm.ext p<|f.trans L⟩
   | ct t G=>rw[j]at p;exact λF H5 T L O P=>⟨(),F,G,t,(e2.trans f).trans L,O,P,Cm.ext p<|f.trans L⟩
   | bk t G=>rw[j]at p;exact IS.ext p f
   | rt x5 G=>rw[j]at p;exact zN.ext p f
   | ex x5 G=>rw[j]at p;exact XE.ext p f
   | no=>rw[j]at p;exact p
end
abbrev R.nJ {α β:Type}(r:R α)(f:α->jU->R β):R β:=match r with
 | .ok a S=>f a S
 | _=>.no
def pI{α β:Type}{r:R α}{f:α->jU->R β}{b:β}(h:r.nJ f=.ok b S2):∃a S,r=.ok a S/\f a S=.ok b S2:=by
 cases r with
 | ok a S=>exact⟨a,S,rfl,h⟩
 | ex _ _=>cases h
 | no=>cases h
def A8{α β:Type}{r:R α}{f:α->jU->R β}{P:β->jU->Prop}{E:Str->jU->Prop}(h:(r.nJ f).post P E):∃a S,r=.ok a S/\(f a S).post P E:=by
 cases r with
 | ok a S=>exact⟨a,S,rfl,h⟩
 | ex _ _=>exact h.elim
 | no=>exact h.elim
def C3{α β:Type}{o:Option β}{f:β->R α}{a:α}(h:opt o f=.ok a S):∃b,o=some b/\f b=.ok a S:=by
 cases o with
 | none=>cases h
 | some b=>exact⟨b,rfl,h⟩
abbrev mX (s:Src)(g:Tg)(t:Te)(e:Ex):Nat->Nat->ae->jU->R (ae)
 | 0,_=>λ_ S=>if s.fin S then .ok [] S else .no
 | k+1,i=>λτ S=>opt (s.get i S) λx=>(g x τ S).nJ λd S1=>(t d S1).nJ λb S2=>match b with
  | true=>(e d S2).nJ λy S3=>(mX s g t e k (i+1) d S3).nJ λys f=>.ok (y::ys) f
  | false=>mX s g t e k (i+1) d S2
abbrev lG (cap:List<|bj)(τ:ae):ae:=cap.map λo=>match o with
 | some j=>τ.getD j .unb
 | none=>.unb
abbrev kI (cap:List<|bj)(src:Ic)(g:Tg)(t:Te)(e:Ex):Ex:=λτ S=>(src τ S).bind λs S1=>(mX s g t e s.k 0 (lG cap τ) S1).nJ λys S2=>newL ys S2
abbrev oZ:Te:=λ_ S=>.ok true S
def Ep{s:Src}{g:Tg}{t:Te}{e:Ex}{k:Nat}{T:Prop}(h:mX s g t e (k+1) i τ S=.ok zs S')
  (q:∀x τ1 S1 b S2,s.get i S=some x->g x τ S=.ok τ1 S1->t τ1 S1=.ok b S2->(b=true->∃y S3 ws,e τ1 S2=.ok y S3/\mX s g t e k (i+1) τ1 S3=.ok ws S'/\zs=y::ws)->(b=false->mX s g t e k (i+1) τ1 S2=.ok zs S')->T):T:=by
 obtain⟨x,f,h⟩:=C3 h;obtain⟨τ1,S1,h1,h⟩:=pI h;obtain⟨b,S2,h2,h⟩:=pI h;refine q x τ1 S1 b S2 f h1 h2 (λhb=>?_) λhb=>?_
 ·subst hb;obtain⟨y,S3,h3,h⟩:=pI h;obtain⟨ws,j,d,h⟩:=pI h
  cases h
  exact⟨y,S3,ws,h3,d,rfl⟩
 ·subst hb;exact h
structure Out (ρ1:bb)(H1:Hp)(D:ak)(accV:List V)(ρ:bb)(H:Hp):Prop where
 e0:Ext0 ρ1 ρ H1 H
 fr:∀a u,a≠D->H1 a=some u->a∉ρ1->H a=some u
 nw:∀a∈ρ,a∈ρ1\/H1 a=none
 nD:D∉ρ
 hD:H D=some (.lst accV)
def Out.stay{H1 H3 H7:Hp}{D:ak}(o:Out ρ1 H1 D accV ρ3 H3)(hD1:H1 D=none)(e7:Ext ρ3 ρ7 H3 H7):Out ρ1 H1 D accV ρ7 H7:=by
 refine⟨⟨o.e0.pre.trans e7.pre,λa u i h=>e7.im a u i<|o.e0.im a u i h⟩,λa u na f g=>e7.fr a u (o.fr a u na f g) λz=>(o.nw a z).elim g λz=>by(rw[z]at f;cases f),λa ha=>?_,λz=>(e7.nw D z).elim o.nD λz=>by(rw[o.hD]at z;cases z),e7.fr D _ o.hD o.nD⟩;by_cases d:a∈ρ1
 ·exact .inl d
 ·right
  cases q:H1 a with
  | none=>rfl
  | some u=>
   have j:a≠D:=kh q hD1
   rcases e7.nw a ha with z|z
   ·exact((o.nw a z).elim d λz=>by(rw[z]at q;cases q)).elim
   ·rw[o.fr a u j q d]at z;cases z
def Out.put{H1 H:Hp}{D:ak}(o:Out ρ1 H1 D accV ρ H)(ex:Ext0 ρ ρ H<|upd H D<|.lst vs):Out ρ1 H1 D vs ρ (upd H D<|.lst vs):=
 ⟨⟨o.e0.pre,λa u i h=>ex.im a u i<|o.e0.im a u i h⟩,λa u na d f=>by rw[j0 na];exact o.fr a u na d f,o.nw,o.nD,kQ⟩
def Out.end{H1 H:Hp}{D:ak}(o:Out ρ1 H1 D accV ρ H)(hD:H1 D=none):Ext ρ1 (ρ++[D]) H1 H:=by
 refine⟨⟨o.e0.pre.trans<|dY _ _,o.e0.im⟩,λa u d na=>o.fr a u (kh d hD) d na,λa ha=>?_⟩
 rcases bG.mp ha with z|z
 ·exact o.nw a z
 ·have:a=D:=by simpa using z
  rw[this];exact .inr hD
abbrev Cq (K:au)(ρ1:bb)(H1:Hp)(D:ak)(ys:ae)(k:Nat)(E:bb->Hp->Prop)(P:Nat->Nat->ae->jU->ae->Prop)(i m:Nat)(σ:L2.St)(H:Hp):Prop:=
 m+i=k/\∃ρ S τ acc zs accV,Out ρ1 H1 D accV ρ H/\E ρ H/\Rel K ρ H S/\SR K ρ H τ σ/\AVs K ρ H acc accV/\P m i τ S zs/\acc++zs=ys
section
variable {K:au}{ρ1 ρ:bb}{H1 H:Hp}{D:ak}{ys acc zs:ae}{accV:List V}{k i m:Nat}{E:bb->Hp->Prop}{P:Nat->Nat->ae->jU->ae->Prop}{σ:L2.St}{S:jU}{τ:ae}
def Cq.el{T:Prop}(h:Cq K ρ1 H1 D ys k E P i m σ H)(q:∀ρ S τ acc zs accV,m+i=k->Out ρ1 H1 D accV ρ H->E ρ H->Rel K ρ H S->SR K ρ H τ σ->AVs K ρ H acc accV->P m i τ S zs->acc++zs=ys->T):T:=by
 obtain⟨p,ρ,S,τ,acc,zs,accV,h1,h2,h3,f,d,j,g⟩:=h;exact q ρ S τ acc zs accV p h1 h2 h3 f d j g
def Cq.of(hm:m+i=k)(o:Out ρ1 H1 D accV ρ H)(e:E ρ H)(R:Rel K ρ H S)(r:SR K ρ H τ σ)(v:AVs K ρ H acc accV)(p:P m i τ S zs)(q:acc++zs=ys):Cq K ρ1 H1 D ys k E P i m σ H:=⟨hm,ρ,S,τ,acc,zs,accV,o,e,R,r,v,p,q⟩
end
abbrev Ss (K:au)(c:Ex):TE:=λσ H Q=>∃ρ S τ a d,Rel K ρ H S/\SR K ρ H τ σ/\c τ S=.ok a d/\∀ρ' H' v,Ext ρ ρ' H H'->Rel K ρ' H' d->AV K ρ' H' a v->Q v H'
abbrev Wh (K:au)(c:Te):TT:=λσ H Q=>∃ρ S τ a d,Rel K ρ H S/\SR K ρ H τ σ/\c τ S=.ok a d/\∀ρ' H',Ext ρ ρ' H H'->Rel K ρ' H' d->Q a H'
abbrev YV (K:au)(g:Tg):TG:=λv σ H Q=>∃ρ S τ a d j,Rel K ρ H S/\SR K ρ H τ σ/\AV K ρ H a v/\g a τ S=.ok d j/\∀ρ' H' f,Ext ρ ρ' H H'->Rel K ρ' H' j->SR K ρ' H' d f->Q f H'
section
variable {X:Cx}{pos:Pos}{tg iter elt e:aE}{ifs:List aE}{scope:Scope}{N:ar}{cap:List (bj)}{src:Ic}{g:Tg}{t:Te}{c:Ex}
def AE.e0{K:au}(hK:X.K=K)(h:AE X e c):PE X e (Ss K c):=PE.imp h λσ H Q ⟨ρ,S,τ,a,g,R,r,hc,q⟩=>⟨ρ,S,τ,by rw[hK];exact R,by rw[hK];exact r,by rw[hc];exact λρ' H' v e d f=>q ρ' H' v e (by rw[<- hK];exact d)<|by rw[<- hK];exact f⟩
def AT.t0{K:au}(hK:X.K=K)(h:AT X e t):PT X e (Wh K t):=PT.imp h λσ H Q ⟨ρ,S,τ,a,f,R,r,hc,q⟩=>⟨ρ,S,τ,by rw[hK];exact R,by rw[hK];exact r,by rw[hc];exact λρ' H' e d=>q ρ' H' e<|by rw[<- hK];exact d⟩
def AG.g0{K:au}(hK:X.K=K)(h:AG X e g):PG X e (YV K g):=by
 subst hK;refine PG.imp h λv σ H Q h9=>?_;obtain⟨ρ,S,τ,a,d,f,R,r,va,hc,q⟩:=h9;exact⟨ρ,S,τ,a,R,r,va,by rw[hc];exact q⟩
abbrev ZC (X:Cx)(ifs:List aE)(t:Te):Prop:=N7 X ifs<|Wh X.K t
def o5:ZC X [] oZ:=λpins s σ H Q I ⟨ρ,S,τ,a,d,R,r,hc,q⟩=>Tq pins s σ H Q I<|by cases hc;exact q ρ H .refl R
def qZ(h:AT X e t):ZC X [e] t:=U9<|h.t0 rfl
def Wf{K:au}{H:Hp}(r:SR K ρ H τ σ)(cap:List<|bj):SR K ρ H (lG cap τ) (cap.map<|UE σ):=by
 refine⟨by simp[lG],λi a h=>?_⟩;unfold lG at h;rw[aO]at h;obtain⟨o,f,e⟩:=aW.mp h
 cases o with
 | none=>exact .inl e.symm
 | some j=>
  have e:τ.getD j .unb=a:=e
  cases d:τ[j]? with
  | none=>rw[aK,d]at e;exact .inl e.symm
  | some b=>
   rw[aK,d]at e;have e:b=a:=e;subst e
   rcases r.at j b d with z|⟨v,h1,h2⟩
   ·exact .inl z
   ·exact .inr ⟨v,by rw[aO,f];show some ((σ[j]?).getD none)=_;rw[h1];rfl,h2⟩
def Rel.F5{K:au}{H:Hp}{p:ak}(R:Rel K ρ H S)(hp:H p=none):p∉ρ:=λj=>by
 obtain⟨n,hn,e⟩:=bQ.mp j;have g:n<S.length:=by rw[<- R.len];exact hn
 have:=R.at n p S[n] (by rw[aI hn,e]) (aI g)
 cases d:S[n]with
 | lst xs=>rw[d]at this;obtain⟨f,h,_⟩:=this;rw[hp]at h;cases h
 | dct _|qQ _|vW _=>rw[d]at this;obtain⟨f,h,_⟩:=this;rw[hp]at h;cases h
 | dcf _=>rw[d]at this;obtain⟨_,f,h,_⟩:=this;rw[hp]at h;cases h
 | ins _ _=>rw[d]at this;obtain⟨_,_,h⟩:=this;rw[hp]at h;cases h
def Ge(σ:L2.St)(H:Hp)(Q:VK)(h:tE X (kI cap src g t c) σ H Q):tLC cap (tI X src) (YV X.K g) (Wh X.K t) (Ss X.K c) σ H Q:=by
 kl_no;refine⟨ρ,S,τ,R,r,jX (j5 h) .refl λs S1 h1 ρ1 H1 J e1 R1 jr D hD=>?_⟩;obtain⟨ys,S2,Y,h1⟩:=A8 h1;obtain⟨F,h1⟩:=kD h1;have h1:zN X ρ H Q (.ref S2.length) (S2++[.lst ys]):=h1;obtain⟨eD,RD⟩:=R1.im (u:=.lst []) hD;refine⟨Cq X.K ρ1 H1 D ys s.k (λ_ _=>True) λm i τ S zs=>mX s g t c m i τ S=.ok zs S2,⟨s.k,.of rfl ⟨eD.toExt0,λa u na hu _=>by rw[j0 na];exact hu,λa ha=>.inl ha,R1.F5 hD,kQ⟩ trivial RD (Wf ((r.ext e1).ext eD) cap) .nil Y rfl⟩,?_⟩;intro i m σ3 H3 hw;refine hw.el λρ3 S3 P acc zs accV hm q _ R3 r3 p d f=>?_;clear hw
 cases m with
 | zero=>
  left;have d:(if s.fin S3 then Am.R.ok [] S3 else .no)=.ok zs S2:=d
  cases hf:s.fin S3 with
  | false=>rw[hf]at d;cases d
  | true=>
   rw[hf]at d
   cases d
   rw[bZ]at f;subst f;refine⟨by rw[show i=s.k by lia];exact jr.stop _ H3 ρ3 q.e0 R3 hf,?_⟩;obtain⟨RT,gt⟩:=R3.take q.hD q.nD p;exact h1 (ρ3++[D]) H3 _ (e1.trans<|q.end hD) RT<|.ref gt
 | succ m=>
  right;refine Ep d λx B S4 b S5 hx W U hT hF=>?_;have jg:=jr.go i S3 H3 ρ3 x q.e0 R3 hx;refine⟨jg.1,λv H4 y=>?_⟩;obtain⟨e4,R4,v4⟩:=jg.2 v H4 y;refine⟨ρ3,S3,P,x,B,S4,R4,r3.ext e4,v4,W,λO H5 σ5 e5 R5 M=>⟨O,S4,B,b,S5,R5,M,U,λN H6 L R6=>?_⟩⟩;have j:=(e4.trans e5).trans L
  cases b with
  | false=>
   dsimp only;rw[aR bF];exact⟨m,dN _,.of () (q.stay hD j) trivial R6 (M.ext L) (p.ext j) (hF rfl) f⟩
  | true=>
   dsimp only;rw[aV rfl];obtain⟨y,S6,ws,T,Z,C⟩:=hT rfl;refine⟨N,S5,B,y,S6,R6,M.ext L,T,λρ7 H7 w V R7 v7=>?_⟩;have G:=q.stay hD<|j.trans V;obtain⟨z,R8⟩:=R7.out (ws:=accV++[w]) G.hD G.nD;have l1:=p.length;refine⟨accV,G.hD,?_,m,dN _,.of () (G.put z) trivial R8 ((M.ext<|L.trans V).m_ z) (AVs.m_ z<|(p.ext<|j.trans V).append<|.one v7) Z ?_⟩
   ·have:(acc++zs).length<=sizeLine:=by rw[f];exact F
    rw[C,aX,bA]at this
    lia
   ·rw[cJ,<- f,C];rfl
def mZ(hc:X.calm=true)(Sc:CpScope X scope N cap)(hi:AI X tg iter src)(hg:∀C s₀ H₀ ex,AG (lE X scope N C s₀ H₀ ex) tg g)(ht:∀C s₀ H₀ ex,ZC (lE X scope N C s₀ H₀ ex) ifs t)(he:∀C s₀ H₀ ex,AE (lE X scope N C s₀ H₀ ex) elt c)
  (hs:∀x,foldedSetIterable iter X.env x=pure x:=by intro _;rfl):AE X (.ListComp elt [⟨tg,iter,ifs,0⟩] scope pos) (kI cap src g t c):=
 PE.imp (aaQ hc Sc hi (g:=YV X.K g) (tc:=Wh X.K t) (te:=Ss X.K c) (λC s₀ H₀ ex=>(hg C s₀ H₀ ex).g0 rfl) (λC s₀ H₀ ex=>ht C s₀ H₀ ex) (λC s₀ H₀ ex=>(he C s₀ H₀ ex).e0 rfl) hs) Ge
def Uc{i:Nat}{x:Str}{spos:Pos}(hN:X.N.Nodup)(hc:X.calm=true)(Sc:CpScope X scope N cap)(hi:AI X tg iter src)(hg:∀C s₀ H₀ ex,AG (lE X scope N C s₀ H₀ ex) tg g)(ht:∀C s₀ H₀ ex,ZC (lE X scope N C s₀ H₀ ex) ifs t)(he:∀C s₀ H₀ ex,AE (lE X scope N C s₀ H₀ ex) elt c)
  (hi':X.N[i]?=some x:=by rfl) (hx:Loc X.env.scope x:=by first|exact Or.inl rfl|exact Or.inr rfl)
  (hsw:swapsWith (.ListComp elt [⟨tg,iter,ifs,0⟩] scope pos) (some<|.Name x pos') spos.line X.env=pure true:=by rfl) (hf:X.fn x=true\/X.env.scope.names.lookup x=some .local:=by first|exact .inl rfl|exact .inr rfl|assumption)
  (hs:∀x,foldedSetIterable iter X.env x=pure x:=by intro _;rfl):AS X (.Assign [.Name x pos'] (.ListComp elt [⟨tg,iter,ifs,0⟩] scope pos) spos) (kM (kI cap src g t c)<|kB i):=
 PS.imp (QK hN hi' hx hc Sc hi (g:=YV X.K g) (tc:=Wh X.K t) (te:=Ss X.K c) (λC s₀ H₀ ex=>(hg C s₀ H₀ ex).g0 rfl) (λC s₀ H₀ ex=>ht C s₀ H₀ ex) (λC s₀ H₀ ex=>(he C s₀ H₀ ex).e0 rfl) hsw hf hs) λD σ H ⟨ρ,S,τ,R,r,h⟩=>
  Ge σ H _ ⟨ρ,S,τ,R,r,jX (of_post h) .refl λa S1 h1 ρ1 H1 x e1 R1 v1=>h1 ρ1 H1 _ e1 R1<|(r.ext e1).set v1⟩
end
abbrev A.lst? (S:jU):A->Option (ae)
 | .ref n=>jS S n
 | _=>none
abbrev Ek (f:A->ae->jU->R A)(co:Ex)(d:sW):Ex:=λτ S=>(co τ S).bind λo S1=>opt (o.lst? S1) λ_=>(d τ S1).bind λg S2=>f o g S2
abbrev ML (f:A->ae->jU->R A)(co:Ex):Ex:=λτ S=>(co τ S).bind λo S1=>opt (o.lst? S1) λ_=>f o [] S1
abbrev rM (X:Cx)(f:A->ae->jU->R A):V->List V->Hp->VK->Prop:=λx g H Q=>∃ρ S o d,Rel X.K ρ H S/\AV X.K ρ H o x/\AVs X.K ρ H d g/\(f o d S).post (zN X ρ H Q) (XE X ρ H)
section
variable {X:Cx}{apos cpos:Pos}{o e:aE}{es:List aE}{name:Str}{id:String}{f:A->ae->jU->R A}{co:Ex}{d:sW}
def lst?_ty{K:au}{H:Hp}{x:A}{v:V}(R:Rel K ρ H S)(h:AV K ρ H x v)(e:x.lst? S=some xs):ZI K "list" v H:=by
 cases h with
 | ref h=>
  obtain⟨d,h1,_⟩:=R.lst h<|j_ e;exact .inl ⟨rfl,d,qe.of h1⟩
 | _=>cases e
def u7(slot:Slot "list" name id)(hty:typeOf (.builtin id)=pure (.type "method_descriptor"))(hm:MC X id<|rM X f)(ho:AE X o co)(ha:AL X (e::es) d)
  (hbase:attributeBase o name X.env (eval o X.env)=eval o X.env:=by rfl)
  (hfew:((backTo cpos<|starEach (e::es) X.env).all (λx=>!x.1) && (backToKw cpos<|keywordEach [] X.env).all (λx=>x.1.isSome)
   && decide ((e::es).length+([]:List Keyword).length+(if ([]:List Keyword).isEmpty then 0 else 1)<30))=true:=by rfl)
  (hline:(apos.endLine == cpos.line)=true:=by rfl) (hs:starEach (e::es) X.env=(false,eval e X.env)::starEach es X.env:=by rfl) (hplain:(backTo cpos<|starEach es X.env).any (·.1)=false:=by rfl) :
  AE X (.Call (.Attribute o name apos) (e::es) [] cpos) (Ek f co d):=PE.imp (Qz PySem.F.plainAttrs_list slot hty hm ho ha hbase hfew hline hs hplain) λσ H Q h9=>by
 x_go;cb_eq;obtain⟨xs,j,h1⟩:=jY h1;refine⟨lst?_ty R1 v1 j,ρ1,S1,τ,R1,r.ext e1,jX (j5 h1) e1 λg S2 h2 ρ2 H2 k e2 R2 v2=>?_⟩;exact⟨ρ2,S2,x,g,R2,v1.ext e2,v2,jX h2 (e1.trans e2) λ_ _ z=>z.ext<|e1.trans e2⟩
def O3(slot:Slot "list" name id)(hty:typeOf (.builtin id)=pure (.type "method_descriptor"))(hm:MC X id<|rM X f)(ho:AE X o co)
  (hbase:attributeBase o name X.env (eval o X.env)=eval o X.env:=by rfl) (hline:(apos.endLine == cpos.line)=true:=by rfl):AE X (.Call (.Attribute o name apos) [] [] cpos) (ML f co):=PE.imp (X6 PySem.F.plainAttrs_list slot hty hm ho hbase hline) λσ H Q h9=>by
 x_go;cb_eq;obtain⟨xs,d,h1⟩:=jY h1;exact⟨lst?_ty R1 v1 d,ρ1,S1,x,[],R1,v1,.nil,jX h1 e1 λ_ _ z=>z.ext e1⟩
abbrev m5 (o:A)(as:ae)(S:jU):R A:=match o,as with
 | .ref n,[x]=>opt (jS S n) λxs=>gd (xs.length<sizeLine) (.ok .non<|S.set n<|.lst<|xs++[x])
 | _,_=>.no
def qv:MC X "list.append" (rM X m5):=λpins s σ H x z v us Q I rx t h9=>by
 obtain⟨ρ,S,o,g,R,q,va,h⟩:=h9
 cases q with
 | @ref p n d=>
  match g,va,h with
  | [],_,h=>exact h.elim
  | _::_::_,_,h=>exact h.elim
  | [y],va,h=>
   obtain⟨w,rfl,hw⟩:=Na va;kj_on;obtain⟨k,h⟩:=kD h;obtain⟨j,h1,r⟩:=R.lst d<|j_ hn;obtain⟨ex,f⟩:=R.put d (j_ hn)<|r.append<|.one hw;exact Cs pins s σ H _ _ v us Q I rx t ⟨p,j,w,rfl,rfl,h1,by rw[<- r.length];exact k,h _ _ _ ex f .non⟩
 | _=>exact h.elim
abbrev YT (o:A)(as:ae)(S:jU):R A:=match o,as with
 | .ref n,[]=>opt (jS S n) λxs=>opt (xs[xs.length-1]?) λx=>.ok x (S.set n<|.lst xs.dropLast)
 | _,_=>.no
def AVs.dropLast{K:au}{H:Hp}{xs:ae}{vs:List V}(r:AVs K ρ H xs vs):AVs K ρ H xs.dropLast vs.dropLast:=by
 rw[List.dropLast_eq_take,List.dropLast_eq_take,r.length];exact r.take _
def aay:MC X "list.pop" (rM X YT):=λpins s σ H x z v us Q I rx q h9=>by
 obtain⟨ρ,S,o,g,R,k,va,h⟩:=h9
 cases k with
 | @ref p n d=>
  match g,va,h with
  | _::_,_,h=>exact h.elim
  | [],va,h=>
   cases va
   kj_on;obtain⟨y,hy,h⟩:=jY h;obtain⟨j,h1,r⟩:=R.lst d<|j_ hn;obtain⟨w,hw,t⟩:=r.get hy;obtain⟨ex,f⟩:=R.put d (j_ hn) r.dropLast;exact WQ pins s σ H _ _ v us Q I rx q ⟨p,j,w,rfl,rfl,h1,by rw[<- r.length];exact hw,h _ _ _ ex f<|t.ext ex⟩
 | _=>exact h.elim
abbrev HF (o:A)(as:ae)(S:jU):R A:=match o,as with
 | .ref n,[.int i]=>opt (jS S n) λxs=>gd (-(2 ^ 63)<=i/\i<2 ^ 63) (opt (seqIndex? i xs.length) λk=>opt (xs[k]?) λx=>.ok x<|S.set n<|.lst<|xs.eraseIdx k)
 | _,_=>.no
def Vu:MC X "list.pop" (rM X HF):=λpins s σ H x F v us Q I rx z h9=>by
 obtain⟨ρ,S,o,j,R,t,va,h⟩:=h9
 cases t with
 | @ref p n f=>
  match j,va,h with
  | [],_,h=>exact h.elim
  | y::_::_,_,h=>exact(by cases y<;>exact h.elim)
  | [y],va,h=>
   obtain⟨w,rfl,hw⟩:=Na va
   cases hw with
   | int i=>
    kj_on;obtain⟨d,h⟩:=kD h;obtain⟨k,B,h⟩:=jY h;obtain⟨y,hy,h⟩:=jY h;obtain⟨q,h1,r⟩:=R.lst f<|j_ hn;obtain⟨w,hw,C⟩:=r.get hy;obtain⟨ex,g⟩:=R.put f (j_ hn)<|r.eraseIdx k;exact NH pins s σ H _ _ v us Q I rx z ⟨p,q,i,k,w,rfl,rfl,h1,d.1,d.2,by rw[<- r.length];exact B,hw,h _ _ _ ex g<|C.ext ex⟩
   | _=>exact h.elim
 | _=>exact h.elim
end
abbrev l_ (N:ar)(m:Sm)(as:ae)(S:jU):R A:=match m (as++List.replicate (N.length-as.length) .unb) S with
 | .rt a d=>.ok a d
 | .nx _ d=>.ok .non d
 | .ex c d=>.ex c d
 | _=>.no
abbrev rC (K:au)(n:Nat)(F:ae->jU->R A):Sp:=λd H Q _=>d.length=n/\∃ρ S f a g,Rel K ρ H S/\AVs K ρ H f d/\F f S=.ok a g/\∀ρ' H' v,Ext ρ ρ' H H'->Rel K ρ' H' g->AV K ρ' H' a v->Q v H'
def T7{K:au}{H:Hp}{as:ae}(r:AVs K ρ H as vs)(N:ar):SR K ρ H (as++List.replicate (N.length-as.length) .unb) (L2.start N vs):=by
 have f:=r.length;refine⟨by unfold L2.start;simp[f],λi a h=>?_⟩;by_cases g:i<as.length
 ·rw[bB g]at h;obtain⟨v,hv,d⟩:=r.get h;exact .inr ⟨v,by unfold L2.start;rw[bB<|by simp;lia,aO,hv];rfl,d⟩
 ·rw[jf (),List.getElem?_replicate]at h;split at h
  ·exact .inl (br h).symm
  ·cases h
section
variable {P:aj}{w:ah}{K:au}{mg:Str->bd}{base:aq}
def uD{x:Str}{st:aF}{f:ak}{N ps:ar}{k:Nat}{m:Sm}(F:Fun K x qual st f fd)(Sc:FnScope N ps<|j8 st)
  (body:∀(cdv:af) (A:aA) (outer:List Env) (s:aC) (H:Hp) (E:XK),Room k (A.deeper<|envOfC qual (j8 st) s.heap.objs.size f cdv)->TJ (Hr qz P w K mg base N qual (j8 st) f cdv A outer s H E).nox (sQ st) m) :
  FnOk P w K mg base qz (k+1) f fd ps (rC K ps.length<|l_ N m):=by
 refine F.ok Sc (λC H Q E h=>h.1) λcdv B outer s H C Q E t ⟨G,ρ,S,j,a,J,R,va,d,q⟩=>⟨_,body cdv B outer s H E t,ρ,S,_,R,T7 va N,?_⟩;unfold l_ at d
 cases g:m (j++List.replicate (N.length-j.length) .unb) S with
 | rt b S2=>rw[g]at d;cases d;exact q
 | nx τ S2=>rw[g]at d;cases d;exact λρ' H' z e p _=>q ρ' H' _ e p .non
 | bk τ S2=>rw[g]at d;cases d
 | ct τ S2=>rw[g]at d;cases d
 | ex c S2=>rw[g]at d;cases d
 | no=>rw[g]at d;cases d
end
meta abbrev nY (P:aj)(w:ah)(K:au)(mg:Str->bd)(base:aq)(k:Nat)(x:Str)(ps:ar)(F:ae->jU->R A):Prop:=Kn P w K mg base k x ps<|rC K ps.length F
abbrev eFn (F:ae->jU->R A)(d:sW):Ex:=λτ S=>(d τ S).bind λf S1=>match F f S1 with
 | .ok a S2=>.ok a S2
 | _=>.no
section
variable {X:Cx}{pos p:Pos}{e:aE}{es:List aE}{x:Str}{ps:ar}{k:Nat}{F:ae->jU->R A}{d:sW}
def sq(G:nY X.prog X.w X.K X.mg X.base k x ps F)(hr:Room k X.A)(ha:AL X (e::es) d)(hl:∀τ S as S',d τ S=.ok as S'->as.length=ps.length)(hg:Gl X x:=by rfl)(hdb:(x == ("__debug__" : Str))=false:=by decide)
  (hs:starEach (e::es) X.env=(false,eval e X.env)::starEach es X.env:=by rfl) (hplain:(backTo pos<|starEach es X.env).any (·.1)=false:=by rfl):AE X (.Call (.Name x p) (e::es) [] pos) (eFn F d):=
 PE.imp (ZS G hr ha hg hdb hs hplain) λσ H Q h9=>by
  x_go;refine⟨ρ,S,τ,R,r,?_⟩;have hb:=j5 h
  cases f:d τ S with
  | no=>rw[f]at hb;exact hb
  | ex c S1=>rw[f]at hb;exact hb
  | ok as S1=>
   rw[f]at hb;intro ρ1 H1 j e1 R1 v1;rw[bZ];refine⟨by rw[<- v1.length];exact hl τ S as S1 f,ρ1,S1,as,?_⟩;have hb:Am.R.post (match F as S1 with
    | .ok a S2=>.ok a S2
    | _=>.no) (zN X ρ H Q) (XE X ρ H):=hb
   cases g:F as S1 with
   | ok a S2=>rw[g]at hb;exact⟨a,S2,R1,v1,rfl,λρ2 H2 v e2=>hb ρ2 H2 v<|e1.trans e2⟩
   | ex c S2=>rw[g]at hb;exact hb.elim
   | no=>rw[g]at hb;exact hb.elim
def nh:∀τ S as S',jW τ S=.ok as S'->as.length=0:=λτ S as S' h=>by cases h;rfl
def kF{c:Ex}{d:sW}{n:Nat}(h:∀τ S as S',d τ S=.ok as S'->as.length=n):∀τ S as S',jR c d τ S=.ok as S'->as.length=n+1:=λτ S as S' e=>by
 unfold jR at e
 cases hc:c τ S with
 | ok a S1=>
  rw[hc]at e
  cases f:d τ S1 with
  | ok bs S2=>
   have e:R.bind (d τ S1) (λas S2=>.ok (a::as) S2)=.ok as S':=e;rw[f]at e;cases e;rw[bA,h τ S1 bs _ f]
  | ex _ _=>
   have e:R.bind (d τ S1) (λas S2=>.ok (a::as) S2)=.ok as S':=e;rw[f]at e;cases e
  | no=>
   have e:R.bind (d τ S1) (λas S2=>.ok (a::as) S2)=.ok as S':=e;rw[f]at e;cases e
 | ex _ _=>rw[hc]at e;cases e
 | no=>rw[hc]at e;cases e
end
section
variable {X:Cx}{pos:Pos}{a b c:aE}
abbrev kCh (f':A->A->jU->R A)(cc:Ex)(τ:ae)(b k:A)(S:jU):R A:=match k with
 | .bl true=>(cc τ S).bind λc d=>f' b c d
 | .bl false=>.ok (.bl false) S
 | _=>.no
abbrev ZE (f f':A->A->jU->R A)(ca cb cc:Ex):Ex:=λτ S=>(ca τ S).bind λa S1=>(cb τ S1).bind λb S2=>(f a b S2).bind λk S3=>kCh f' cc τ b k S3
def Xb{f f':A->A->jU->R A}{ca cb cc:Ex}{H:Hp}{Q:VK}(h:tE X (ZE f f' ca cb cc) σ H Q):Pq (r2 X f) (r2 X f') (tE X ca) (tE X cb) (tE X cc) σ H Q:=by
 kl_no;refine⟨ρ,S,τ,R,r,jX (j5 h) .refl λa S1 h1 ρ1 H1 x e1 R1 v1=>⟨ρ1,S1,τ,R1,r.ext e1,jX (j5 h1) e1 λb S2 h2 ρ2 H2 y e2 R2 v2=>?_⟩⟩;have g:=e1.trans e2;refine⟨ρ2,S2,a,b,R2,v1.ext e2,v2,jX (j5 h2) g λk S3 h3 ρ3 H3 z e3 R3 G=>?_⟩;have d:=g.trans e3
 cases k with
 | bl k=>
  cases E9 G
  refine⟨k,rfl,?_⟩
  cases k with
  | true=>
   rw[aV rfl];exact⟨ρ3,S3,τ,R3,r.ext d,jX (j5 h3) d λc B C j J w p F t=>⟨j,B,b,c,F,v2.ext<|e3.trans p,t,jX C (d.trans p) λ_ _ q=>q.ext<|d.trans p⟩⟩
  | false=>
   rw[aR bF];exact h3 ρ3 H3 _ d R3<|.bl false
 | _=>exact h3.elim
def aad{f f':A->A->jU->R A}{ca cb cc:Ex}(ho:oY X (compareOp op)<|r2 X f)(ho':oY X (compareOp op')<|r2 X f')(ha:AE X a ca)(hb:AE X b cb)(hc:AE X c cc)(hm:lastMarks [op,op'] [b,c]=false:=by with_unfolding_all rfl) :
  AE X (.Compare a [op,op'] [b,c] pos) (ZE f f' ca cb cc):=PE.imp (QY ho ho' ha hb hc hm) λ_ _ _ h=>Xb h
abbrev VR (S:jU)(x:A):ae->bi
 | []=>some false
 | z::zs=>(yg S 12 z x).bind λp=>(VR S x zs).map λq=>p || q
abbrev Bu (neg:Bool)(x y:A)(S:jU):R A:=opt (y.seq S) λys=>opt (VR S x ys) λb=>.ok (.bl<|if neg then !b else b) S
def zB{H:Hp}{x:A}{v:af}(I:Inv X pins σ H s)(R:Rel X.K ρ H S)(hu:X.A.units+64<cLine)(hx:AV X.K ρ H x vx)(rx:RelV vx v) :
  ∀{ys:ae} {us:List V} {its:ba} {b:Bool},AVs X.K ρ H ys us->Vals us its->VR S x ys=some b->∃e:af->Bool,(∀w∈its,SeqAt.EqAt X.A.in1 s w v<|e w)/\its.any e=b:=by
 intro ys
 induction ys with
 | nil=>
  intro us its b h1 h2 h
  cases h1
  cases h2
  exact⟨λ_=>false,(λw hw=>by cases hw),br h⟩
 | cons z zs k=>
  intro us its b h1 h2 h
  cases h1 with
  | cons C t=>
   rename_i u us
   cases h2 with
   | cons r F=>
    rename_i f its
    classical
    obtain⟨p,G,h⟩:=cz.mp h;obtain⟨q,hq,h⟩:=aW.mp h;obtain⟨e,g,ha⟩:=k t F hq;have h0:=(J0 I R 12 X.A.in1 z x u vx f v p (by rw[in1_units];omega) C hx r rx G).2.1;subst h
    cases p with
    | true=>
     refine⟨λw=>if w=f then true else e w,λw hw=>?_,?_⟩
     ·by_cases d:w=f
      ·dsimp[d,fq];exact h0
      ·dsimp[d,cK]
       rcases bH.mp hw with z|z
       ·exact absurd z d
       ·exact g w z
     ·simp
    | false=>
     by_cases j:f∈its
     ·refine⟨e,λw hw=>?_,?_⟩
      ·rcases bH.mp hw with z|z
       ·rw[z];exact g f j
       ·exact g w z
      ·rw[f7,ha,f9]
       cases q with
       | true=>simp
       | false=>
        have:=List.any_eq_false.mp ha f j;simpa using this
     ·refine⟨λw=>if w=f then false else e w,λw hw=>?_,?_⟩
      ·by_cases d:w=f
       ·dsimp[d,fq];exact h0
       ·dsimp[d,cK]
        rcases bH.mp hw with z|z
        ·exact absurd z d
        ·exact g w z
      ·rw[f7,<- ha];dsimp[fq,f9];have:∀l:ba,(∀w∈l,w≠f)->l.any (λw=>if w=f then false else e w)=l.any e:=λl B=>by
        induction l with
        | nil=>rfl
        | cons c l k=>rw[f7,f7,k λw hw=>B w<|aQ _ hw,aR<|B c<|aL ..]
       exact this its λw hw z=>j<|z ▸ hw
def aac(hu:X.A.units+64<cLine):oY X (compareOp .In) (r2 X<|Bu false):=λpins s σ H x y v u Q I rx ry h9=>by
 z_go;obtain⟨ys,hy,h⟩:=jY h;obtain⟨k,j,h⟩:=jY h;obtain⟨p,us,rfl,hs,r⟩:=P8 R vb hy
 cases ry
 rcases hs with hs|hs
 ·obtain⟨d,f,pl,q⟩:=I.list hs;obtain⟨e,g,ha⟩:=zB I R hu va rx r f j;refine SeqAt.in_listAt e pl.isList (λw hw=>g w<|by simpa using hw) ⟨.bl _,H,I,rfl,?_⟩;rw[show d.toArray.any e=d.any e by simp,ha];exact h _ _ _ .refl R (.bl _)
 ·obtain⟨d,f,pl,q⟩:=I.tuple hs;obtain⟨e,g,ha⟩:=zB I R hu va rx r f j;refine SeqAt.in_tupleAt e pl (λw hw=>g w<|by simpa using hw) ⟨.bl _,H,I,rfl,?_⟩;rw[show d.toArray.any e=d.any e by simp,ha];exact h _ _ _ .refl R<|.bl _
def Cy(hu:X.A.units+64<cLine):oY X (compareOp .NotIn) (r2 X<|Bu true):=λpins s σ H x y v u Q I rx ry h9=>by
 z_go;obtain⟨ys,hy,h⟩:=jY h;obtain⟨k,j,h⟩:=jY h;obtain⟨p,us,rfl,hs,r⟩:=P8 R vb hy
 cases ry
 rcases hs with hs|hs
 ·obtain⟨d,f,pl,q⟩:=I.list hs;obtain⟨e,g,ha⟩:=zB I R hu va rx r f j;refine SeqAt.notIn_listAt e pl.isList (λw hw=>g w<|by simpa using hw) ⟨.bl _,H,I,rfl,?_⟩;rw[show d.toArray.any e=d.any e by simp,ha];exact h _ _ _ .refl R (.bl _)
 ·obtain⟨d,f,pl,q⟩:=I.tuple hs;obtain⟨e,g,ha⟩:=zB I R hu va rx r f j;refine SeqAt.notIn_tupleAt e pl (λw hw=>g w<|by simpa using hw) ⟨.bl _,H,I,rfl,?_⟩;rw[show d.toArray.any e=d.any e by simp,ha];exact h _ _ _ .refl R<|.bl _
abbrev zA (o:A)(as:ae)(S:jU):R A:=match o,as with
 | .ref n,[.ref m]=>opt (jS S n) λxs=>opt (jS S m) λys=>gd (xs.length+ys.length<=sizeLine) (.ok .non<|S.set n<|.lst<|xs++ys)
 | _,_=>.no
def F8:MC X "list.extend" (rM X zA):=λpins s σ H x F v us Q I rx C h9=>by
 obtain⟨ρ,S,o,j,R,B,va,h⟩:=h9
 cases B with
 | @ref p n f=>
  match j,va,h with
  | [],_,h=>exact h.elim
  | y::_::_,_,h=>exact(by cases y<;>exact h.elim)
  | [y],va,h=>
   obtain⟨w,rfl,hw⟩:=Na va
   cases hw with
   | @ref q m hq=>
    kj_on;obtain⟨ys,t,h⟩:=jY h;obtain⟨z,h⟩:=kD h;obtain⟨k,h1,r⟩:=R.lst f<|j_ hn;obtain⟨zs,h2,d⟩:=R.lst hq<|j_ t;obtain⟨ex,g⟩:=R.put f (j_ hn)<|r.append d;exact Ll pins s σ H _ _ v us Q I rx C ⟨p,q,k,zs,rfl,rfl,h1,h2,by rw[<- r.length,<- d.length];exact z,h _ _ _ ex g .non⟩
   | _=>exact h.elim
 | _=>exact h.elim
abbrev xA (o:A)(as:ae)(S:jU):R A:=match o,as with
 | .ref n,[]=>opt (jS S n) λxs=>.ok .non (S.set n<|.lst xs.reverse)
 | _,_=>.no
def Ml:MC X "list.reverse" (rM X xA):=λpins s σ H x t v us Q I rx q h9=>by
 obtain⟨ρ,S,o,g,R,k,va,h⟩:=h9
 cases k with
 | @ref p n d=>
  match g,va,h with
  | _::_,_,h=>exact h.elim
  | [],va,h=>
   cases va
   kj_on;obtain⟨j,h1,r⟩:=R.lst d<|j_ hn;obtain⟨ex,f⟩:=R.put d (j_ hn) r.reverse;exact GH pins s σ H _ _ v us Q I rx q ⟨p,j,rfl,rfl,h1,h _ _ _ ex f .non⟩
 | _=>exact h.elim
abbrev WZ (a b:A)(S:jU):R A:=match a,b with
 | .int i,.int j=>gd (xU i j) (.ok (.int<|i * j) S)
 | _,_=>.no
def SY:PIp X .Mult (ip X WZ):=λpins s σ H x y v u Q I r1 r2 h9=>by
 z_go
 cases va with
 | int i=>
  cases vb with
  | int j=>
   obtain⟨d,h⟩:=kD h;obtain⟨t,rfl⟩:=(show ∃t,v=Value.int i t from r1);obtain⟨f,rfl⟩:=(show ∃t,u=Value.int j t from r2);exact imul_int ⟨.int _,H,I.tok _,⟨_,rfl⟩,h _ _ _ .refl R<|.int _⟩ (mulOk_of d).ok
  | _=>exact h.elim
 | _=>exact h.elim
end
abbrev kc (S:jU)(n:Nat):Option (List<|ag×A):=match S[n]? with
 | some (.dct xs)=>some xs
 | _=>none
def mh{n:Nat}(h:kc S n=some xs):S[n]?=some (.dct xs):=by
 unfold kc at h;split at h
 ·rename_i e;cases h;exact e
 ·cases h
def qo{S:jU}{n:Nat}(h:S[n]?=some (.dct xs)):kc S n=some xs:=by
 unfold kc;rw[h]
abbrev kW (kvs:List<|ag×A)(k:ag):Option A:=(kvs.find? λkv=>decide<|kv.1=k).map (·.2)
abbrev putD (kvs:List<|ag×A)(k:ag)(v:A):List (ag×A):=
 if (kW kvs k).isSome=true then kvs.map (λkv=>if kv.1=k then(kv.1,v)else kv)else kvs++[(k,v)]
theorem CD:∀{a b:ag},a.map (Sum.inl:Int->Key)=b.map Sum.inl->a=b
 | [],[],_=>rfl
 | [],_::_,e=>by simp at e
 | _::_,[],e=>by simp at e
 | x::xs,y::ys,e=>by
  rw[bC,bC]at e
  injection e with e1 e2
  injection e1 with e1
  rw[e1,CD e2]
def v8(ns:ag):(ns.map (Sum.inl:Int->Key)).map kV=ns.map V.int:=by rw[bg];rfl
section
variable {K:au}{ρ:bb}{H:Hp}
def Cc{p:ag×A}{r:List<|ag×A}{k:ag}(e:p.1=k):kW (p::r) k=some p.2:=by simp[kW,cj,e]
def B4{p:ag×A}{r:List<|ag×A}{k:ag}(e:¬p.1=k):kW (p::r) k=kW r k:=by simp[kW,cj,e]
theorem DV.look:∀{kvs:List<|ag×A}{ks:List<|List Key×V}(k:ag),DV K ρ H kvs ks->(kW kvs k).isSome=(qX ks<|k.map Sum.inl).isSome/\∀x,kW kvs k=some x->∃v,qX ks (k.map Sum.inl)=some v/\AV K ρ H x v
 | [],[],k,_=>⟨rfl,λx h=>nomatch h⟩
 | p::r,q::r',k,⟨⟨e,a⟩,t⟩=>by
  by_cases c:p.1=k
  ·have d:q.1=k.map Sum.inl:=by rw[e,c]
   rw[Cc c,vt d];exact⟨rfl,λx h=>by cases h;exact⟨_,rfl,a⟩⟩
  ·have d:¬q.1=k.map Sum.inl:=λz=>c<|CD<|e.symm.trans z;rw[B4 c,vH d];exact DV.look k t
theorem DV.repl{x:A}{v:V}(h:AV K ρ H x v)(k:ag):∀{kvs:List<|ag×A}{ks:List<|List Key×V},DV K ρ H kvs ks->DV K ρ H (kvs.map λkv=>if kv.1=k then(kv.1,x)else kv) (ks.map λkv=>if kv.1=k.map Sum.inl then(kv.1,v)else kv)
 | [],[],_=>trivial
 | p::r,q::r',⟨⟨e,a⟩,t⟩=>by
  refine⟨?_,DV.repl h k t⟩;dsimp only;by_cases c:p.1=k
  ·rw[aV c,aV<|by rw[e,c]];exact⟨e,h⟩
  ·rw[aR c,aR λz=>c<|CD<|e.symm.trans z];exact⟨e,a⟩
theorem DV.snoc{x:A}{v:V}(h:AV K ρ H x v)(k:ag):∀{kvs:List<|ag×A}{ks:List<|List Key×V},DV K ρ H kvs ks->DV K ρ H (kvs++[(k,x)]) (ks++[(k.map Sum.inl,v)])
 | [],[],_=>⟨⟨rfl,h⟩,trivial⟩
 | p::r,q::r',⟨a,t⟩=>⟨a,DV.snoc h k t⟩
def DV.put{x:A}{v:V}(h:AV K ρ H x v)(k:ag){ks:List<|List Key×V}(d:DV K ρ H kvs ks):DV K ρ H (putD kvs k x) (putK ks (k.map Sum.inl) v):=by
 unfold putD putK;rw[xV,<- (d.look k).1];by_cases c:(kW kvs k).isSome=true
 ·rw[aV c,aV c];exact DV.repl h k d
 ·rw[aR c,aR c];exact DV.snoc h k d
def DV.length:∀{kvs:List<|ag×A}{ks:List<|List Key×V},DV K ρ H kvs ks->kvs.length=ks.length
 | [],[],_=>rfl
 | _::_,_::_,⟨_,t⟩=>cV (·+1) t.length
def Rel.dct{n:Nat}{a:ak}(R:Rel K ρ H S)(ha:ρ[n]?=some a)(hS:S[n]?=some (.dct xs)):∃vs,H a=some (.dT vs)/\DV K ρ H xs vs:=R.at n a _ ha hS
def Rel.aax{S:jU}{p:ak}(R:Rel K ρ H S)(hp:H p=none)(r:DV K ρ H xs vs):Ext ρ (ρ++[p]) H (upd H p<|.dT vs)/\Rel K (ρ++[p]) (upd H p<|.dT vs) (S++[.dct xs])/\(ρ++[p])[S.length]?=some p:=by
 have ex:Ext ρ (ρ++[p]) H (upd H p<|.dT vs):=⟨⟨dY _ _,λa u _ h=>by rw[j0<|kh h hp];exact h⟩,λa u h _=>by rw[j0<|kh h hp];exact h,λa h=>by
  rcases bG.mp h with z|z
  ·exact .inl z
  ·have e:a=p:=by simpa using z
   rw[e];exact .inr hp⟩
 have j:p∉ρ:=R.F5 hp;have d:(ρ++[p])[S.length]?=some p:=by rw[<- R.len];simp
 refine⟨ex,⟨by simp[R.len],?_,?_⟩,d⟩
 ·rw[cy];f_are;have:b=p:=by simpa using hb
  exact j<|by rw[<- this,<- e];exact ha
 ·intro n a o h1 h2;by_cases hn:n<S.length
  ·rw[bB<|by rw[R.len];exact hn]at h1;rw[bB hn]at h2;have na:a≠p:=λz=>j (by rw[<- z];exact a_ h1);have:=R.at n a o h1 h2
   cases o with
   | lst ys=>obtain⟨f,e,q⟩:=this;exact⟨f,by rw[j0 na];exact e,q.ext ex⟩
   | dct _|qQ _|vW _=>obtain⟨f,e,q⟩:=this;exact⟨f,by rw[j0 na];exact e,q.ext ex⟩
   | dcf _=>obtain⟨g,f,e,q⟩:=this;exact⟨g,f,by rw[j0 na];exact e,q.ext ex⟩
   | ins _ _=>obtain⟨g,k,e⟩:=this;exact⟨g,k,by rw[j0 na];exact e⟩
  ·have e:n=S.length:=by
    have:=(aJ.mp h2).1;simp at this;omega
   subst e;rw[d]at h1
   cases h1
   simp at h2;subst h2;exact⟨vs,kQ,r.ext ex⟩
def Rel.putD{S:jU}{n:Nat}{a:ak}(R:Rel K ρ H S)(ha:ρ[n]?=some a)(hS:S[n]?=some (.dct xs))(r:DV K ρ H ys ws):Ext ρ ρ H (upd H a<|.dT ws)/\Rel K ρ (upd H a<|.dT ws) (S.set n<|.dct ys):=by
 obtain⟨t,e,_⟩:=R.at n a _ ha hS;have ex:Ext ρ ρ H (upd H a<|.dT ws):=⟨⟨dX _,λb u i h=>by
  have:b≠a:=by
   intro z;subst z;rw[e]at h;cases h;exact i
  rw[j0 this];exact h⟩,λb u h n=>by
  rw[j0 λz=>n<|by rw[z];exact a_ ha];exact h,λ_ h=>.inl h⟩
 refine⟨ex,by rw[bU];exact R.len,R.nd,λm b o h1 h2=>?_⟩;by_cases g:m=n
 ·subst g;rw[ha]at h1;cases h1;rw[bE (aJ.mp hS).1]at h2
  cases h2
  exact⟨ws,kQ,r.ext ex⟩
 ·rw[bM<|cR g]at h2;have nb:b≠a:=λz=>by
   subst z;obtain⟨p,e1⟩:=aJ.mp ha;obtain⟨B,e2⟩:=aJ.mp h1;exact g<|(cg R.nd).mp<|e2.trans e1.symm
  have:=R.at m b o h1 h2
  cases o with
  | lst ys=>obtain⟨d,f,q⟩:=this;exact⟨d,by rw[j0 nb];exact f,q.ext ex⟩
  | dct _|qQ _|vW _=>obtain⟨d,f,q⟩:=this;exact⟨d,by rw[j0 nb];exact f,q.ext ex⟩
  | dcf _=>obtain⟨j,d,f,q⟩:=this;exact⟨j,d,by rw[j0 nb];exact f,q.ext ex⟩
  | ins _ _=>obtain⟨j,k,f⟩:=this;exact⟨j,k,by rw[j0 nb];exact f⟩
end
section
variable {X:Cx}{pos:Pos}{a b:aE}
def CO{H:Hp}{p q:ak}{n:Nat}{ns:ag}(R:Rel X.K ρ H S)(hp:ρ[n]?=some p)(hn:kc S n=some kvs)(hq:H q=some (.tup vs))(r:AVs X.K ρ H xs vs)(hi:A.ints xs=some ns) :
  ∃ks,H p=some (.dT ks)/\DV X.K ρ H kvs ks/\H q=some (.tup<|(ns.map (Sum.inl:Int->Key)).map kV)/\uX H p (.ref q) (qX ks<|ns.map Sum.inl):=by
 obtain⟨ks,e,d⟩:=R.dct hp<|mh hn;have z:=rD r hi;subst z;rw[<- v8]at hq;exact⟨ks,e,d,hq,uX.t e hq⟩
abbrev sS (x y:A)(S:jU):R A:=match x,y with
 | .ref n,.tup xs=>opt (kc S n) λkvs=>opt (A.ints xs) λns=>opt (kW kvs ns) λv=>.ok v S
 | _,_=>.no
def aaq(hu:X.A.units+64<cLine):Uq X (r2 X sS):=λj f pins s σ H x y v u Q I rx ry ⟨ρ,S,a,b,R,va,vb,h⟩ hs=>by
 cases va with
 | @ref p n F=>
  cases vb with
  | @tup q xs G hq r=>
   kln_w;obtain⟨ns,B,h⟩:=jY h;obtain⟨z,k,h⟩:=jY h;obtain⟨ks,e,d,C,g⟩:=CO R F hn hq r B;obtain⟨w,hw,t⟩:=(d.look ns).2 z k;rw[hw]at g;exact DM (by omega) j f pins s σ H _ _ v u Q I rx ry ⟨p,w,rfl,g,h _ _ _ .refl R t⟩ hs
  | _=>exact h.elim
 | _=>exact h.elim
def ym(hu:X.A.units+64<cLine){ca cb:Ex}(ha:AE X a ca)(hb:AE X b cb)(hs:xH b:=by exact λ_ _=>rfl):AE X (.Subscript a b pos) (j4 sS ca cb):=PE.imp (Jr (aaq hu) ha hb hs) λσ H Q h=>ux h
abbrev L8 (neg:Bool)(x y:A)(S:jU):R A:=match x,y with
 | .tup xs,.ref n=>opt (kc S n) λkvs=>opt (A.ints xs) λns=>.ok (.bl<|if neg then !(kW kvs ns).isSome else(kW kvs ns).isSome) S
 | _,_=>.no
def F4(hu:X.A.units+64<cLine):oY X (compareOp .NotIn) (r2 X<|L8 true):=λpins s σ H x y v u Q I rx ry h9=>by
 z_go
 cases va with
 | @tup q xs t hq r=>
  cases vb with
  | @ref p n j=>
   kln_w;obtain⟨ns,k,h⟩:=jY h;obtain⟨ks,e,d,f,g⟩:=CO R j hn hq r k;exact LS (by omega) pins s σ H _ _ v u Q I rx ry ⟨p,_,rfl,g,by rw[<- (d.look ns).1];exact h _ _ _ .refl R<|.bl _⟩
  | _=>exact h.elim
 | _=>exact h.elim
abbrev n9 (o i v:A)(S:jU):R Unit:=match o,i with
 | .ref n,.tup xs=>opt (kc S n) λkvs=>opt (A.ints xs) λns=>gd (kvs.length<sizeLine) (.ok Unit.unit<|S.set n<|.dct<|putD kvs ns v)
 | _,_=>.no
abbrev acW (X:Cx):GC:=λo i v H Q=>∃ρ S ao f d,Rel X.K ρ H S/\AV X.K ρ H ao o/\AV X.K ρ H f i/\AV X.K ρ H d v/\(n9 ao f d S).post (λ_ g=>∀ρ' H',Ext ρ ρ' H H'->Rel X.K ρ' H' g->Q H') (XE X ρ H)
def UB(hu:X.A.units+64<cLine):E2 X (acW X):=λpins s σ H o i v F iv u Q I z B J h9=>by
 obtain⟨ρ,S,ao,M,K,R,h1,h2,h3,h⟩:=h9
 cases h1 with
 | @ref p n j=>
  cases h2 with
  | @tup q xs L hq r=>
   kln_w;obtain⟨ns,C,h⟩:=jY h;obtain⟨G,h⟩:=kD h;obtain⟨ks,e,d,f,g⟩:=CO R j hn hq r C;obtain⟨ex,k⟩:=R.putD j (mh hn)<|d.put h3 ns;exact set_dict () pins s σ H _ _ v F iv u Q I z B J ⟨p,_,rfl,zk.t e f<|by rw[<- d.length];exact G,h _ _ ex k⟩
  | _=>exact h.elim
 | _=>exact h.elim
abbrev HH (co ci:Ex):Tg:=λa τ S=>(co τ S).bind λo S1=>(ci τ S1).bind λi S2=>(n9 o i a S2).bind λ_ S3=>.ok τ S3
def xM(hu:X.A.units+64<cLine){co ci:Ex}(ho:AE X o co)(hi:AE X i ci)
  (ha:∀v,assign (.Subscript o i pos) X.env v=(do
   let ov <- holding [v] (eval o X.env)
   let iv <- holding [v,ov] (eval i X.env)
   standAt pos
   holding [v,ov,iv] (setItem ov iv v)
   release [v,ov,iv] []):=by intro _;rfl):AG X (.Subscript o i pos) (HH co ci):=PG.imp (D4 ho hi (UB hu) ha) λv σ H Q h9=>by
 obtain⟨ρ,S,τ,a,R,r,va,h⟩:=h9;k_ne;gp_on;kpf_c
abbrev ze:Ex:=λ_ S=>.ok (.ref S.length)<|S++[.dct []]
def ye:AE X (.Dict [] [] pos) ze:=PE.imp Qw λσ H Q ⟨ρ,S,τ,R,r,h⟩ p f=>by
 obtain⟨ex,d,g⟩:=R.aax (xs:=[]) (vs:=[]) f trivial;exact h _ _ _ ex d<|.ref g
abbrev IP (ck cv:Ex):Ex:=λτ S=>(ck τ S).bind λk S1=>(cv τ S1).bind λv S2=>match k with
 | .tup xs=>opt (A.ints xs) λns=>.ok (.ref S2.length) (S2++[.dct [(ns,v)]])
 | _=>.no
def Rel.Z3{K:au}{H:Hp}{S:jU}{D:ak}(R:Rel K ρ H S)(hD:H D=some (.dT us))(hn:D∉ρ)(r:DV K ρ H xs vs):Ext0 ρ (ρ++[D]) H (upd H D<|.dT vs)/\Rel K (ρ++[D]) (upd H D<|.dT vs) (S++[.dct xs])/\(ρ++[D])[S.length]?=some D:=by
 have ex:Ext0 ρ (ρ++[D]) H (upd H D<|.dT vs):=⟨dY _ _,λb u i h=>by
  have:b≠D:=by
   intro z;subst z;rw[hD]at h;cases h;exact i
  rw[j0 this];exact h⟩
 have d:(ρ++[D])[S.length]?=some D:=by rw[<- R.len];simp
 refine⟨ex,⟨by simp[R.len],?_,λn a o h1 h2=>?_⟩,d⟩
 ·rw[cy];f_are;have:b=D:=by simpa using hb
  exact hn<|by rw[<- this,<- e];exact ha
 ·by_cases hs:n<S.length
  ·rw[bB<|by rw[R.len];exact hs]at h1;rw[bB hs]at h2;have na:a≠D:=λz=>hn (by rw[<- z];exact a_ h1);have:=R.at n a o h1 h2
   cases o with
   | lst ys=>obtain⟨f,e,q⟩:=this;exact⟨f,by rw[j0 na];exact e,AVs.m_ ex q⟩
   | dct _|qQ _|vW _=>obtain⟨f,e,q⟩:=this;exact⟨f,by rw[j0 na];exact e,q.m_ ex⟩
   | dcf _=>obtain⟨g,f,e,q⟩:=this;exact⟨g,f,by rw[j0 na];exact e,q.m_ ex⟩
   | ins _ _=>obtain⟨g,j,e⟩:=this;exact⟨g,j,by rw[j0 na];exact e⟩
  ·have e:n=S.length:=by
    have:=(aJ.mp h2).1;simp at this
    lia
   subst e;rw[d]at h1
   cases h1
   simp at h2;subst h2;exact⟨vs,kQ,r.m_ ex⟩
def UJ(hu:X.A.units+64<cLine){k v:aE}{ck cv:Ex}(hk:AE X k ck)(hv:AE X v cv):AE X (.Dict [some k] [v] pos) (IP ck cv):=PE.imp (Sa () hk hv) λσ H Q ⟨ρ,S,τ,R,r,h⟩ p g=>by
 obtain⟨e0,G⟩:=R.im (u:=.dT []) g;have t:p∉ρ:=R.F5 g;refine⟨ρ,S,τ,G,r.ext e0,jX (j5 h) e0 λa S1 h1 ρ1 H1 x e1 R1 v1=>⟨ρ1,S1,τ,R1,(r.ext e0).ext e1,jX (j5 h1) (e0.trans e1) λb S2 h2 ρ2 H2 y e2 R2 v2=>?_⟩⟩;have d:=e1.trans e2;have f:H2 p=some (.dT []):=d.fr p _ kQ t;have j:p∉ρ2:=λF=>(d.nw p F).elim t λz=>by rw[kQ]at z;cases z
 cases v1.ext e2 with
 | @tup q xs vs hq B=>
  obtain⟨ns,J,h2⟩:=jY h2;have z:=rD B J;subst z;refine⟨f,q,ns.map Sum.inl,rfl,by rw[v8];exact hq,?_⟩;obtain⟨e3,R3,K⟩:=R2.Z3 (xs:=[(ns,b)]) (vs:=[(ns.map Sum.inl,y)]) f j ⟨⟨rfl,v2⟩,trivial⟩;refine h2 _ _ _ ⟨⟨(e0.trans d).pre.trans e3.pre,λc u i hc=>e3.im c u i<|(e0.trans d).im c u i hc⟩,λc u hc C=>?_,λc hc=>?_⟩ R3 (.ref K)
  ·rw[j0<|kh hc g];exact(e0.trans d).fr c u hc C
  ·rcases bG.mp hc with z|z
   ·exact(e0.trans d).nw c z
   ·have:c=p:=by simpa using z
    rw[this];exact .inr g
 | _=>exact h2.elim
abbrev dct? (a:A)(S:jU):Option Unit:=match a with
 | .ref n=>(kc S n).map λ_=>Unit.unit
 | _=>none
abbrev UA (f:A->ae->jU->R A)(co:Ex)(d:sW):Ex:=λτ S=>(co τ S).bind λx S1=>opt (dct? x S1) λ_=>(d τ S1).bind λg S2=>f x g S2
def dct?_ty{K:au}{H:Hp}{x:A}{v:V}(R:Rel K ρ H S)(a:AV K ρ H x v)(e:dct? x S=some u):ZI K "dict" v H:=by
 cases a with
 | @ref p n h=>
  obtain⟨xs,f,_⟩:=aW.mp e;obtain⟨d,h1,_⟩:=R.dct h<|mh f;exact .inr<|.inr<|.inl ⟨rfl,.inr ⟨d,h1⟩⟩
 | _=>cases e
def Nd{e:aE}{id:String}{apos cpos:Pos}{f:A->ae->jU->R A}{co:Ex}{d:sW}(slot:Slot "dict" name id)(hty:typeOf (.builtin id)=pure (.type "method_descriptor"))(hm:MC X id<|rM X f)(ho:AE X o co)(ha:AL X (e::es) d)
  (hbase:attributeBase o name X.env (eval o X.env)=eval o X.env:=by rfl)
  (hfew:((backTo cpos<|starEach (e::es) X.env).all (λx=>!x.1) && (backToKw cpos<|keywordEach [] X.env).all (λx=>x.1.isSome)
   && decide ((e::es).length+([]:List Keyword).length+(if ([]:List Keyword).isEmpty then 0 else 1)<30))=true:=by rfl)
  (hline:(apos.endLine == cpos.line)=true:=by rfl) (hs:starEach (e::es) X.env=(false,eval e X.env)::starEach es X.env:=by rfl) (hplain:(backTo cpos<|starEach es X.env).any (·.1)=false:=by rfl) :
  AE X (.Call (.Attribute o name apos) (e::es) [] cpos) (UA f co d):=PE.imp (Qz gW slot hty hm ho ha hbase hfew hline hs hplain) λσ H Q h9=>by
 x_go;cb_eq;obtain⟨xs,j,h1⟩:=jY h1;refine⟨dct?_ty R1 v1 j,ρ1,S1,τ,R1,r.ext e1,jX (j5 h1) e1 λg S2 h2 ρ2 H2 k e2 R2 v2=>?_⟩;exact⟨ρ2,S2,x,g,R2,v1.ext e2,v2,jX h2 (e1.trans e2) λ_ _ z=>z.ext<|e1.trans e2⟩
abbrev RL (o:A)(as:ae)(S:jU):R A:=match o,as with
 | .ref n,[.tup xs,y]=>opt (kc S n) λkvs=>opt (A.ints xs) λk=>.ok ((kW kvs k).getD y) S
 | _,_=>.no
def VZ(hu:X.A.units+64<cLine):MC X "dict.get" (rM X RL):=λpins s σ H x O v us Q I rx J h9=>by
 obtain⟨ρ,S,o,g,R,G,va,h⟩:=h9
 cases G with
 | @ref p n L=>
  match g,va,h with
  | [],_,h=>exact h.elim
  | [z],_,h=>exact(by cases z<;>exact h.elim)
  | z::_::_::_,_,h=>exact(by cases z<;>exact h.elim)
  | [z,y],va,h=>
   obtain⟨N,F,rfl,j,hy⟩:=Ux va
   cases j with
   | @tup q xs M hq k=>
    kln_w;obtain⟨ns,C,h⟩:=jY h;have z:=rD k C;subst z;obtain⟨ks,h1,B⟩:=R.dct L<|mh hn;refine Vh (by omega) pins s σ H _ _ v us Q I rx J ⟨p,q,ns.map Sum.inl,ks,F,rfl,rfl,h1,by rw[v8];exact hq,h _ _ _ .refl R ?_⟩;obtain⟨d,t⟩:=B.look ns
    cases e1:kW kvs ns with
    | none=>
     rw[e1]at d
     cases e2:qX ks (ns.map Sum.inl)with
     | none=>exact hy
     | some _=>rw[e2]at d;cases d
    | some K=>
     obtain⟨v1,e2,f⟩:=t K e1;rw[e2];exact f
   | _=>exact h.elim
 | _=>exact h.elim
end
section
variable {a b:aE}
theorem VJ{K:au}{H:Hp}:∀{kvs:List<|ag×A}{ks:List<|List Key×V}{i:Nat}{p:ag×A},DV K ρ H kvs ks->kvs[i]?=some p->∃q,ks[i]?=some q/\q.1=p.1.map Sum.inl/\AV K ρ H p.2 q.2
 | [],[],_,_,_,h=>by simp at h
 | a::kvs,b::ks,0,p,⟨z,_⟩,h=>by
  have:a=p:=by simpa using h
  subst this;exact⟨b,rfl,z⟩
 | a::kvs,b::ks,i+1,p,⟨_,t⟩,h=>VJ (kvs:=kvs) (ks:=ks) (i:=i) t<|by simpa using h
def Rel.gone{K:au}{H:Hp}{S:jU}{n:Nat}{a:ak}(R:Rel K ρ H S)(ha:ρ[n]?=some a)(hS:S[n]?=some (.dct xs)):Ext ρ ρ H (upd H a<|.frz o u)/\Rel K ρ (upd H a<|.frz o u) (S.set n<|.ins "" []):=by
 obtain⟨B,e,_⟩:=R.at n a _ ha hS;have ex:Ext ρ ρ H (upd H a<|.frz o u):=⟨⟨dX _,λb p i h=>by
  have:b≠a:=by
   intro z;subst z;rw[e]at h;cases h;exact i
  rw[j0 this];exact h⟩,λb p h nb=>by
  rw[j0 λz=>nb<|by rw[z];exact a_ ha];exact h,λ_ h=>.inl h⟩
 refine⟨ex,by rw[bU];exact R.len,R.nd,λm b ob h1 h2=>?_⟩;by_cases g:m=n
 ·subst g;rw[ha]at h1;cases h1;rw[bE (aJ.mp hS).1]at h2
  cases h2
  exact⟨o,u,kQ⟩
 ·rw[bM<|cR g]at h2;have nb:b≠a:=λz=>by
   subst z;obtain⟨t,e1⟩:=aJ.mp ha;obtain⟨C,e2⟩:=aJ.mp h1;exact g<|(cg R.nd).mp<|e2.trans e1.symm
  have:=R.at m b ob h1 h2
  cases ob with
  | lst ys=>obtain⟨d,f,q⟩:=this;exact⟨d,by rw[j0 nb];exact f,q.ext ex⟩
  | dct _|qQ _|vW _=>obtain⟨d,f,q⟩:=this;exact⟨d,by rw[j0 nb];exact f,q.ext ex⟩
  | dcf _=>obtain⟨j,d,f,q⟩:=this;exact⟨j,d,by rw[j0 nb];exact f,q.ext ex⟩
  | ins _ _=>obtain⟨j,k,f⟩:=this;exact⟨j,k,by rw[j0 nb];exact f⟩
end
abbrev acX (F:ae->jU->R A)(d:sW):Ex:=λτ S=>(d τ S).bind λf S1=>F f S1
abbrev bmV:ba:=[.type "ValueError",.type "Exception",.type "BaseException",.type "object"]
abbrev Tv:List (Str ⊕ Ex)->ae->jU->R Unit
 | [],_,S=>.ok Unit.unit S
 | .inl _::ps,τ,S=>Tv ps τ S
 | .inr e::ps,τ,S=>(e τ S).bind λv S1=>match v with
  | .int i=>gd (i.natAbs.log2<64) (Tv ps τ S1)
  | _=>.no
abbrev WG (c:Str)(ps:List<|Str ⊕ Ex):Sm:=λτ S=>.of (Tv ps τ S) λ_ S1=>.ex c S1
abbrev VU (i:Nat):RS->RS
 | .nx τ S=>.nx (τ.set i .unb) S
 | .bk τ S=>.bk (τ.set i .unb) S
 | .ct τ S=>.ct (τ.set i .unb) S
 | .rt a S=>.rt a S
 | _=>.no
abbrev Z8 (i n:Nat)(cs:ar)(c d:Sm):Sm:=λτ S=>match c τ S with
 | .ex x S1=>if x∈cs then VU i (d ((List.replicate n .unb).set i<|.exn x) S1)else .no
 | r=>r
abbrev ab4 (f:Str->bi)(c:Ex):Ex:=λτ S=>(c τ S).bind λv S1=>match v with
 | .exn x=>opt (f x) λb=>.ok (.bl b) S1
 | _=>.no
structure ExcK (K:au)(U:ak)(c:Str)(C:ak):Prop where
 n:ClN K c C
 q:PySem.W.excIn K C bmV "ValueError.__new__" = true
 r:L2.mroIn K C=some (.ref U::bmV)
 x:XCls K C
 cl:(PySem.W.clsIn K C).isSome=true
 v:PySem.W.kitOne K (.ref C) (.type "ValueError")=some true
abbrev tbX (tb:List<|Str×Bool):Str->bi:=λx=>tb.lookup x
abbrev ZO (F:ae->jU->R A)(d:sW):Ex:=λτ S=>match d τ S with
 | .ok f S1=>F f S1
 | _=>.no
section
variable {d:sW}
abbrev aaD (t:Te)(c d:Sm):Sm:=λτ S=>match t τ S with
 | .ok true S1=>c τ S1
 | .ok false S1=>d τ S1
 | _=>.no
end
abbrev Wr (i:Nat)(cs:ar)(c d:Sm):Sm:=λτ S=>match c τ S with
 | .ex x S1=>if x∈cs then VU i (d (τ.set i<|.exn x) S1)else .no
 | r=>r
abbrev ZZ:Sm:=λ_ _=>.no
def Ja{X:Cx}{st:aF}:AS X st ZZ:=PS.imp Pj λD σ H ⟨ρ,S,τ,R,r,h⟩=>h.elim
def LL{K:au}{H:Hp}{a:ak}{ns:ag}{F:ae->jU->R A}(hO:Tn H)(hS:qe K H a<|ns.map V.int)(h:∃S',F [.frz<|ns.map .int] []=.ok (.bl true) S'):rC K 1 F [.ref a] H (λv _=>v=.bl true) λ_ _ _=>False:=by
 obtain⟨S',h⟩:=h;have fz:Fz K H a (ns.map V.int):=by
  rcases hS with(h|⟨o,h⟩)|h
  ·rcases hO a with z|⟨ob,xs,z⟩
   ·rw[h]at z;cases z
   ·rw[h]at z;cases z
  ·exact .inl ⟨o,h⟩
  ·exact .inr h
 exact⟨rfl,[],[],_,_,S',⟨rfl,cY,λn a o h=>by simp at h⟩,.cons (.frz fz<|rY ns) .nil,h,λρ' H' v _ _ hv=>E9 hv⟩
section
variable {P:aj}{w:ah}{K:au}{mg:Str->bd}{base:aq}{f:ak}{fd:FuncData}{ps:ar}{k n:Nat}
def W5(h:n=ps.length):FnOk P w K mg base qz k f fd ps (rC K n λ_ _=>.no):=
 ⟨λ_ _ _ _ z=>z.1.trans h,λ_ _ _ _ _ _ _ _ _ _ _ _ _ z=>by obtain⟨_,_,_,_,_,_,_,_,e,_⟩:=z;cases e⟩
end
def CT{P:ba->Prop}(h:∀a0,P [a0]):∀us:ba,us.length=1->P us
 | [_],_=>h _
def Eo{P:ba->Prop}(h:∀a0 a1,P [a0,a1]):∀us:ba,us.length=2->P us
 | [_,_],_=>h _ _
def Zb{n:Nat}{us:ba}(h:us.length=n+1):∃a t,us=a::t/\t.length=n:=by
 cases us with
 | nil=>simp at h
 | cons a t=>exact⟨a,t,rfl,by simpa using h⟩
def us3{P:ba->Prop}(h:∀a0 a1 a2,P [a0,a1,a2]):∀us:ba,us.length=3->P us:=λus e=>by
 obtain⟨a0,t0,rfl,e0⟩:=Zb e;obtain⟨a1,f,rfl,e1⟩:=Zb e0;obtain⟨a2,d,rfl,e2⟩:=Zb e1
 cases fG.mp e2
 exact h _ _ _
end Am
namespace Am
open PySem L2
section
variable {α β:Type}{a b:A}{S S1:jU}{τ:ae}{x:α}
@[simp]def R.m9 {f:α->jU->R β}:(R.ok x S).bind f=f x S:=rfl
@[simp]def R.Lb {f:α->jU->R β}{c:Str}:(R.ex c S:R α).bind f=.ex c S:=rfl
@[simp]def R.kK {f:α->jU->R β}:(R.ok x S).nJ f=f x S:=rfl
@[simp]def RS.of_ok {f:α->jU->RS}:RS.of (R.ok x S) f=f x S:=rfl
@[simp]def RS.Vz {f:α->jU->RS}{c:Str}:RS.of (R.ex c S:R α) f=.ex c S:=rfl
@[simp]def j7 {f:β->R α}{y:β}:opt (some y) f=f y:=rfl
@[simp]def I_ {r:R α}:gd True r=r:=aV trivial
theorem o6{c:Prop}[Decidable c]{r:R α}(h:c):gd c r=r:=aV h
@[simp]def qW {i:Nat}:jQ i τ S=bif (τ.getD i .unb).pV then .no else .ok (τ.getD i .unb) S:=by unfold jQ;cases(τ.getD i .unb).pV<;>rfl
@[simp]def Ji {xs:ae}:A.pV (.tup xs)=false:=rfl
@[simp]def Jv {xs:ae}:A.pV (.frz xs)=false:=rfl
@[simp]def Kg {i:Int}:A.pV (.int i)=false:=rfl
@[simp]def O2 {i:Bool}:A.pV (.bl i)=false:=rfl
@[simp]def Ii {i:Str}:A.pV (.str i)=false:=rfl
@[simp]def Il {i:Nat}:A.pV (.ref i)=false:=rfl
@[simp]def J6:A.pV .non=false:=rfl
@[simp]def Ko {i j:Int}:A.pV (.rng i j)=false:=rfl
@[simp]def KL {c:Str}:A.pV (.exn c)=false:=rfl
@[simp]def VS:eC a τ S=.ok a S:=rfl
abbrev ZX (f:A->A->jU->R A)(cb:Ex)(τ:ae)(a:A)(S:jU):R A:=(cb τ S).bind<|f a
@[simp]def KQ {f:A->A->jU->R A}{cb:Ex}:ZX f cb τ a S=(cb τ S).bind (f a):=rfl
@[simp]def KY {f:A->A->jU->R A}{ca cb:Ex}:j4 f ca cb τ S=(ca τ S).bind (ZX f cb τ):=rfl
@[simp]def Rk {f:A->jU->R A}{ca:Ex}:eUn f ca τ S=(ca τ S).bind f:=rfl
@[simp]def IG {c:Ex}:tB c τ S=(c τ S).bind λa S1=>opt (a.VB S1) λb=>.ok b S1:=rfl
abbrev aB (a:A)(S:jU):R Bool:=match a with
 | .bl b=>.ok b S
 | _=>.no
@[simp]def Wb {b:Bool}:aB (.bl b) S=.ok b S:=rfl
@[simp]def Qg {c:Ex}:pR c τ S=(c τ S).bind aB:=rfl
@[simp]def IC {c:Te}:Fe c τ S=(c τ S).bind λb S1=>.ok (!b) S1:=rfl
abbrev Zf (d:Te)(τ:ae)(b:Bool)(S:jU):R Bool:=match b with|true=>d τ S|false=>.ok false S
abbrev kOr (d:Te)(τ:ae)(b:Bool)(S:jU):R Bool:=match b with|true=>.ok true S|false=>d τ S
@[simp]def NY {d:Te}:Zf d τ true S=d τ S:=rfl
@[simp]def Q8 {d:Te}:Zf d τ false S=.ok false S:=rfl
@[simp]def V4 {d:Te}:kOr d τ true S=.ok true S:=rfl
@[simp]def V8 {d:Te}:kOr d τ false S=d τ S:=rfl
@[simp]def J4 {c d:Te}:zU c d τ S=(c τ S).bind (Zf d τ):=rfl
@[simp]def Qn {c d:Te}:XF c d τ S=(c τ S).bind (kOr d τ):=rfl
@[simp]def Jx:oZ τ S=.ok true S:=rfl
abbrev PN (d:Ex)(τ:ae)(a:A)(S:jU):R A:=match a with | .bl true=>d τ S | .bl false=>.ok (.bl false) S|_=>.no
abbrev Xn (d:Ex)(τ:ae)(a:A)(S:jU):R A:=match a with | .bl true=>.ok (.bl true) S | .bl false=>d τ S|_=>.no
@[simp]def HR {d:Ex}:PN d τ (.bl true) S=d τ S:=rfl
@[simp]def Kr {d:Ex}:PN d τ (.bl false) S=.ok (.bl false) S:=rfl
@[simp]def Pe {d:Ex}:Xn d τ (.bl true) S=.ok (.bl true) S:=rfl
@[simp]def Oj {d:Ex}:Xn d τ (.bl false) S=d τ S:=rfl
@[simp]def JQ {c d:Ex}:Nv c d τ S=(c τ S).bind (PN d τ):=by
 unfold Nv
 cases c τ S with
 | ok a S1=>cases a<;>first|rfl|(rename_i b;cases b<;>rfl)
 | _=>rfl
@[simp]def Sf {c d:Ex}:eOr c d τ S=(c τ S).bind (Xn d τ):=by
 unfold eOr
 cases c τ S with
 | ok a S1=>cases a<;>first|rfl|(rename_i b;cases b<;>rfl)
 | _=>rfl
abbrev Wj (a:A)(S:jU):R A:=match a with | .bl b=>.ok (.bl !b) S|_=>.no
@[simp]def FT {b:Bool}:Wj (.bl b) S=.ok (.bl !b) S:=rfl
@[simp]def Jw {c:Ex}:XT c τ S=(c τ S).bind Wj:=rfl
abbrev Za (c d:Ex)(τ:ae)(b:Bool)(S:jU):R A:=match b with|true=>c τ S|false=>d τ S
@[simp]def RC {c d:Ex}:Za c d τ true S=c τ S:=rfl
@[simp]def OV {c d:Ex}:Za c d τ false S=d τ S:=rfl
@[simp]def Si {t:Te}{c d:Ex}:eIf t c d τ S=(t τ S).bind (Za c d τ):=rfl
@[simp]def KP:jW τ S=.ok [] S:=rfl
abbrev Gr (a:A)(as:ae)(S:jU):R (ae):=.ok (a::as) S
abbrev Wg (d:sW)(τ:ae)(a:A)(S:jU):R (ae):=(d τ S).bind<|Gr a
@[simp]def BQ {as:ae}:Gr a as S=.ok (a::as) S:=rfl
@[simp]def E1 {d:sW}:Wg d τ a S=(d τ S).bind (Gr a):=rfl
@[simp]def Fv {c:Ex}{d:sW}:jR c d τ S=(c τ S).bind (Wg d τ):=rfl
@[simp]def IY {d:sW}:pP d τ S=(d τ S).bind λas S1=>gd (as.length<=sizeLine) (.ok (.tup as) S1):=rfl
@[simp]def Kx {d:sW}:n8 d τ S=(d τ S).bind newL:=rfl
theorem mR{as:ae}(h:as.length<=16777216):newL as S=.ok (.ref S.length) (S++[.lst as]):=o6<|by rw[eN];exact h
@[simp]def E7 {f:ae->jU->R A}{d:sW}:ku f d τ S=(d τ S).bind f:=rfl
abbrev okR (r:R A):R A:=match r with
 | .ok a S=>.ok a S
 | _=>.no
@[simp]def QU:okR (.ok a S)=.ok a S:=rfl
abbrev kFn (f:ae->jU->R A)(as:ae)(S:jU):R A:=okR<|f as S
@[simp]def Rb {f:ae->jU->R A}{as:ae}:kFn f as S=okR (f as S):=rfl
@[simp]def Ro {f:ae->jU->R A}{d:sW}:eFn f d τ S=(d τ S).bind (kFn f):=rfl
@[simp]def Wn {g:A->jU->R A}:f1 g [a] S=g a S:=rfl
@[simp]def V_ {g:A->A->jU->R A}:f2 g [a,b] S=g a b S:=rfl
abbrev Xy (h:Pt)(τ:ae)(a:A)(l:Option Int)(S:jU):R A:=(h τ S).bind<|aSl a l
abbrev kSl (l h:Pt)(τ:ae)(a:A)(S:jU):R A:=(l τ S).bind<|Xy h τ a
@[simp]def Ib {h:Pt}{l:Option Int}:Xy h τ a l S=(h τ S).bind (aSl a l):=rfl
@[simp]def RQ {l h:Pt}:kSl l h τ a S=(l τ S).bind (Xy h τ a):=rfl
@[simp]def Q9 {c:Ex}{l h:Pt}:eSl c l h τ S=(c τ S).bind (kSl l h τ):=rfl
@[simp]def FU:aaH τ S=.ok none S:=rfl
abbrev aPt (a:A)(S:jU):R (Option Int):=match a with
 | .int i=>.ok (some i) S
 | _=>.no
@[simp]def IX {i:Int}:aPt (.int i) S=.ok (some i) S:=rfl
@[simp]def F2 {c:Ex}:aaj c τ S=(c τ S).bind aPt:=rfl
abbrev YW (f:A->ae->jU->R A)(d:sW)(τ:ae)(o:A)(S:jU)(_:ae):R A:=(d τ S).bind<|f o
abbrev kMe (f:A->ae->jU->R A)(d:sW)(τ:ae)(o:A)(S:jU):R A:=opt (o.lst? S)<|YW f d τ o S
@[simp]def JN {f:A->ae->jU->R A}{d:sW}{xs:ae}:YW f d τ a S xs=(d τ S).bind (f a):=rfl
@[simp]def Oc {f:A->ae->jU->R A}{d:sW}:kMe f d τ a S=opt (a.lst? S) (YW f d τ a S):=rfl
@[simp]def Og {f:A->ae->jU->R A}{c:Ex}{d:sW}:Ek f c d τ S=(c τ S).bind (kMe f d τ):=rfl
@[simp]def Kf {f:A->ae->jU->R A}{c:Ex}:ML f c τ S=(c τ S).bind λo S1=>opt (o.lst? S1) λ_=>f o [] S1:=rfl
@[simp]def lst?_ref {n:Nat}:A.lst? S (.ref n)=jS S n:=rfl
abbrev RS.seq (r:RS)(d:Sm):RS:=match r with
 | .nx τ S=>d τ S
 | r=>r
@[simp]def RS.M9 {d:Sm}:RS.seq (.nx τ S) d=d τ S:=rfl
@[simp]def RS.OJ {d:Sm}:RS.seq (.rt a S) d=.rt a S:=rfl
@[simp]def RS.Pu {d:Sm}{c:Str}:RS.seq (.ex c S) d=.ex c S:=rfl
@[simp]def RS.Rc {d:Sm}:RS.seq (.bk τ S) d=.bk τ S:=rfl
@[simp]def RS.Qq {d:Sm}:RS.seq (.ct τ S) d=.ct τ S:=rfl
@[simp]def IT {c d:Sm}:ki c d τ S=RS.seq (c τ S) d:=by unfold ki RS.seq;cases c τ S<;>rfl
@[simp]def Kz:r9 τ S=.nx τ S:=rfl
@[simp]def Cg:Zo τ S=.bk τ S:=rfl
@[simp]def FI:aao τ S=.ct τ S:=rfl
@[simp]def E3 {e:Ex}:ny e τ S=RS.of (e τ S) λ_ S1=>.nx τ S1:=rfl
@[simp]def JJ {e:Ex}:mH e τ S=RS.of (e τ S) .rt:=rfl
@[simp]def F1:aaV τ S=.rt .non S:=rfl
abbrev kIf (c d:Sm)(τ:ae)(b:Bool)(S:jU):RS:=match b with|true=>c τ S|false=>d τ S
@[simp]def VG {c d:Sm}:kIf c d τ true S=c τ S:=rfl
@[simp]def VO {c d:Sm}:kIf c d τ false S=d τ S:=rfl
@[simp]def Rp {t:Te}{c d:Sm}:zc t c d τ S=RS.of (t τ S) (kIf c d τ):=rfl
abbrev aaM (g:Tg)(τ:ae)(a:A)(S:jU):RS:=RS.of (g a τ S) .nx
@[simp]def IW {g:Tg}:aaM g τ a S=RS.of (g a τ S) .nx:=rfl
@[simp]def KJ {e:Ex}{g:Tg}:kM e g τ S=RS.of (e τ S) (aaM g τ):=rfl
@[simp]def Oa {i:Nat}:kB i a τ S=.ok (τ.set i a) S:=rfl
abbrev XA (a o:A)(τ:ae)(i:A)(S:jU):R (ae):=(FF o i a S).bind λ_ S3=>.ok τ S3
abbrev kSb (ci:Ex)(τ:ae)(a o:A)(S:jU):R (ae):=(ci τ S).bind<|XA a o τ
@[simp]def Kq {o i:A}:XA a o τ i S=(FF o i a S).bind λ_ S3=>.ok τ S3:=rfl
@[simp]def OL {ci:Ex}{o:A}:kSb ci τ a o S=(ci τ S).bind (XA a o τ):=rfl
@[simp]def Pf {co ci:Ex}:Vn co ci a τ S=(co τ S).bind (kSb ci τ a):=rfl
@[simp]def QL {n:Nat}{gs:Sq}{xs:ae}:Bs n gs (.tup xs) τ S=gd (xs.length=n) (gs xs τ S):=rfl
@[simp]def Sd:Br [] τ S=.ok τ S:=rfl
@[simp]def NB {g:Tg}{gs:Sq}{as:ae}:tP g gs (a::as) τ S=(g a τ S).bind (gs as):=rfl
abbrev sPr (i j:Nat)(τ:ae)(as:ae)(S:jU):RS:=match as with
 | [a,b]=>.nx ((τ.set i a).set j b) S
 | _=>.no
@[simp]def MY {i j:Nat}:sPr i j τ [a,b] S=.nx ((τ.set i a).set j b) S:=rfl
@[simp]def KS {i j:Nat}{c:sW}:acg i j c τ S=RS.of (c τ S) (sPr i j τ):=rfl
abbrev NQ (i:Nat)(τ:ae)(c:A)(S:jU):RS:=.nx (τ.set i c) S
abbrev aak (i:Nat)(f:A->A->jU->R A)(τ:ae)(b:A)(S:jU):RS:=.of (f (τ.getD i .unb) b S)<|NQ i τ
@[simp]def F6 {i:Nat}:NQ i τ a S=.nx (τ.set i a) S:=rfl
@[simp]def JV {i:Nat}{f:A->A->jU->R A}:aak i f τ a S=.of (f (τ.getD i .unb) a S) (NQ i τ):=rfl
@[simp]def KG {i:Nat}{f:A->A->jU->R A}{e:Ex}:Q5 i f e τ S=bif (τ.getD i .unb).pV then .no else .of (e τ S) (aak i f τ):=by
 unfold Q5;cases(τ.getD i .unb).pV<;>rfl
abbrev kS5 (o i:A)(τ:ae)(z:A)(S:jU):RS:=.of (FF o i z S) λ_ d=>.nx τ d
abbrev kS4 (f:A->A->jU->R A)(o i x:A)(τ:ae)(y:A)(S:jU):RS:=.of (f x y S)<|kS5 o i τ
abbrev kS3 (ce:Ex)(f:A->A->jU->R A)(o i:A)(τ:ae)(x:A)(S:jU):RS:=.of (ce τ S)<|kS4 f o i x τ
abbrev kS2 (ce:Ex)(f:A->A->jU->R A)(o:A)(τ:ae)(i:A)(S:jU):RS:=.of (Vw o i S)<|kS3 ce f o i τ
abbrev kS1 (ci ce:Ex)(f:A->A->jU->R A)(τ:ae)(o:A)(S:jU):RS:=.of (ci τ S)<|kS2 ce f o τ
@[simp]def Pa {o i:A}:kS5 o i τ a S=.of (FF o i a S) λ_ S6=>.nx τ S6:=rfl
@[simp]def M0 {f:A->A->jU->R A}{o i x:A}:kS4 f o i x τ a S=.of (f x a S) (kS5 o i τ):=rfl
@[simp]def NR {ce:Ex}{f:A->A->jU->R A}{o i:A}:kS3 ce f o i τ a S=.of (ce τ S) (kS4 f o i a τ):=rfl
@[simp]def Qm {ce:Ex}{f:A->A->jU->R A}{o:A}:kS2 ce f o τ a S=.of (Vw o a S) (kS3 ce f o a τ):=rfl
@[simp]def MM {ci ce:Ex}{f:A->A->jU->R A}:kS1 ci ce f τ a S=.of (ci τ S) (kS2 ce f a τ):=rfl
@[simp]def EE {co ci ce:Ex}{f:A->A->jU->R A}:aan co ci ce f τ S=RS.of (co τ S) (kS1 ci ce f τ):=rfl
abbrev RS.end (r:RS):R A:=match r with
 | .rt a d=>.ok a d
 | .nx _ d=>.ok .non d
 | .ex c d=>.ex c d
 | _=>.no
@[simp]def RS.N_:RS.end (.rt a S)=.ok a S:=rfl
@[simp]def RS.Ou:RS.end (.nx τ S)=.ok .non S:=rfl
@[simp]def RS.RW {c:Str}:RS.end (.ex c S)=.ex c S:=rfl
theorem xO {N:ar}{m:Sm}{as:ae}:l_ N m as S=RS.end (m (as++List.replicate (N.length-as.length) .unb) S):=by
 unfold l_ RS.end;cases m (as++List.replicate (N.length-as.length) .unb) S<;>rfl
@[simp]def Q_ {i j:Int}:nV (.int i) (.int j) S=.ok (.int<|i+j) S:=rfl
@[simp]def Nr {i j:Int}:aSub (.int i) (.int j) S=.ok (.int<|i-j) S:=rfl
@[simp]def QC {i j:Int}:acn (.int i) (.int j) S=.ok (.int<|i+j) S:=rfl
theorem Qx{i j:Int}(h:-18446744073709551616<i)(h':i<18446744073709551616):yz (.int i) (.int j) S=.ok (.int<|i * j) S:=o6<|by unfold xU;simp;left;exact⟨by omega,by omega⟩
def mul_r{i j:Int}(h:-18446744073709551616<j)(h':j<18446744073709551616):yz (.int i) (.int j) S=.ok (.int<|i * j) S:=o6<|by unfold xU;simp;right;exact⟨(),()⟩
def QT{i j:Int}(h:0<j)(h':j<1073741824):AY (.int i) (.int j) S=.ok (.int<|i / j) S:=o6 ⟨h,()⟩
def Yv{i j:Int}(h:0<j)(h':j<18446744073709551616):AY (.int i) (.int j) S=.ok (.int<|i / j) S:=o6 ⟨h,h'⟩
def Fg{i j:Int}(h:0<j):CP (.int i) (.int j) S=.ok (.int<|i % j) S:=o6 h
@[simp]def VQ {i j:Int}:WX (.int i) (.int j) S=.ok (.bl<|decide<|i<j) S:=rfl
@[simp]def VC {i j:Int}:aLe (.int i) (.int j) S=.ok (.bl<|decide<|i<=j) S:=rfl
@[simp]def Vy {i j:Int}:MJ (.int i) (.int j) S=.ok (.bl<|decide<|j<i) S:=rfl
@[simp]def VX {i j:Int}:aGe (.int i) (.int j) S=.ok (.bl<|decide<|j<=i) S:=rfl
@[simp]def Wo {i j:Bool}:Ho false (.bl i) (.bl j) S=.ok (.bl<|i == j) S:=rfl
@[simp]def Ny {i j:Bool}:Ho true (.bl i) (.bl j) S=.ok (.bl<|i != j) S:=rfl
@[simp]def R_ {i:Int}:P1 (.int i) S=.ok (.int<|-i) S:=rfl
@[simp]def Ol {xs:ae}:qU (.tup xs) S=.ok (.int xs.length) S:=rfl
@[simp]def NS {xs:ae}:qU (.frz xs) S=.ok (.int xs.length) S:=rfl
@[simp]def OG {n:Nat}:qU (.ref n) S=opt (jS S n) λxs=>.ok (.int xs.length) S:=rfl
@[simp]def PV {i:Int}:X0 (.int i) S=.ok (.int<|if i<0 then -i else i) S:=rfl
@[simp]def Jb {i j:Int}:aa5 (.int i) (.int j) S=.ok (.int<|if j>i then j else i) S:=rfl
@[simp]def Kv {i j:Int}:aaP (.int i) (.int j) S=.ok (.int<|if j<i then j else i) S:=rfl
@[simp]def Iq {i:Int}:Wv (.int i) S=.ok (.int i) S:=rfl
@[simp]def J9 {i:Bool}:Wv (.bl i) S=.ok (.int<|if i then 1 else 0) S:=rfl
@[simp]def BP {i j:Int}:CI (.int i) (.int j) S=.ok (.rng i j) S:=rfl
@[simp]def V6 {xs:ae}{i:Int}:pS (.tup xs) (.int i) S=opt (uY xs i) λx=>.ok x S:=rfl
@[simp]def VI {xs:ae}{i:Int}:pS (.frz xs) (.int i) S=opt (uY xs i) λx=>.ok x S:=rfl
@[simp]def VH {n:Nat}{i:Int}:pS (.ref n) (.int i) S=opt (jS S n) λxs=>opt (uY xs i) λx=>.ok x S:=rfl
@[simp]def PF {n:Nat}{k:Int}:FF (.ref n) (.int k) a S=opt (jS S n) λxs=>opt (Em xs.length k) λj=>.ok Unit.unit (S.set n<|.lst<|xs.set j a):=rfl
@[simp]def Qh {n:Nat}{i:Int}:Vw (.ref n) (.int i) S=opt (jS S n) λxs=>gd (0<=i) (opt (xs[i.toNat]?) λx=>.ok x S):=rfl
theorem Ly{i j:Int}(h:B0 i j):zb (.rng i j) S=.ok (.ref S.length) (S++[.lst<|(mJ i j).map .int]):=o6 h
@[simp]def Iw {xs:ae}:zb (.tup xs) S=.ok (.ref S.length) (S++[.lst xs]):=rfl
@[simp]def K5 {xs:ae}:zb (.frz xs) S=.ok (.ref S.length) (S++[.lst xs]):=rfl
@[simp]def JM {n:Nat}:zb (.ref n) S=opt (jS S n) λxs=>.ok (.ref S.length) (S++[.lst xs]):=rfl
@[simp]def Fq {xs:ae}:ue (.tup xs) S=.ok (.tup xs) S:=rfl
@[simp]def Fj {n:Nat}:ue (.ref n) S=opt (jS S n) λxs=>.ok (.tup xs) S:=rfl
@[simp]def PO {xs:ae}:aaN (.tup xs) S=.ok (.tup xs.reverse) S:=rfl
@[simp]def NF {n:Nat}:aaN (.ref n) S=opt (jS S n) λxs=>.ok (.ref S.length) (S++[.lst xs.reverse]):=rfl
@[simp]def Wt {n:Nat}{l u:Option Int}:aSl (.ref n) l u S=opt (jS S n) λxs=>.ok (.ref S.length) (S++[.lst<|Vk xs l u]):=rfl
@[simp]def Bb {n:Nat}:m5 (.ref n) [a] S=opt (jS S n) λxs=>gd (xs.length<sizeLine) (.ok .non<|S.set n<|.lst<|xs++[a]):=rfl
@[simp]def Qc {b:Bool}:A.VB (.bl b) S=some b:=rfl
@[simp]def JF {i:Int}:A.VB (.int i) S=some (i != 0):=rfl
theorem CG{o:O}:(S++[o])[S.length]?=some o:=by simp
@[simp]def j9 {xs:ae}:jS (S++[.lst xs]) S.length=some xs:=nB CG
theorem lA{o:O}{n:Nat}(h:jS S n=some xs):jS (S++[o]) n=some xs:=by
 have h':=j_ h;exact nB<|by rw[bB (aJ.mp h').1];exact h'
def lJ{n:Nat}(h:jS S n=some xs):n<S.length:=(aJ.mp<|j_ h).1
def pB{n:Nat}(h:n<S.length):jS (S.set n<|.lst ys) n=some ys:=nB<|bE h
def nk{n:Nat}(h:n≠m):jS (S.set n<|.lst ys) m=jS S m:=by unfold jS;rw[bM h]
def Bp{xs:ae}{i:Int}{k:Nat}{x:A}(h:i=k)(hx:xs[k]?=some x):uY xs i=some x:=by rw[h];exact U0 hx
def yS{n:Nat}{i:Int}{k:Nat}(h:i=k)(hk:k<n):Em n i=some k:=by
 subst h;unfold Em;rw[aV (),aV ()];simp
end
structure Kp (b:Nat->Prop)(S S':jU):Prop where
 len:S.length<=S'.length
 obj:∀(n:Nat) (o:O),¬b n->S[n]?=some o->S'[n]?=some o
meta abbrev kZ:=Kp λ_=>False
def Kp.lst{b:Nat->Prop}(h:Kp b S S')(n:Nat)(xs:ae)(hb:¬b n)(e:jS S n=some xs):jS S' n=some xs:=nB<|h.obj n _ hb<|j_ e
def Kp.dct{b:Nat->Prop}(h:Kp b S S')(n:Nat)(xs:List<|ag×A)(hb:¬b n)(e:kc S n=some xs):kc S' n=some xs:=qo<|h.obj n _ hb<|mh e
def Kp.refl{b:Nat->Prop}:Kp b S S:=⟨aM _,λ_ _ _ h=>h⟩
def Kp.trans{b:Nat->Prop}(h:Kp b S S1)(h':Kp b S1 S2):Kp b S S2:=⟨bJ h.len h'.len,λn xs hb e=>h'.obj n xs hb<|h.obj n xs hb e⟩
def D7{S:jU}{n:Nat}(e:S[n]?=some o):n<S.length:=(aJ.mp e).1
def Kp.lay{b:Nat->Prop}{o:O}(h:Kp b S S1):Kp b S (S1++[o]):=⟨bJ h.len<|by simp,λn xs hb e=>by
 have:=h.obj n xs hb e;rw[bB<|D7 this];exact this⟩
def Kp.pT{b:Nat->Prop}{S S1:jU}(h:Kp b S S1)(hm:b m\/S.length<=m):Kp b S (S1.set m o):=⟨by rw[bU];exact h.len,λn xs hb e=>by
 have:m≠n:=λz=>by
  subst z
  rcases hm with z|z
  ·exact hb z
  ·exact absurd (D7 e) ()
 rw[bM this];exact h.obj n xs hb e⟩
def Kp.set{b:Nat->Prop}{S S1:jU}(h:Kp b S S1)(hm:b m\/S.length<=m):Kp b S (S1.set m<|.lst ys):=h.pT hm
def Kp.mono{b c:Nat->Prop}{S:jU}(h:Kp b S S1)(hb:∀n,n<S.length->b n->c n):Kp c S S1:=⟨h.len,λn xs hc e=>h.obj n xs (λz=>hc<|hb n (D7 e) z) e⟩
def Kp.of0{b:Nat->Prop}(h:kZ S S1):Kp b S S1:=h.mono λ_ _ z=>z.elim
def Kp.old{b c:Nat->Prop}{S:jU}(h:Kp b S S1)(h':Kp c S1 S2)(hc:∀n,n<S.length->¬b n->¬c n):Kp b S S2:=⟨bJ h.len h'.len,λn xs hb e=>h'.obj n xs (hc n (D7 e) hb)<|h.obj n xs hb e⟩
theorem Ay{t:Te}{c:Sm}(Inv:ae->jU->Prop)(μ:ae->jU->Nat)(Post:RS->Prop)
  (h:∀τ S,Inv τ S->(∃S1,t τ S=.ok false S1/\Post (.nx τ S1))\/(∃S1,t τ S=.ok true S1/\((∃τ' S',c τ S1=.nx τ' S'/\Inv τ' S'/\μ τ' S'<μ τ S)\/(∃a S',c τ S1=.rt a S'/\Post (.rt a S'))))) :
  ∀n τ S,Inv τ S->μ τ S<n->Post (lR t c n τ S)
 | 0,_,_,_,hn=>absurd hn (eB _)
 | n+1,τ,S,f,hn=>by
  unfold lR
  rcases h τ S f with⟨S1,e,q⟩|⟨S1,e,⟨τ',S',e2,d,g⟩|⟨a,S',e2,q⟩⟩
  ·rw[e];exact q
  ·rw[e];show Post (match c τ S1 with
    | .nx τ' S'=>lR t c n τ' S'
    | .ct τ' S'=>lR t c n τ' S'
    | .bk τ' S'=>.nx τ' S'
    | r=>r)
   rw[e2];exact Ay Inv μ Post h n τ' S' d ()
  ·rw[e];show Post (match c τ S1 with
    | .nx τ' S'=>lR t c n τ' S'
    | .ct τ' S'=>lR t c n τ' S'
    | .bk τ' S'=>.nx τ' S'
    | r=>r)
   rw[e2];exact q
theorem Dy{s:Src}{g:Tg}{c:Sm}(Inv:Nat->ae->jU->Prop)(Post:RS->Prop)
  (step:∀i τ S,i<s.k->Inv i τ S->∃x τ1 S1,s.get i S=some x/\g x τ S=.ok τ1 S1/\((∃τ' S',c τ1 S1=.nx τ' S'/\Inv (i+1) τ' S')\/(∃a S',c τ1 S1=.rt a S'/\Post (.rt a S'))))
  (fin:∀τ S,Inv s.k τ S->s.fin S=true/\Post (.nx τ S)):∀k i τ S,k+i=s.k->Inv i τ S->Post (sJ s g c k i τ S)
 | 0,i,τ,S,hk,hi=>by
  have:i=s.k:=()
  subst this;obtain⟨hf,q⟩:=fin τ S hi;unfold sJ;rw[aV hf];exact q
 | k+1,i,τ,S,hk,hi=>by
  obtain⟨x,τ1,S1,f,hg,h⟩:=step i τ S () hi;unfold sJ;rw[f];show Post (RS.of (g x τ S) λτ1 S1=>match c τ1 S1 with
   | .nx τ' S'=>sJ s g c k (i+1) τ' S'
   | .ct τ' S'=>sJ s g c k (i+1) τ' S'
   | .bk τ' S'=>.nx τ' S'
   | r=>r)
  rw[hg];show Post (match c τ1 S1 with
   | .nx τ' S'=>sJ s g c k (i+1) τ' S'
   | .ct τ' S'=>sJ s g c k (i+1) τ' S'
   | .bk τ' S'=>.nx τ' S'
   | r=>r)
  rcases h with⟨τ',S',e,d⟩|⟨a,S',e,q⟩
  ·rw[e];exact Dy Inv Post step fin k (i+1) τ' S' () d
  ·rw[e];exact q
def Ie{lo hi:Int}{c:Sm}{src:Ic}{τ:ae}(hs:src τ S=.ok (uo lo hi) S1)(Inv:Nat->ae->jU->Prop)(Post:RS->Prop)(h0:Inv 0 τ S1)
  (step:∀(i:Nat) τ S,(i:Int)<hi-lo->Inv i τ S->(∃τ' S',c (τ.set j<|.int<|lo+i) S=.nx τ' S'/\Inv (i+1) τ' S')\/(∃a S',c (τ.set j<|.int<|lo+i) S=.rt a S'/\Post (.rt a S')))
  (fin:∀τ S,Inv (hi-lo).toNat τ S->Post (.nx τ S)):Post (mC src (kB j) c τ S):=by
 unfold mC;rw[hs];refine Dy (s:=uo lo hi) Inv Post (λi τ S d h=>?_) (λτ S h=>⟨rfl,fin τ S h⟩) _ 0 τ S1 rfl h0;have d:i<(hi-lo).toNat:=d;exact⟨.int<|lo+i,_,S,aV d,rfl,step i τ S (by omega) h⟩
def Pw{xs:ae}{g:Tg}{c:Sm}{src:Ic}(hs:src τ S=.ok (FG xs) S1)(Inv:Nat->ae->jU->Prop)(Post:RS->Prop)(h0:Inv 0 τ S1)
  (step:∀(i:Nat) x τ S,xs[i]?=some x->Inv i τ S->∃τ1 S1,g (.tup [.int i,x]) τ S=.ok τ1 S1/\((∃τ' S',c τ1 S1=.nx τ' S'/\Inv (i+1) τ' S')\/(∃a S',c τ1 S1=.rt a S'/\Post (.rt a S'))))
  (fin:∀τ S,Inv xs.length τ S->Post (.nx τ S)):Post (mC src g c τ S):=by
 unfold mC;rw[hs];refine Dy (s:=FG xs) Inv Post (λi τ S d h=>?_) (λτ S h=>⟨rfl,fin τ S h⟩) _ 0 τ S1 rfl h0;have d:i<xs.length:=d;obtain⟨τ1,S1,e,q⟩:=step i xs[i] τ S (aI d) h;exact⟨.tup [.int i,xs[i]],τ1,S1,by show(xs[i]?).map _=_;rw[aI d];rfl,e,q⟩
def nK{n:Nat}{xs:ae}{g:Tg}{c:Sm}{src:Ic}(hs:src τ S=.ok (lU n xs.length) S1)(Inv:Nat->ae->jU->Prop)(Post:RS->Prop)(h0:Inv 0 τ S1)(hl:∀i τ S,Inv i τ S->jS S n=some xs)
  (step:∀(i:Nat) x τ S,xs[i]?=some x->Inv i τ S->∃τ1 S1,g x τ S=.ok τ1 S1/\((∃τ' S',c τ1 S1=.nx τ' S'/\Inv (i+1) τ' S')\/(∃a S',c τ1 S1=.rt a S'/\Post (.rt a S'))))
  (fin:∀τ S,Inv xs.length τ S->Post (.nx τ S)):Post (mC src g c τ S):=by
 unfold mC;rw[hs];refine Dy (s:=lU n xs.length) Inv Post (λi τ S d h=>?_) (λτ S h=>⟨?_,fin τ S h⟩) _ 0 τ S1 rfl h0
 ·have d:i<xs.length:=d;obtain⟨τ1,S1,e,q⟩:=step i xs[i] τ S (aI d) h;exact⟨xs[i],τ1,S1,by show(jS S n).bind _=_;rw[hl i τ S h];exact aI d,e,q⟩
 ·show(match jS S n with
   | some ys=>decide (ys.length<=xs.length)
   | none=>false)=true
  rw[hl _ τ S h];exact bf<|aM _
@[simp]def Bf {c:Ex}{τ:ae}{S S1:jU}{j:Int}(h:c τ S=.ok (.int j) S1)(hb:bnd j):tR c τ S=.ok (uo 0 j) S1:=by
 unfold tR;rw[h];exact o6 hb
def Av{c d:Ex}{i j:Int}(h:c τ S=.ok (.int i) S1)(h':d τ S1=.ok (.int j) S2)(hb:bnd i)(hb':bnd j):wJ c d τ S=.ok (uo i j) S2:=by
 unfold wJ;rw[h];show(d τ S1).bind _=_;rw[h'];exact o6 ⟨hb,hb'⟩
def lN{c:Ex}{n:Nat}{xs:ae}(h:c τ S=.ok (.ref n) S1)(hl:jS S1 n=some xs):kY c τ S=.ok (lU n xs.length) S1:=by
 unfold kY;rw[h];show opt (jS S1 n) _=_;rw[hl];rfl
def Rt{c:Ex}(h:c τ S=.ok (.tup xs) S1):Rv c τ S=.ok (FG xs) S1:=by unfold Rv;rw[h];rfl
theorem ya{s:Src}{g:Tg}{t:Te}{e:Ex}{P:jU->Prop}{T:ae->Prop}(it:Nat->A)(p:Nat->Bool)(f:Nat->A)
  (hget:∀i S,i<s.k->P S->s.get i S=some (it i)) (hfin:∀S,P S->s.fin S=true)
  (step:∀i τ S,i<s.k->T τ->P S->∃τ1 S1 S2,g (it i) τ S=.ok τ1 S1/\t τ1 S1=.ok (p i) S2/\T τ1/\(p i=false->P S2)/\(p i=true->∃S3,e τ1 S2=.ok (f i) S3/\P S3)) :
  ∀k i τ S,k+i=s.k->T τ->P S->∃S',mX s g t e k i τ S=.ok (((List.range' i k).filter p).map f) S'/\P S'
 | 0,i,τ,S,hk,hT,hP=>⟨S,by unfold mX;rw[aV<|hfin S hP];rfl,hP⟩
 | k+1,i,τ,S,hk,hT,hP=>by
  obtain⟨τ1,S1,S2,hg,B,d,F,q⟩:=step i τ S (by omega) hT hP;unfold mX;rw[hget i S (by omega) hP,j7,hg,R.kK,B,R.kK,List.range'_succ,dh]
  cases z:p i with
  | false=>
   obtain⟨S',h1,h2⟩:=ya it p f hget hfin step k (i+1) τ1 S2 (by omega) d<|F z;exact⟨S',by simpa using h1,h2⟩
  | true=>
   obtain⟨S3,C,j⟩:=q z;obtain⟨S',h1,h2⟩:=ya it p f hget hfin step k (i+1) τ1 S3 (by omega) d j;refine⟨S',?_,h2⟩
   skip
   rw[C,R.kK,h1];rfl
def yp{s:Src}{src:Ic}{t:Te}{e:Ex}{S1:jU}(hs:src τ S=.ok s S1)(it:Nat->A)(p:Nat->Bool)(f:Nat->A)(hget:∀i,i<s.k->s.get i S1=some (it i))(hfin:s.fin S1=true)
  (ht:∀i,i<s.k->t (it i::lG cap τ) S1=.ok (p i) S1) (he:∀i,i<s.k->p i=true->e (it i::lG cap τ) S1=.ok (f i) S1) (hl:s.k<=16777216) :
  kI (none::cap) src (kB 0) t e τ S=.ok (.ref S1.length) (S1++[.lst<|((List.range s.k).filter p).map f]):=by
 unfold kI;rw[hs,R.m9];obtain⟨z,h1,h2⟩:=ya (s:=s) (g:=kB 0) (t:=t) (e:=e) (P:=λS=>S=S1) (T:=λd=>∃y,d=y::lG cap τ) it p f (λi S j h=>by subst h;exact hget i j) (λS h=>by subst h;exact hfin)
  (λi d S j ⟨y,hy⟩ h=>by
   subst h hy;exact⟨it i::lG cap τ,S,S,rfl,ht i j,⟨_,rfl⟩,λ_=>rfl,λq=>⟨S,he i j q,rfl⟩⟩) s.k 0 (lG (none::cap) τ) S1 rfl ⟨_,rfl⟩ rfl
 subst h2;rw[h1,R.kK,gh];refine mR ?_;rw[aG];refine bJ (c9 _ _) ?_;rw[List.length_range'];exact hl
def nS{α β:Type}(xs:List α)(p:α->Bool)(f:α->β):∀(d:α) ,(((List.range xs.length).filter λi=>p<|xs.getD i d).map λi=>f<|xs.getD i d)=(xs.filter p).map f:=by
 intro d
 induction xs with
 | nil=>rfl
 | cons x xs j=>
  rw[bA,List.range_succ_eq_map,dh,dh];have e:((List.filter (λi=>p<|(x::xs).getD i d)<|List.map Nat.succ<|List.range xs.length).map λi=>f<|(x::xs).getD i d)=(xs.filter p).map f:=by
   rw[fW,bg];rw[<- j];rfl
  show List.map _ (if p x=true then _ else _)=List.map f (if p x=true then _ else _);by_cases g:p x=true
  ·rw[aV g,aV g,bC,bC,e];rfl
  ·rw[aR g,aR g,e]
def Rq{xs:ae}{src:Ic}{t:Te}{e:Ex}{S1:jU}(hs:src τ S=.ok (qO xs) S1)(p:A->Bool)(f:A->A)
  (ht:∀x∈xs,t (x::lG cap τ) S1=.ok (p x) S1) (he:∀x∈xs,p x=true->e (x::lG cap τ) S1=.ok (f x) S1) (hl:xs.length<=16777216) :
  kI (none::cap) src (kB 0) t e τ S=.ok (.ref S1.length) (S1++[.lst<|(xs.filter p).map f]):=by
 have g:∀i,i<xs.length->xs.getD i .unb∈xs:=λi d=>by
  rw[aK,aI d];exact di d
 rw[yp hs (λi=>xs.getD i .unb) (λi=>p<|xs.getD i .unb) (λi=>f<|xs.getD i .unb) (λi d=>by
  have d:i<xs.length:=d;show xs[i]?=_;rw[aK,aI d];rfl) rfl (λi d=>ht _<|g i d) (λi d=>he _<|g i d) hl]
 have:=nS xs p f .unb;show R.ok _ (S1++[O.lst<|((List.range xs.length).filter _).map _])=_;rw[this]
def AB{lo hi:Int}{src:Ic}{t:Te}{e:Ex}{S1:jU}(hs:src τ S=.ok (uo lo hi) S1)(p:Int->Bool)(f:Int->A)
  (ht:∀k,lo<=k->k<hi->t (.int k::lG cap τ) S1=.ok (p k) S1) (he:∀k,lo<=k->k<hi->p k=true->e (.int k::lG cap τ) S1=.ok (f k) S1) (hl:(hi-lo).toNat<=16777216) :
  kI (none::cap) src (kB 0) t e τ S=.ok (.ref S1.length) (S1++[.lst<|((mJ lo hi).filter p).map f]):=by
 rw[yp hs (λi=>.int<|lo+i) (λi=>p<|lo+i) (λi=>f<|lo+i) (λi d=>aV d) rfl (λi d=>ht _ () (by have:i<(hi-lo).toNat:=d;lia)) (λi d=>he _ () (by have:i<(hi-lo).toNat:=d;lia)) hl];unfold mJ;rw[fW,bg];rfl
@[simp]def Oi {cap:List<|bj}{τ:ae}:lG (none::cap) τ=.unb::lG cap τ:=rfl
@[simp]def Rx {cap:List<|bj}{τ:ae}{j:Nat}:lG (some j::cap) τ=τ.getD j .unb::lG cap τ:=rfl
@[simp]def Gn {τ:ae}:lG [] τ=[]:=rfl
theorem wH{x:A}:uY (x::xs) 0=some x:=Bp (k:=0) rfl rfl
def Px{x:A}:uY (x::y::xs) 1=some y:=Bp (k:=1) rfl rfl
def Eh{ns:ag}{i:Int}{k:Nat}{x:Int}(h:i=k)(hx:ns[k]?=some x):uY (ns.map A.int) i=some (.int x):=Bp h<|by rw[aO,hx];rfl
def uv{j:Int}(h:-4611686018427387904<=j)(h':j<4611686018427387904):bnd j:=⟨(),()⟩
def Pp{i j:Int}(h1:-1000000<=i)(h2:i<=1000000)(h3:-1000000<=j)(h4:j<=1000000)(h5:j-i<=1000):B0 i j:=⟨⟨(),(),(),()⟩,()⟩
theorem ints_map:∀(ns:ag),A.ints (ns.map .int)=some ns
 | []=>rfl
 | n::ns=>by show(A.ints<|ns.map .int).map (n::·)=_;rw[ints_map ns];rfl
theorem vR{n:Nat}:∀(xs ys:ag),tV (yg S<|n+1) (xs.map .int) (ys.map .int)=some (decide<|xs=ys)
 | [],[]=>rfl
 | [],_::_=>rfl
 | _::_,[]=>rfl
 | x::xs,y::ys=>by
  skip
  skip
  show Option.map _ (tV (yg S<|n+1) (xs.map .int)<|ys.map .int)=_;rw[vR xs ys]
  skip
  by_cases h1:x=y<;>by_cases h2:xs=ys<;>simp[h1,h2]
@[simp]def VY {S:jU}{x y:Bool}:wo false (.bl x) (.bl y) S=.ok (.bl<|x == y) S:=rfl
@[simp]def Wk {S:jU}{x y:Bool}:wo true (.bl x) (.bl y) S=.ok (.bl<|!(x == y)) S:=rfl
@[simp]def VN {S:jU}{x y:Int}:wo false (.int x) (.int y) S=.ok (.bl<|x == y) S:=rfl
@[simp]def Wa {S:jU}{x y:Int}:wo true (.int x) (.int y) S=.ok (.bl<|!(x == y)) S:=rfl
@[simp]def HS {S:jU}:Ho false .non .non S=.ok (.bl true) S:=rfl
@[simp]def Kw {S:jU}{xs:ae}:Ho false (.tup xs) .non S=.ok (.bl false) S:=rfl
@[simp]def J5 {S:jU}{n:Nat}:Ho false (.ref n) .non S=.ok (.bl false) S:=rfl
@[simp]def Ey {S:jU}:Ho true .non .non S=.ok (.bl false) S:=rfl
@[simp]def E6 {S:jU}{xs:ae}:Ho true (.tup xs) .non S=.ok (.bl true) S:=rfl
@[simp]def EM {S:jU}{n:Nat}:Ho true (.ref n) .non S=.ok (.bl true) S:=rfl
@[simp]def La {S:jU}{x:A}{c:String}:yw x (.ty c) S=opt (x.kd S) λk=>opt (Mz k c) λb=>.ok (.bl b) S:=rfl
@[simp]def V7 {S:jU}{b:Bool}:A.kd (.bl b) S=some .bl:=rfl
@[simp]def Pn {S:jU}{b:Int}:A.kd (.int b) S=some .int:=rfl
@[simp]def Nl {S:jU}{b:ae}:A.kd (.tup b) S=some .tup:=rfl
@[simp]def QI {S:jU}:A.kd .non S=some .non:=rfl
@[simp]def Qo {S:jU}{b:Str}:A.kd (.str b) S=some .str:=rfl
@[simp]def Nf {S:jU}{n:Nat}:A.kd (.ref n) S=(jS S n).map λ_=>.lst:=rfl
@[simp]def N6 {S:jU}:newL [] S=.ok (.ref S.length) (S++[.lst []]):=mR<|by simp
@[simp]def O9 {S:jU}{x0:A}:newL [x0] S=.ok (.ref S.length) (S++[.lst [x0]]):=mR<|by simp
@[simp]def Rw {S:jU}{x0 x1:A}:newL [x0,x1] S=.ok (.ref S.length) (S++[.lst [x0,x1]]):=mR<|by simp
@[simp]def NN {S:jU}{x0 x1 x2:A}:newL [x0,x1,x2] S=.ok (.ref S.length) (S++[.lst [x0,x1,x2]]):=mR<|by simp
@[simp]def O1 {S:jU}{x0 x1 x2 x3:A}:newL [x0,x1,x2,x3] S=.ok (.ref S.length) (S++[.lst [x0,x1,x2,x3]]):=mR<|by simp
@[simp]def P_ {S:jU}{x0 x1 x2 x3 x4:A}:newL [x0,x1,x2,x3,x4] S=.ok (.ref S.length) (S++[.lst [x0,x1,x2,x3,x4]]):=mR<|by simp
@[simp]def QA {S:jU}{x0 x1 x2 x3 x4 x5:A}:newL [x0,x1,x2,x3,x4,x5] S=.ok (.ref S.length) (S++[.lst [x0,x1,x2,x3,x4,x5]]):=mR<|by simp
@[simp]def O4 {S:jU}{x0 x1 x2 x3 x4 x5 x6:A}:newL [x0,x1,x2,x3,x4,x5,x6] S=.ok (.ref S.length) (S++[.lst [x0,x1,x2,x3,x4,x5,x6]]):=mR<|by simp
@[simp]def Qj {S:jU}{x0 x1 x2 x3 x4 x5 x6 x7:A}:newL [x0,x1,x2,x3,x4,x5,x6,x7] S=.ok (.ref S.length) (S++[.lst [x0,x1,x2,x3,x4,x5,x6,x7]]):=mR<|by simp
@[simp]def Oo {S:jU}{x0 x1 x2 x3 x4 x5 x6 x7 x8:A}:newL [x0,x1,x2,x3,x4,x5,x6,x7,x8] S=.ok (.ref S.length) (S++[.lst [x0,x1,x2,x3,x4,x5,x6,x7,x8]]):=mR<|by simp
@[simp]def Ir {S:jU}{x0 x1 x2 x3 x4 x5 x6 x7 x8 x9:A}:newL [x0,x1,x2,x3,x4,x5,x6,x7,x8,x9] S=.ok (.ref S.length) (S++[.lst [x0,x1,x2,x3,x4,x5,x6,x7,x8,x9]]):=mR<|by simp
theorem nZ{α:Type}{n:Nat}{r:R α}(h:n<=16777216):gd (n<=sizeLine) r=r:=o6<|by rw[eN];exact h
def pJ{α:Type}{n:Nat}{r:R α}(h:n<16777216):gd (n<sizeLine) r=r:=o6<|by rw[eN];exact h
def Vx {x:A}{xs:ae}:(x::xs).getD 0 .unb=x:=rfl
def Wi {x:A}{xs:ae}{n:Nat}:(x::xs).getD (n+1) .unb=xs.getD n .unb:=rfl
def abk {x y:A}{xs:ae}:(x::xs).set 0 y=y::xs:=rfl
def sets {x y:A}{xs:ae}{n:Nat}:(x::xs).set (n+1) y=x::xs.set n y:=rfl
def rep0 {x:A}:List.replicate 0 x=[]:=rfl
def reps {x:A}{n:Nat}:List.replicate (n+1) x=x::List.replicate n x:=rfl
def abl {x:A}{xs ys:ae}:(x::xs)++ys=x::(xs++ys):=rfl
def Z7 {ys:ae}:[]++ys=ys:=rfl
def Jq{S:jU}{n:Nat}{xs ys:ae}(h:jS S n=some xs)(h':jS S m=some ys)(hl:xs.length+ys.length<=16777216):nV (.ref n) (.ref m) S=.ok (.ref S.length) (S++[.lst<|xs++ys]):=by
 show opt (jS S n) _=_;rw[h,j7,h',j7];exact o6<|by rw[eN];exact hl
abbrev uV (x:A)(S:jU):R A:=bif x.pV then .no else .ok x S
def OS {xs:ae}{S:jU}:uV (.tup xs) S=.ok (.tup xs) S:=rfl
def Oq {xs:ae}{S:jU}:uV (.frz xs) S=.ok (.frz xs) S:=rfl
def Nj {i:Int}{S:jU}:uV (.int i) S=.ok (.int i) S:=rfl
def VP {b:Bool}{S:jU}:uV (.bl b) S=.ok (.bl b) S:=rfl
def O5 {s:Str}{S:jU}:uV (.str s) S=.ok (.str s) S:=rfl
def MN {n:Nat}{S:jU}:uV (.ref n) S=.ok (.ref n) S:=rfl
def QM  {S:jU}:uV (.non) S=.ok (.non) S:=rfl
def QH {i j:Int}{S:jU}:uV (.rng i j) S=.ok (.rng i j) S:=rfl
def Nk {s:Str}{S:jU}:uV (.exn s) S=.ok (.exn s) S:=rfl
def eV0 {x0:A}{xs:ae}{S:jU}:jQ 0 (x0::xs) S=uV x0 S:=qW
def eV1 {x0 x1:A}{xs:ae}{S:jU}:jQ 1 (x0::x1::xs) S=uV x1 S:=qW
def eV2 {x0 x1 x2:A}{xs:ae}{S:jU}:jQ 2 (x0::x1::x2::xs) S=uV x2 S:=qW
def eV3 {x0 x1 x2 x3:A}{xs:ae}{S:jU}:jQ 3 (x0::x1::x2::x3::xs) S=uV x3 S:=qW
def eV4 {x0 x1 x2 x3 x4:A}{xs:ae}{S:jU}:jQ 4 (x0::x1::x2::x3::x4::xs) S=uV x4 S:=qW
def eV5 {x0 x1 x2 x3 x4 x5:A}{xs:ae}{S:jU}:jQ 5 (x0::x1::x2::x3::x4::x5::xs) S=uV x5 S:=qW
def eV6 {x0 x1 x2 x3 x4 x5 x6:A}{xs:ae}{S:jU}:jQ 6 (x0::x1::x2::x3::x4::x5::x6::xs) S=uV x6 S:=qW
def eV7 {x0 x1 x2 x3 x4 x5 x6 x7:A}{xs:ae}{S:jU}:jQ 7 (x0::x1::x2::x3::x4::x5::x6::x7::xs) S=uV x7 S:=qW
def eV8 {x0 x1 x2 x3 x4 x5 x6 x7 x8:A}{xs:ae}{S:jU}:jQ 8 (x0::x1::x2::x3::x4::x5::x6::x7::x8::xs) S=uV x8 S:=qW
def gN0 {a x0:A}{xs:ae}{S:jU}:kB 0 a (x0::xs) S=.ok (a::xs) S:=rfl
def gN1 {a x0 x1:A}{xs:ae}{S:jU}:kB 1 a (x0::x1::xs) S=.ok (x0::a::xs) S:=rfl
def gN2 {a x0 x1 x2:A}{xs:ae}{S:jU}:kB 2 a (x0::x1::x2::xs) S=.ok (x0::x1::a::xs) S:=rfl
def gN3 {a x0 x1 x2 x3:A}{xs:ae}{S:jU}:kB 3 a (x0::x1::x2::x3::xs) S=.ok (x0::x1::x2::a::xs) S:=rfl
def gN4 {a x0 x1 x2 x3 x4:A}{xs:ae}{S:jU}:kB 4 a (x0::x1::x2::x3::x4::xs) S=.ok (x0::x1::x2::x3::a::xs) S:=rfl
def gN5 {a x0 x1 x2 x3 x4 x5:A}{xs:ae}{S:jU}:kB 5 a (x0::x1::x2::x3::x4::x5::xs) S=.ok (x0::x1::x2::x3::x4::a::xs) S:=rfl
def gN6 {a x0 x1 x2 x3 x4 x5 x6:A}{xs:ae}{S:jU}:kB 6 a (x0::x1::x2::x3::x4::x5::x6::xs) S=.ok (x0::x1::x2::x3::x4::x5::a::xs) S:=rfl
def gN7 {a x0 x1 x2 x3 x4 x5 x6 x7:A}{xs:ae}{S:jU}:kB 7 a (x0::x1::x2::x3::x4::x5::x6::x7::xs) S=.ok (x0::x1::x2::x3::x4::x5::x6::a::xs) S:=rfl
def gN8 {a x0 x1 x2 x3 x4 x5 x6 x7 x8:A}{xs:ae}{S:jU}:kB 8 a (x0::x1::x2::x3::x4::x5::x6::x7::x8::xs) S=.ok (x0::x1::x2::x3::x4::x5::x6::x7::a::xs) S:=rfl
def kC:type_of% (anI @R.m9<|anI @R.Lb<|anI @R.kK<|anI @RS.of_ok<|anI @RS.Vz<|anI @j7<|anI @I_<|anI @eV0<|anI @eV1<|anI @eV2<|anI @eV3<|anI @eV4<|anI @eV5<|anI @eV6<|anI @eV7<|anI @eV8<|anI @OS<|anI @Oq<|anI @Nj<|anI @VP<|anI @O5<|anI @MN<|anI @QM<|anI @QH<|anI @Nk<|anI @Ji<|anI @Jv<|anI @Kg<|anI @O2<|anI @Ii<|anI @Il<|anI @J6<|anI @Ko<|anI @KL<|anI @VS<|anI @KY<|anI @Rk<|anI @IG<|anI @Wb<|anI @Qg<|anI @IC<|anI @J4<|anI @Qn<|anI @Jx<|anI @HR<|anI @Kr<|anI @Pe<|anI @Oj<|anI @JQ<|anI @Sf<|anI @FT<|anI @Jw<|anI @Si<|anI @KP<|anI @Fv<|anI @IY<|anI @Kx<|anI @E7<|anI @QU<|anI @Ro<|anI @Wn<|anI @V_<|anI @Q9<|anI @FU<|anI @IX<|anI @F2<|anI @Og<|anI @Kf<|anI @lst?_ref<|anI @RS.M9<|anI @RS.OJ<|anI @RS.Pu<|anI @RS.Rc<|anI @RS.Qq<|anI @IT<|anI @Kz<|anI @Cg<|anI @FI<|anI @E3<|anI @JJ<|anI @F1<|anI @Rp<|anI @KJ<|anI @gN0<|anI @gN1<|anI @gN2<|anI @gN3<|anI @gN4<|anI @gN5<|anI @gN6<|anI @gN7<|anI @gN8<|anI @Pf<|anI @QL<|anI @Sd<|anI @NB<|anI @MY<|anI @KS<|anI @KG<|anI @EE<|anI @RS.N_<|anI @RS.Ou<|anI @RS.RW<|anI @Q_<|anI @Nr<|anI @QC<|anI @VQ<|anI @VC<|anI @Vy<|anI @VX<|anI @Wo<|anI @Ny<|anI @R_<|anI @Ol<|anI @NS<|anI @OG<|anI @PV<|anI @Jb<|anI @Kv<|anI @Iq<|anI @J9<|anI @BP<|anI @V6<|anI @VI<|anI @VH<|anI @PF<|anI @Qh<|anI @Iw<|anI @K5<|anI @JM<|anI @Fq<|anI @Fj<|anI @PO<|anI @NF<|anI @Wt<|anI @Bb<|anI @Qc<|anI @JF<|anI @j9<|anI @Oi<|anI @Rx<|anI @Gn<|anI @VY<|anI @Wk<|anI @VN<|anI @Wa<|anI @HS<|anI @Kw<|anI @J5<|anI @Ey<|anI @E6<|anI @EM<|anI @La<|anI @V7<|anI @Pn<|anI @Nl<|anI @QI<|anI @Qo<|anI @Nf<|anI @N6<|anI @O9<|anI @Rw<|anI @NN<|anI @O1<|anI @P_<|anI @QA<|anI @O4<|anI @Qj<|anI @Oo<|anI @Ir<|anI @Vx<|anI @Wi<|anI @abk<|anI @sets<|anI @rep0<|anI @reps<|anI @abl<|anI @Z7<|anI @xO<|anI @KQ<|anI @NY<|anI @Q8<|anI @V4<|anI @V8<|anI @RC<|anI @OV<|anI @BQ<|anI @E1<|anI @Rb<|anI @Ib<|anI @RQ<|anI @JN<|anI @Oc<|anI @VG<|anI @VO<|anI @IW<|anI @Kq<|anI @OL<|anI @F6<|anI @JV<|anI @MM<|anI @Qm<|anI @NR<|anI @M0<|@Pa):=anI @R.m9<|anI @R.Lb<|anI @R.kK<|anI @RS.of_ok<|anI @RS.Vz<|anI @j7<|anI @I_<|anI @eV0<|anI @eV1<|anI @eV2<|anI @eV3<|anI @eV4<|anI @eV5<|anI @eV6<|anI @eV7<|anI @eV8<|anI @OS<|anI @Oq<|anI @Nj<|anI @VP<|anI @O5<|anI @MN<|anI @QM<|anI @QH<|anI @Nk<|anI @Ji<|anI @Jv<|anI @Kg<|anI @O2<|anI @Ii<|anI @Il<|anI @J6<|anI @Ko<|anI @KL<|anI @VS<|anI @KY<|anI @Rk<|anI @IG<|anI @Wb<|anI @Qg<|anI @IC<|anI @J4<|anI @Qn<|anI @Jx<|anI @HR<|anI @Kr<|anI @Pe<|anI @Oj<|anI @JQ<|anI @Sf<|anI @FT<|anI @Jw<|anI @Si<|anI @KP<|anI @Fv<|anI @IY<|anI @Kx<|anI @E7<|anI @QU<|anI @Ro<|anI @Wn<|anI @V_<|anI @Q9<|anI @FU<|anI @IX<|anI @F2<|anI @Og<|anI @Kf<|anI @lst?_ref<|anI @RS.M9<|anI @RS.OJ<|anI @RS.Pu<|anI @RS.Rc<|anI @RS.Qq<|anI @IT<|anI @Kz<|anI @Cg<|anI @FI<|anI @E3<|anI @JJ<|anI @F1<|anI @Rp<|anI @KJ<|anI @gN0<|anI @gN1<|anI @gN2<|anI @gN3<|anI @gN4<|anI @gN5<|anI @gN6<|anI @gN7<|anI @gN8<|anI @Pf<|anI @QL<|anI @Sd<|anI @NB<|anI @MY<|anI @KS<|anI @KG<|anI @EE<|anI @RS.N_<|anI @RS.Ou<|anI @RS.RW<|anI @Q_<|anI @Nr<|anI @QC<|anI @VQ<|anI @VC<|anI @Vy<|anI @VX<|anI @Wo<|anI @Ny<|anI @R_<|anI @Ol<|anI @NS<|anI @OG<|anI @PV<|anI @Jb<|anI @Kv<|anI @Iq<|anI @J9<|anI @BP<|anI @V6<|anI @VI<|anI @VH<|anI @PF<|anI @Qh<|anI @Iw<|anI @K5<|anI @JM<|anI @Fq<|anI @Fj<|anI @PO<|anI @NF<|anI @Wt<|anI @Bb<|anI @Qc<|anI @JF<|anI @j9<|anI @Oi<|anI @Rx<|anI @Gn<|anI @VY<|anI @Wk<|anI @VN<|anI @Wa<|anI @HS<|anI @Kw<|anI @J5<|anI @Ey<|anI @E6<|anI @EM<|anI @La<|anI @V7<|anI @Pn<|anI @Nl<|anI @QI<|anI @Qo<|anI @Nf<|anI @N6<|anI @O9<|anI @Rw<|anI @NN<|anI @O1<|anI @P_<|anI @QA<|anI @O4<|anI @Qj<|anI @Oo<|anI @Ir<|anI @Vx<|anI @Wi<|anI @abk<|anI @sets<|anI @rep0<|anI @reps<|anI @abl<|anI @Z7<|anI @xO<|anI @KQ<|anI @NY<|anI @Q8<|anI @V4<|anI @V8<|anI @RC<|anI @OV<|anI @BQ<|anI @E1<|anI @Rb<|anI @Ib<|anI @RQ<|anI @JN<|anI @Oc<|anI @VG<|anI @VO<|anI @IW<|anI @Kq<|anI @OL<|anI @F6<|anI @JV<|anI @MM<|anI @Qm<|anI @NR<|anI @M0<|@Pa
def bools:(∀b:Bool,cond false b b=b)/\(∀(α:Type) (x y:α),cond false x y=y)/\(∀(α:Type) (x y:α),cond true x y=x):=⟨λ_=>rfl,λ_ _ _=>rfl,λ_ _ _=>rfl⟩
def nq:(∀(x:Str) (xs:ar),(x::xs).length=xs.length+1)/\([]:ar).length=0/\(∀(x:A) (xs:ae),(x::xs).length=xs.length+1)/\([]:ae).length=0:=⟨λ_ _=>rfl,rfl,λ_ _=>rfl,rfl⟩
section
variable {τ:ae}{S:jU}
def Jk {f:ae->jU->R A}{d:sW}:acX f d τ S=(d τ S).bind f:=rfl
abbrev kRz (c:Str):Unit->jU->RS:=λ_ S1=>.ex c S1
def RA {c:Str}{u:Unit}:kRz c u S=.ex c S:=rfl
def BO {c:Str}{ps:List<|Str ⊕ Ex}:WG c ps τ S=RS.of (Tv ps τ S) (kRz c):=rfl
def JE:Tv [] τ S=.ok Unit.unit S:=rfl
def IE {x:Str}{ps:List<|Str ⊕ Ex}:Tv (.inl x::ps) τ S=Tv ps τ S:=rfl
abbrev kFs (ps:List<|Str ⊕ Ex)(τ:ae):A->jU->R Unit:=λv S1=>match v with
 | .int i=>gd (i.natAbs.log2<64) (Tv ps τ S1)
 | _=>.no
def KR {e:Ex}{ps:List<|Str ⊕ Ex}:Tv (.inr e::ps) τ S=(e τ S).bind (kFs ps τ):=rfl
abbrev RS.try (i n:Nat)(cs:ar)(d:Sm):RS->RS
 | .ex x S1=>if x∈cs then VU i (d ((List.replicate n .unb).set i<|.exn x) S1)else .no
 | r=>r
def JL {i n:Nat}{cs:ar}{c d:Sm}:Z8 i n cs c d τ S=RS.try i n cs d (c τ S):=by
 unfold Z8 RS.try;cases c τ S<;>rfl
def O_ {i n:Nat}{cs:ar}{d:Sm}:RS.try i n cs d (.nx τ S)=.nx τ S:=rfl
def OH {i n:Nat}{cs:ar}{d:Sm}{a:A}:RS.try i n cs d (.rt a S)=.rt a S:=rfl
def RH {i n:Nat}{x:Str}{cs:ar}{d:Sm}:RS.try i n (x::cs) d (.ex x S)=VU i (d ((List.replicate n .unb).set i<|.exn x) S):=aV<|.head _
def OB {i:Nat}{a:A}:VU i (.rt a S)=.rt a S:=rfl
def N9 {i:Nat}:VU i (.nx τ S)=.nx (τ.set i .unb) S:=rfl
abbrev abp (f:Str->bi):A->jU->R A:=λv S1=>match v with
 | .exn x=>opt (f x) λb=>.ok (.bl b) S1
 | _=>.no
def JU {f:Str->bi}{c:Ex}:ab4 f c τ S=(c τ S).bind (abp f):=rfl
def Pg {x:Str}{b:Bool}{tb:List<|Str×Bool}:abp (tbX ((x,b)::tb)) (.exn x) S=.ok (.bl b) S:=by
 show opt (List.lookup x ((x,b)::tb)) _=_;rw[eO,c5];rfl
abbrev R.PL {α β:Type}(r:R α)(f:α->jU->R β):R β:=match r with
 | .ok a S=>f a S
 | _=>.no
def Ga {α β:Type}{a:α}{f:α->jU->R β}:R.PL (.ok a S) f=f a S:=rfl
def Jh {f:ae->jU->R A}{d:sW}:ZO f d τ S=R.PL (d τ S) f:=by unfold ZO R.PL;cases d τ S<;>rfl
abbrev RS.ofK {α:Type}(r:R α)(f:α->jU->RS):RS:=match r with
 | .ok a S=>f a S
 | _=>.no
def Qv {α:Type}{a:α}{f:α->jU->RS}:RS.ofK (.ok a S) f=f a S:=rfl
def Je {t:Te}{c d:Sm}:aaD t c d τ S=RS.ofK (t τ S) (kIf c d τ):=by
 unfold aaD RS.ofK
 cases t τ S with
 | ok b S1=>cases b<;>rfl
 | ex _ _=>rfl
 | no=>rfl
abbrev RS.PJ (i:Nat)(cs:ar)(d:Sm)(τ:ae):RS->RS
 | .ex x S1=>if x∈cs then VU i (d (τ.set i<|.exn x) S1)else .no
 | r=>r
def F7 {i:Nat}{cs:ar}{c d:Sm}:Wr i cs c d τ S=RS.PJ i cs d τ (c τ S):=by
 unfold Wr RS.PJ;cases c τ S<;>rfl
def HV {i:Nat}{cs:ar}{d:Sm}{τ':ae}:RS.PJ i cs d τ (.nx τ' S)=.nx τ' S:=rfl
def JP {i:Nat}{cs:ar}{d:Sm}{a:A}:RS.PJ i cs d τ (.rt a S)=.rt a S:=rfl
def JG {i:Nat}{x:Str}{cs:ar}{d:Sm}:RS.PJ i (x::cs) d τ (.ex x S)=VU i (d (τ.set i<|.exn x) S):=aV<|.head _
def Gj:A.G6 []=some []:=rfl
def Cp {b:Bool}{xs:ae}:A.G6 (.bl b::xs)=(A.G6 xs).map (b::·):=rfl
end
def l6:type_of% (anI @Jk<|anI @BO<|anI @RA<|anI @JE<|anI @IE<|anI @KR<|anI @JL<|anI @O_<|anI @OH<|anI @RH<|anI @OB<|anI @N9<|anI @JU<|anI @Pg<|anI @Gj<|anI @Cp<|anI @Ga<|anI @Jh<|anI @Qv<|anI @Je<|anI @F7<|anI @HV<|anI @JP<|anI @JG<|trivial):=anI @Jk<|anI @BO<|anI @RA<|anI @JE<|anI @IE<|anI @KR<|anI @JL<|anI @O_<|anI @OH<|anI @RH<|anI @OB<|anI @N9<|anI @JU<|anI @Pg<|anI @Gj<|anI @Cp<|anI @Ga<|anI @Jh<|anI @Qv<|anI @Je<|anI @F7<|anI @HV<|anI @JP<|anI @JG<|trivial
end Am
namespace Am
open PySem PySem.Spec PyProof.Rows L2
abbrev Df (K:au)(x:Str)(st:aF):Prop:=∃(f:ak) (fd:FuncData),PySem.W.nsIn K mainGlobals x=some (some<|.ref f)/\Fun K x x st f fd
inductive En (P:aj) (w:ah) (K:au) (mg:Str->bd) (base:aq):Prop
 | mk (h:aq) (X:K.In h) (G:h.Ns mainGlobals mg)
section
variable {P:aj}{w:ah}{K:au}{mg:Str->bd}{base:aq}{x:Str}{st:aF}{ps:ar}{k:Nat}{F:ae->jU->R A}
def En.at(E:En P w K mg base){f:ak}(h:PySem.W.nsIn K mainGlobals x=some (some<|.ref f)):mg x=some (.ref f):=by
 obtain⟨_,X,G⟩:=E;exact jy X G h
def Df.of{f:ak}{kV pm ct:af}(a:PySem.W.nsIn K mainGlobals x=some (some<|.ref f))(l:K.lookup f=some ⟨oc,od,.func<|PySem.W.fnOf x x (vZ st) (sQ st) (j8 st) .none kV doc pm an cdv ct,osl⟩)(c:PySem.W.codeIn K cdv x=true)(k:PySem.W.keepIn K (.ref f)=true):Df K x st:=⟨f,_,a,YH l c k⟩
meta abbrev Bi (x:Str)(st:aF)(ps:ar):Prop:=∀us:ba,us.length=ps.length->∀(kV f g:af) (j:Option ak) (d ct:af),bindArgs (PySem.W.fnOf x x (vZ st) (sQ st) (j8 st) .none kV f g j d ct) ⟨us,[]⟩=pure (ps.zip us)
def Df.get(d:Df K x st)(E:En P w K mg base)(b:Bi x st ps):∃f fd,Fun K x x st f fd/\mg x=some (.ref f)/\PySem.W.keepIn K (.ref f)=true/\Binds K fd ps []:=by
 obtain⟨f,fd,a,F⟩:=d;exact⟨f,fd,F,E.at a,F.kp,F.binds λkV j p k g ct us q=>b us q kV j p k g ct⟩
def Df.kA(d:Df K x st)(E:En P w K mg base)(h:∀{f fd},Fun K x x st f fd->FnOk P w K mg base qz k f fd ps (rC K ps.length F))(b:Bi x st ps):nY P w K mg base k x ps F:=by
 obtain⟨f,fd,a,c,e,g⟩:=d.get E b;exact⟨f,fd,h a,c,e,g⟩
def Df.rA(d:Df K x st)(E:En P w K mg base)(h:∀{f fd},Fun K x x st f fd->mg x=some (.ref f)->PySem.W.keepIn K (.ref f)=true->Binds K fd ps []->FnOk P w K mg base qz k f fd ps (rC K ps.length F))(b:Bi x st ps):nY P w K mg base k x ps F:=by
 obtain⟨f,fd,a,c,e,g⟩:=d.get E b;exact⟨f,fd,h a c e g,c,e,g⟩
end
section
variable {X:Cx}{pos p:Pos}{e1 e2 e3:aE}{x p1 p2 p3:Str}{k K0:Nat}{F:ae->jU->R A}{c1 c2 c3:Ex}
def wA(G:nY X.prog X.w X.K X.mg X.base k x [p1] F)(hr:Room K0 X.A)(h1:AE X e1 c1)(hk:k<=K0:=by decide)(hg:Gl X x:=by rfl)(hdb:(x == ("__debug__" : Str))=false:=by decide)(s1:starEach [e1] X.env=(false,eval e1 X.env)::starEach [] X.env:=by rfl)(hp:(backTo pos<|starEach [] X.env).any (·.1)=false:=by rfl):AE X (.Call (.Name x p) [e1] [] pos) (eFn F<|jR c1 jW):=sq G (hr.mono hk) (jT h1 j3 s1) (kF nh) hg hdb s1 hp
def Gp(G:nY X.prog X.w X.K X.mg X.base k x [p1,p2] F)(hr:Room K0 X.A)(h1:AE X e1 c1)(h2:AE X e2 c2)(hk:k<=K0:=by decide)(hg:Gl X x:=by rfl)(hdb:(x == ("__debug__" : Str))=false:=by decide)(s1:starEach [e1,e2] X.env=(false,eval e1 X.env)::starEach [e2] X.env:=by rfl)(s2:starEach [e2] X.env=(false,eval e2 X.env)::starEach [] X.env:=by rfl)(hp:(backTo pos<|starEach [e2] X.env).any (·.1)=false:=by rfl):AE X (.Call (.Name x p) [e1,e2] [] pos) (eFn F<|jR c1<|jR c2 jW):=sq G (hr.mono hk) (jT h1 (jT h2 j3 s2) s1) (kF<|kF nh) hg hdb s1 hp
def fn3(G:nY X.prog X.w X.K X.mg X.base k x [p1,p2,p3] F)(hr:Room K0 X.A)(h1:AE X e1 c1)(h2:AE X e2 c2)(h3:AE X e3 c3)(hk:k<=K0:=by decide)(hg:Gl X x:=by rfl)(hdb:(x == ("__debug__" : Str))=false:=by decide)(s1:starEach [e1,e2,e3] X.env=(false,eval e1 X.env)::starEach [e2,e3] X.env:=by rfl)(s2:starEach [e2,e3] X.env=(false,eval e2 X.env)::starEach [e3] X.env:=by rfl)(s3:starEach [e3] X.env=(false,eval e3 X.env)::starEach [] X.env:=by rfl)(hp:(backTo pos<|starEach [e2,e3] X.env).any (·.1)=false:=by rfl):AE X (.Call (.Name x p) [e1,e2,e3] [] pos) (eFn F<|jR c1<|jR c2<|jR c3 jW):=sq G (hr.mono hk) (jT h1 (jT h2 (jT h3 j3 s3) s2) s1) (kF<|kF<|kF nh) hg hdb s1 hp
def uc{N P:ar}{sc:Scope}(a:sc.kind=.function)(b:sc.isCoroutine=false)(c:sc.isGenerator=false)(h:N.Nodup/\N.take P.length=P/\(∀x∈P,sc.names.lookup x=some .local\/sc.names.lookup x=some .cell)/\∀y∈sc.names,y.2≠.free):FnScope N P sc:=⟨a,b,c,h.1,h.2.1,h.2.2.1,h.2.2.2⟩
end
abbrev mY (S:jU)(n:Nat):Option (List<|Int×A):=match S[n]? with
 | some (.qQ xs)=>some xs
 | _=>none
def rj{n:Nat}(h:mY S n=some xs):S[n]?=some (.qQ xs):=by
 unfold mY at h;split at h
 ·rename_i e;cases h;exact e
 ·cases h
def C9{S:jU}{n:Nat}(h:S[n]?=some (.qQ xs)):mY S n=some xs:=by
 unfold mY;rw[h]
abbrev oz (kvs:List<|Int×A)(k:Int):Option A:=(kvs.find? λkv=>decide<|kv.1=k).map (·.2)
abbrev yh (kvs:List<|Int×A)(k:Int)(v:A):List (Int×A):=
 if (oz kvs k).isSome=true then kvs.map (λkv=>if kv.1=k then(kv.1,v)else kv)else kvs++[(k,v)]
section
variable {K:au}{ρ:bb}{H:Hp}
def MD{p:Int×A}{r:List<|Int×A}{k:Int}(e:p.1=k):oz (p::r) k=some p.2:=by simp[oz,cj,e]
def LG{p:Int×A}{r:List<|Int×A}{k:Int}(e:¬p.1=k):oz (p::r) k=oz r k:=by simp[oz,cj,e]
def ZJ{a b:Int}(e:(Sum.inl a:Key)=Sum.inl b):a=b:=by injection e
theorem DI.look:∀{kvs:List<|Int×A}{ks:List<|Key×V}(k:Int),DI K ρ H kvs ks->(oz kvs k).isSome=(qX ks (Sum.inl k:Key)).isSome/\∀x,oz kvs k=some x->∃v,qX ks (Sum.inl k:Key)=some v/\AV K ρ H x v
 | [],[],k,_=>⟨rfl,λx h=>nomatch h⟩
 | p::r,q::r',k,⟨⟨e,a⟩,t⟩=>by
  by_cases c:p.1=k
  ·have d:q.1=(Sum.inl k:Key):=by rw[e,c]
   rw[MD c,vt d];exact⟨rfl,λx h=>by cases h;exact⟨_,rfl,a⟩⟩
  ·have d:¬q.1=(Sum.inl k:Key):=λz=>c<|ZJ<|e.symm.trans z;rw[LG c,vH d];exact DI.look k t
theorem DI.repl{x:A}{v:V}(h:AV K ρ H x v)(k:Int):∀{kvs:List<|Int×A}{ks:List<|Key×V},DI K ρ H kvs ks->DI K ρ H (kvs.map λkv=>if kv.1=k then(kv.1,x)else kv) (ks.map λkv=>if kv.1=(Sum.inl k:Key)then(kv.1,v)else kv)
 | [],[],_=>trivial
 | p::r,q::r',⟨⟨e,a⟩,t⟩=>by
  refine⟨?_,DI.repl h k t⟩;dsimp only;by_cases c:p.1=k
  ·rw[aV c,aV<|by rw[e,c]];exact⟨e,h⟩
  ·rw[aR c,aR λz=>c<|ZJ<|e.symm.trans z];exact⟨e,a⟩
theorem DI.snoc{x:A}{v:V}(h:AV K ρ H x v)(k:Int):∀{kvs:List<|Int×A}{ks:List<|Key×V},DI K ρ H kvs ks->DI K ρ H (kvs++[(k,x)]) (ks++[(Sum.inl k,v)])
 | [],[],_=>⟨⟨rfl,h⟩,trivial⟩
 | p::r,q::r',⟨a,t⟩=>⟨a,DI.snoc h k t⟩
def DI.put{x:A}{v:V}(h:AV K ρ H x v)(k:Int){ks:List<|Key×V}(d:DI K ρ H kvs ks):DI K ρ H (yh kvs k x) (putK ks (Sum.inl k:Key) v):=by
 unfold yh putK;rw[xV,<- (d.look k).1];by_cases c:(oz kvs k).isSome=true
 ·rw[aV c,aV c];exact DI.repl h k d
 ·rw[aR c,aR c];exact DI.snoc h k d
def DI.length:∀{kvs:List<|Int×A}{ks:List<|Key×V},DI K ρ H kvs ks->kvs.length=ks.length
 | [],[],_=>rfl
 | _::_,_::_,⟨_,t⟩=>cV (·+1) t.length
theorem DI.keys:∀{kvs:List<|Int×A}{ks:List<|Key×V},DI K ρ H kvs ks->ks.map (·.1)=kvs.map λkv=>(Sum.inl kv.1:Key)
 | [],[],_=>rfl
 | _::_,_::_,⟨⟨e,_⟩,t⟩=>by rw[bC,bC,e,DI.keys t]
def Rel.qQ{n:Nat}{a:ak}(R:Rel K ρ H S)(ha:ρ[n]?=some a)(hS:S[n]?=some (.qQ xs)):∃vs,H a=some (.dK vs)/\DI K ρ H xs vs:=R.at n a _ ha hS
def Rel.ZM{S:jU}{p:ak}(R:Rel K ρ H S)(hp:H p=none)(r:DI K ρ H xs vs):Ext ρ (ρ++[p]) H (upd H p<|.dK vs)/\Rel K (ρ++[p]) (upd H p<|.dK vs) (S++[.qQ xs])/\(ρ++[p])[S.length]?=some p:=by
 have ex:Ext ρ (ρ++[p]) H (upd H p<|.dK vs):=⟨⟨dY _ _,λa u _ h=>by rw[j0<|kh h hp];exact h⟩,λa u h _=>by rw[j0<|kh h hp];exact h,λa h=>by
  rcases bG.mp h with z|z
  ·exact .inl z
  ·have e:a=p:=by simpa using z
   rw[e];exact .inr hp⟩
 have j:p∉ρ:=R.F5 hp;have d:(ρ++[p])[S.length]?=some p:=by rw[<- R.len];simp
 refine⟨ex,⟨by simp[R.len],?_,?_⟩,d⟩
 ·rw[cy];f_are;have:b=p:=by simpa using hb
  exact j<|by rw[<- this,<- e];exact ha
 ·intro n a o h1 h2;by_cases hn:n<S.length
  ·rw[bB<|by rw[R.len];exact hn]at h1;rw[bB hn]at h2;have na:a≠p:=λz=>j (by rw[<- z];exact a_ h1);have:=R.at n a o h1 h2
   cases o with
   | lst ys=>obtain⟨f,e,q⟩:=this;exact⟨f,by rw[j0 na];exact e,q.ext ex⟩
   | dct _|qQ _|vW _=>obtain⟨f,e,q⟩:=this;exact⟨f,by rw[j0 na];exact e,q.ext ex⟩
   | dcf _=>obtain⟨g,f,e,q⟩:=this;exact⟨g,f,by rw[j0 na];exact e,q.ext ex⟩
   | ins _ _=>obtain⟨g,k,e⟩:=this;exact⟨g,k,by rw[j0 na];exact e⟩
  ·have e:n=S.length:=by
    have:=(aJ.mp h2).1;simp at this
    lia
   subst e;rw[d]at h1
   cases h1
   simp at h2;subst h2;exact⟨vs,kQ,r.ext ex⟩
def Rel.yh{S:jU}{n:Nat}{a:ak}(R:Rel K ρ H S)(ha:ρ[n]?=some a)(hS:S[n]?=some (.qQ xs))(r:DI K ρ H ys ws):Ext ρ ρ H (upd H a<|.dK ws)/\Rel K ρ (upd H a<|.dK ws) (S.set n<|.qQ ys):=by
 obtain⟨t,e,_⟩:=R.at n a _ ha hS;have ex:Ext ρ ρ H (upd H a<|.dK ws):=⟨⟨dX _,λb u i h=>by
  have:b≠a:=by
   intro z;subst z;rw[e]at h;cases h;exact i
  rw[j0 this];exact h⟩,λb u h n=>by
  rw[j0 λz=>n<|by rw[z];exact a_ ha];exact h,λ_ h=>.inl h⟩
 refine⟨ex,by rw[bU];exact R.len,R.nd,λm b o h1 h2=>?_⟩;by_cases g:m=n
 ·subst g;rw[ha]at h1;cases h1;rw[bE (aJ.mp hS).1]at h2
  cases h2
  exact⟨ws,kQ,r.ext ex⟩
 ·rw[bM<|cR g]at h2;have nb:b≠a:=λz=>by
   subst z;obtain⟨p,e1⟩:=aJ.mp ha;obtain⟨B,e2⟩:=aJ.mp h1;exact g<|(cg R.nd).mp<|e2.trans e1.symm
  have:=R.at m b o h1 h2
  cases o with
  | lst ys=>obtain⟨d,f,q⟩:=this;exact⟨d,by rw[j0 nb];exact f,q.ext ex⟩
  | dct _|qQ _|vW _=>obtain⟨d,f,q⟩:=this;exact⟨d,by rw[j0 nb];exact f,q.ext ex⟩
  | dcf _=>obtain⟨j,d,f,q⟩:=this;exact⟨j,d,by rw[j0 nb];exact f,q.ext ex⟩
  | ins _ _=>obtain⟨j,k,f⟩:=this;exact⟨j,k,by rw[j0 nb];exact f⟩
end
section
variable {X:Cx}{pos:Pos}{a b:aE}
abbrev zZ (x y:A)(S:jU):R A:=match x,y with
 | .ref n,.int k=>opt (mY S n) λkvs=>opt (oz kvs k) λv=>.ok v S
 | _,_=>.no
def Mq{x:A}{P:A->jU->Prop}{E:Str->jU->Prop}(h:(zZ x y S).post P E):∃n k kvs v,x=.ref n/\y=.int k/\mY S n=some kvs/\oz kvs k=some v/\P v S:=by
 unfold zZ at h;split at h
 ·obtain⟨kvs,h1,h⟩:=jY h;obtain⟨v,h2,h⟩:=jY h;exact⟨_,_,kvs,v,rfl,rfl,h1,h2,h⟩
 ·exact h.elim
def abg(hu:X.A.units+64<cLine):Uq X (r2 X zZ):=λj f pins s σ H x y v u Q I rx ry ⟨ρ,S,a,b,R,va,vb,h⟩ hs=>by
 obtain⟨n,k,kvs,z,ha,hb,hn,q,hP⟩:=Mq h;subst ha hb
 cases vb
 cases va with
 | @ref p _ B=>
  obtain⟨ks,e,d⟩:=R.qQ B<|rj hn;obtain⟨w,hw,t⟩:=(d.look k).2 z q;have g:uX H p (kV<|Sum.inl k) (qX ks<|Sum.inl k):=uX.k e;rw[hw]at g;exact DM () j f pins s σ H _ _ v u Q I rx ry ⟨p,w,rfl,g,hP _ _ _ .refl R t⟩ hs
def MS(hu:X.A.units+64<cLine){ca cb:Ex}(ha:AE X a ca)(hb:AE X b cb)(hs:xH b:=by exact λ_ _=>rfl):AE X (.Subscript a b pos) (j4 zZ ca cb):=PE.imp (Jr (abg hu) ha hb hs) λσ H Q h=>ux h
abbrev B3 (o i v:A)(S:jU):R Unit:=match o,i with
 | .ref n,.int k=>opt (mY S n) λkvs=>gd (kvs.length<sizeLine) (.ok Unit.unit<|S.set n<|.qQ<|yh kvs k v)
 | _,_=>.no
def Hi{x v:A}{S:jU}{P:Unit->jU->Prop}{E:Str->jU->Prop}(h:(B3 x y v S).post P E):∃n k kvs,x=.ref n/\y=.int k/\mY S n=some kvs/\kvs.length<sizeLine/\P Unit.unit (S.set n<|.qQ<|yh kvs k v):=by
 unfold B3 at h;split at h
 ·obtain⟨kvs,h1,h⟩:=jY h;obtain⟨h2,h⟩:=kD h;exact⟨_,_,kvs,rfl,rfl,h1,h2,h⟩
 ·exact h.elim
abbrev acj (X:Cx):GC:=λo i v H Q=>∃ρ S ao f d,Rel X.K ρ H S/\AV X.K ρ H ao o/\AV X.K ρ H f i/\AV X.K ρ H d v/\(B3 ao f d S).post (λ_ g=>∀ρ' H',Ext ρ ρ' H H'->Rel X.K ρ' H' g->Q H') (XE X ρ H)
def To(hu:X.A.units+64<cLine):E2 X (acj X):=λpins s σ H o i v t iv u Q I j q B h9=>by
 obtain⟨ρ,S,ao,F,C,R,h1,h2,h3,h⟩:=h9;obtain⟨n,k,kvs,ha,hb,hn,z,hP⟩:=Hi h;subst ha hb
 cases h2
 cases h1 with
 | @ref p _ f=>
  obtain⟨ks,e,d⟩:=R.qQ f<|rj hn;obtain⟨ex,g⟩:=R.yh f (rj hn)<|d.put h3 k;exact set_dict (by omega) pins s σ H _ _ v t iv u Q I j q B ⟨p,_,rfl,zk.k (k:=Sum.inl k) e<|by rw[<- d.length];exact z,hP _ _ ex g⟩
abbrev LX (co ci:Ex):Tg:=λa τ S=>(co τ S).bind λo S1=>(ci τ S1).bind λi S2=>(B3 o i a S2).bind λ_ S3=>.ok τ S3
def IF(hu:X.A.units+64<cLine){co ci:Ex}(ho:AE X o co)(hi:AE X i ci)
  (ha:∀v,assign (.Subscript o i pos) X.env v=(do
   let ov <- holding [v] (eval o X.env)
   let iv <- holding [v,ov] (eval i X.env)
   standAt pos
   holding [v,ov,iv] (setItem ov iv v)
   release [v,ov,iv] []):=by intro _;rfl):AG X (.Subscript o i pos) (LX co ci):=PG.imp (D4 ho hi (To hu) ha) λv σ H Q h9=>by
 obtain⟨ρ,S,τ,a,R,r,va,h⟩:=h9;k_ne;gp_on;kpf_c
abbrev GK:Ex:=λ_ S=>.ok (.ref S.length)<|S++[.qQ []]
def MP:AE X (.Dict [] [] pos) GK:=PE.imp PY λσ H Q ⟨ρ,S,τ,R,r,h⟩ p f=>by
 obtain⟨ex,d,g⟩:=R.ZM (xs:=[]) (vs:=[]) f trivial;exact h _ _ _ ex d<|.ref g
abbrev dk? (a:A)(S:jU):Option Unit:=match a with
 | .ref n=>(mY S n).map λ_=>Unit.unit
 | _=>none
abbrev G2 (f:A->ae->jU->R A)(co:Ex)(d:sW):Ex:=λτ S=>(co τ S).bind λx S1=>opt (dk? x S1) λ_=>(d τ S1).bind λg S2=>f x g S2
def dk?_ty{K:au}{H:Hp}{x:A}{v:V}(R:Rel K ρ H S)(a:AV K ρ H x v)(e:dk? x S=some u):ZI K "dict" v H:=by
 cases a with
 | @ref p n h=>
  obtain⟨xs,f,_⟩:=aW.mp e;obtain⟨d,h1,_⟩:=R.qQ h<|rj f;exact .inr<|.inr<|.inl ⟨rfl,.inl ⟨d,h1⟩⟩
 | _=>cases e
def GW{e:aE}{id:String}{apos cpos:Pos}{f:A->ae->jU->R A}{co:Ex}{d:sW}(slot:Slot "dict" name id)(hty:typeOf (.builtin id)=pure (.type "method_descriptor"))(hm:MC X id<|rM X f)(ho:AE X o co)(ha:AL X (e::es) d)
  (hbase:attributeBase o name X.env (eval o X.env)=eval o X.env:=by rfl)
  (hfew:((backTo cpos<|starEach (e::es) X.env).all (λx=>!x.1) && (backToKw cpos<|keywordEach [] X.env).all (λx=>x.1.isSome)
   && decide ((e::es).length+([]:List Keyword).length+(if ([]:List Keyword).isEmpty then 0 else 1)<30))=true:=by rfl)
  (hline:(apos.endLine == cpos.line)=true:=by rfl) (hs:starEach (e::es) X.env=(false,eval e X.env)::starEach es X.env:=by rfl) (hplain:(backTo cpos<|starEach es X.env).any (·.1)=false:=by rfl) :
  AE X (.Call (.Attribute o name apos) (e::es) [] cpos) (G2 f co d):=PE.imp (Qz gW slot hty hm ho ha hbase hfew hline hs hplain) λσ H Q h9=>by
 x_go;cb_eq;obtain⟨xs,j,h1⟩:=jY h1;refine⟨dk?_ty R1 v1 j,ρ1,S1,τ,R1,r.ext e1,jX (j5 h1) e1 λg S2 h2 ρ2 H2 k e2 R2 v2=>?_⟩;exact⟨ρ2,S2,x,g,R2,v1.ext e2,v2,jX h2 (e1.trans e2) λ_ _ z=>z.ext<|e1.trans e2⟩
abbrev xG (o:A)(as:ae)(S:jU):R A:=match o,as with
 | .ref n,[.int k,y]=>opt (mY S n) λkvs=>.ok ((oz kvs k).getD y) S
 | _,_=>.no
def HG{x:A}{P:A->jU->Prop}{E:Str->jU->Prop}(h:(xG x as S).post P E):∃n k y kvs,x=.ref n/\as=[.int k,y]/\mY S n=some kvs/\P ((oz kvs k).getD y) S:=by
 unfold xG at h;split at h
 ·obtain⟨kvs,h1,h⟩:=jY h;exact⟨_,_,_,kvs,rfl,rfl,h1,h⟩
 ·exact h.elim
def Hq(hu:X.A.units+64<cLine):MC X "dict.get" (rM X xG):=λpins s σ H x T v us Q I rx C h9=>by
 obtain⟨ρ,S,o,K,R,B,va,h⟩:=h9;obtain⟨n,k,y,kvs,q,has,hn,hP⟩:=HG h;subst q has;obtain⟨M,P,rfl,j,hy⟩:=Ux va
 cases j
 cases B with
 | @ref p _ J=>
  obtain⟨ks,h1,z⟩:=R.qQ J (rj hn)
  cases rx
  obtain⟨N,O,rfl,r1,r2⟩:=vals2 C;refine Xf (by omega) I (uX.k (k:=Sum.inl k) h1) r1 r2 λL s' F d=>⟨_,H,F,d,hP _ _ _ .refl R ?_⟩;obtain⟨f,t⟩:=z.look k
  cases e1:oz kvs k with
  | none=>
   rw[e1]at f
   cases e2:qX ks (Sum.inl k:Key)with
   | none=>exact hy
   | some _=>rw[e2]at f;cases f
  | some G=>
   obtain⟨v1,e2,g⟩:=t G e1;rw[e2];exact g
end
end Am
namespace L2
open PySem PySem.Spec PyProof.Rows
section
variable {P:aj}{w:ah}{A:aA}{E:af->aC->Prop}{s:aC}{it d:ak}{i ep:Nat}{es:Array DictEntry}{o:Obj}
def O8{Q:bd->aC->Prop}(hi:s.heap.IsKeyIter it d i es.size ep)(ho:s.heap.get? d=some o)(hd:o.data=.dict es ep)(lt:i<es.size)
  (q:∀h',h'.IsKeyIter it d (i+1) es.size ep->Heap.SameBut it s.heap h'->Q (some es[i].key) { s with heap:=h' }):wpAny (model P w) A (pyNext<|.ref it) Q E s:=by
 have ty:=hi.typeIs;obtain⟨B,g,k,f⟩:=id hi;have own:Builtin.Dict_items.ownsTuple "dict_keyiterator" = false:=by decide
 have z:¬((Value.ref d == Value.none)=true):=bF;have t:¬((i:Int)<0):=by omega
 unfold pyNext;refine aH<|iT<|dO (name:=Str.ofString "__next__") ty cW<|cD cW ty gI ?_<|gE _;refine aH (aN<|aH<|aH ?_)
 first
  | refine aH (d_ ty<|aN<|aH<|gr g f ?_)
  | refine aH<|fB ty<|aN<|aH<|gr g f ?_
 dsimp[own,cK,bI];show wpAny (model P w) _ (if (Value.ref d == Value.none)=true then _ else _) _ _ s;rw[aR z];refine aH<|aN<|aH<|fu ho hd ?_;rw[aR<|show ¬_ by simp];refine aH<|aN<|aH<|fX ho hd ?_;rw[aR<|show ¬_ by simp];refine aN ?_;dsimp[t,cK,cU,dB lt];refine aH ?_
 first
  | refine aH (d_ ty<|aN<|aH<|iL ty ?_)
  | refine aH<|fB ty<|aN<|aH<|iL ty ?_
 show wpAny (model P w) _ (setField (.ref it) 1 (rawInt<|(i:Int)+1) >>= _) _ _ s;refine aH (gp g f (show _ by simp) ?_);have j:(s.heap.update it<|Obj.mapFields λfs=>fs.setIfInBounds 1<|rawInt<|(i:Int)+1).IsKeyIter it d (i+1) es.size ep:=
  ⟨_,f_ _ g<|iJ<|eU f _,(jq ..).trans k,by
   rw[eU f];simp[rawInt]⟩
 have p:Shared.TypeIs { s with heap:=s.heap.update it<|Obj.mapFields λfs=>fs.setIfInBounds 1<|rawInt<|(i:Int)+1} (.ref it) "dict_keyiterator" := Heap.IsKeyIter.typeIs (s:={ s with heap:=_ }) j;refine aH (cZ<|aH<|iL p ?_)
 skip
 exact aN<|aN ⟨_,rfl,aN<|q _ j<|eG ..⟩
def Io{Q:bd->aC->Prop}(hh:A.handled=none)(hi:s.heap.IsKeyIter it d i es.size ep)(ho:s.heap.get? d=some o)(hd:o.data=.dict es ep)(ge:es.size<=i)
  (q:∀h',Heap.ExtBut it s.heap h'->Q none { s with heap:=h' }):wpAny (model P w) A (pyNext<|.ref it) Q E s:=by
 have ty:=hi.typeIs;obtain⟨t,g,j,f⟩:=id hi;have own:Builtin.Dict_items.ownsTuple "dict_keyiterator" = false:=by decide
 have p:¬((Value.ref d == Value.none)=true):=bF;have k:¬((i:Int)<0):=by omega
 unfold pyNext;refine aH<|iT<|dO (name:=Str.ofString "__next__") ty cW<|cD cW ty gI ?_<|gE _;refine aH (aN<|aH<|aH ?_)
 first
  | refine aH (d_ ty<|aN<|aH<|gr g f ?_)
  | refine aH<|fB ty<|aN<|aH<|gr g f ?_
 dsimp[own,cK,bI];show wpAny (model P w) _ (if (Value.ref d == Value.none)=true then _ else _) _ _ s;rw[aR p];refine aH<|aN<|aH<|fu ho hd ?_;rw[aR<|show ¬_ by simp];refine aH<|aN<|aH<|fX ho hd ?_;rw[aR<|show ¬_ by simp];refine aN ?_;dsimp[k,cK,cU,dR ge];refine aH ?_
 first
  | refine aH (d_ ty<|aN ?_)
  | refine aH<|fB ty<|aN ?_
 show wpAny (model P w) _ (setField (.ref it) 0 .none >>= _) _ _ s;refine aH (gp g f (show _ by simp) ?_)
 skip
 refine aH ?_;dsimp[newExc,newTuple];refine aH (cE (aH (m:=firstArgMember _ _)<|wpAny_of_eq (a:=Value.none) (by first|rfl|(dsimp[firstArgMember];rfl))<|cE ?_<|by size_fits)<|by size_fits);dsimp[raiseNew];have hn:A.in1.handled=none:=hh;refine aH<|wpAny_handled<|?_;rw[hn];refine aH<|aN<|wpAny_throw<|?_;refine aH<|gA (b:=true) (T := "StopIteration") ⟨_,bw _ rfl,rfl⟩ isSubtype_stop<|aN<|q _<|((eG ..).extBut.push _).push _
def Ah{Q:af->aC->Prop}(ty:s.TypeIs (.ref d) "dict")(hs:(d == sysModules)=false)(ho:s.heap.get? d=some o)(hd:o.data=.dict es ep)
  (q:Q (.ref s.heap.objs.size) { s with heap:=s.heap.push { cls:=.type "dict_keyiterator",data:=.fields #[.ref d,.int 0 0,.int es.size 0,.int ep 0]}}):wpAny (model P w) A (pyIter<|.ref d) Q E s:=by
 refine wpAny_pyIter_slot ty PySem.F.slot_dict_iter<|cD PySem.F.slot_dict_iter ty PySem.F.entry_dict_iter ?_<|PySem.F.args_dict_iter_1 _;delta Builtin.«dict.__iter__»;refine aH ?_;delta Builtin.Dict.dictSlotNone;refine aH (iM ty ?_)
 skip
 refine aN ?_;show wpAny (model P w) _ (Builtin.Dict.showsAll d >>= _) _ _ s;delta Builtin.Dict.showsAll;have nd:¬((d == sysModules)=true):=by rw[hs];exact bF
 rw[aR nd];refine aH<|aN<|aH<|fu ho hd<|aH<|fX ho hd ?_;refine aH<|cE<|aN ⟨_,rfl, "dict_keyiterator",_,⟨_,bw _ rfl,rfl⟩,cW.lookup,?_⟩;simpa[rawInt]using q
end
section
variable {P:aj}{w:ah}
def LJ{A:aA}(hh:A.handled=none)(it d:ak)(ne:d≠it){es:Array DictEntry}{o:Obj}(hd:o.data=.dict es ep) :
  Walks P w A it [it,d] [it] es.size (λi v=>(es[i]?).map (λe=>e.key)=some v) (λi h=>h.IsKeyIter it d i es.size ep/\h.get? d=some o) where
 sub:=λb hb=>by
  rw[aP.mp hb];exact aL ..
 frame:=λ_ _ _ st f=>⟨st.1.at λx e=>f it (aL ..) x e,f d (aQ _<|aL ..) o st.2⟩
 item:=λi s Q E lt st q=>O8 st.1 st.2 hd lt λh' j g=>q _ h' s.toks (by rw[dB lt];rfl) ⟨j,g.extBut d o ne st.2⟩ λb x nb e=>g.extBut b x (λz=>nb<|aP.mpr z) e
 done:=λs Q E st q=>Io hh st.1 st.2 hd (aM _) λh' k=>q h' s.toks λb x nb e=>k b x (λz=>nb<|aP.mpr z) e
 self:=λ_ _ _ _ st q=>wpAny_pyIter_keyiter st.1 q
def KU{d:ak}{es:Array DictEntry}{o:Obj}(hs:(d == sysModules)=false)(hc:o.cls=.type "dict")(hd:o.data=.dict es ep) :
  PySem.W.KdlSrc P w "dict" d d es.size (λi v=>(es[i]?).map (λe=>e.key)=some v) (λh=>h.get? d=some o) where
 type:=λ_ f=>⟨o,f,hc⟩
 there:=λ_ f=>⟨bq f,bq f⟩
 keep:=λ_ _ f g=>g d (.inl rfl) o f
 notList:=by decide
 notTuple:=by decide
 hint:=λ_ _ _ _ f hq=>PySem.W.kdl_hint_dict ⟨o,f,hc⟩ hq
 iter:=λ_ s j f=>⟨_,_,(λ_ _ hq=>Ah ⟨o,f,hc⟩ hs f hd hq),LJ j _ d (bD<|bq f) hd,⟨⟨_,bw _ rfl,rfl,rfl⟩,aS _ f⟩⟩
end
section
variable {X:Cx}
def RJ{H:Hp}{s:aC}{d:ak}{kvs:List<|List Key×V}(I:Inv X pins σ H s)(ed:H d=some (.dT kvs)) :
  ∃(ob:Obj) (es:Array DictEntry) (ep:Nat) (rs:bb),s.heap.get? d=some ob/\ob.cls=.type "dict" /\ ob.data=.dict es ep/\(d == sysModules)=false/\kvs.length<=sizeLine/\rs.length=kvs.length/\es.size=kvs.length /\
   (∀i:Nat,(es[i]?).map (λe:DictEntry=>e.key)=(rs[i]?).map Value.ref)/\∀(i:Nat) r p,rs[i]?=some r->kvs[i]?=some p->H r=some (.tup<|p.1.map kV):=by
 obtain⟨z,C,xs,g,F⟩:=A3 I.hok ed;obtain⟨ob,es,ep,B,G,t,k,L,K⟩:=id F;obtain⟨j,q⟩:=kt_at g;have f:es.size=xs.length:=by have:=cV List.length k;simpa using this
 refine⟨ob,es,ep,xs.map λy=>y.2.1,B,G.1,t,C,z,by rw[aG,j],by rw[f,j],λi=>?_,λi r p e1 e2=>?_⟩
 ·rw[<- cH,k,aO,aO,dJ,dJ]
  cases xs[i]?<;>rfl
 ·obtain⟨y,h1,h2,h3,J⟩:=q i p e2;rw[aO,h1]at e1
  cases e1
  exact h3
def CL(hc:X.calm=true):kP X (.builtin "sorted") (λxs H Q=>∃(d:ak) (kvs:List<|List Key×V) (kss:List<|ag),xs=[.ref d]/\H d=some (.dT kvs)/\kvs.map (λp=>p.1)=kss.map (λks=>ks.map Sum.inl)/\(∀ks∈kss,ks≠[])/\Sx.RO kss.length /\
  ∀(rs:bb) l g,rs.length=kss.length->(∀(i:Nat) (r:ak) (ks:ag),rs[i]?=some r->kss[i]?=some ks->H r=some (.tup<|ks.map V.int))->H l=none->Sx.Cl g 0 kss.length->Sx.So (Sx.uO kss) g 0 kss.length ->
   Q (.ref l) (upd H l<|.lst<|((List.range kss.length).map λi=>rs.getD (g i) 0).map V.ref)):=by
 fin2;obtain⟨d,kvs,kss,rfl,G,ek,k,F,q⟩:=h;kcj_m
 cases rx
 obtain⟨ob,es,ep,rs,M,W,J,T,B,z,N,L,K⟩:=RJ I G;have t:kvs.length=kss.length:=by have:=cV List.length ek;simpa using this
 have C:∀(i:Nat) (r:ak) (ks:ag),rs[i]?=some r->kss[i]?=some ks->H r=some (.tup<|ks.map V.int):=λi r ks e1 e2=>by
  have lt:i<kvs.length:=by rw[t];exact(aJ.mp e2).1
  have h1:=K i r kvs[i] e1 (aI lt);have h2:(kvs.map λp=>p.1)[i]?=(kss.map λks=>ks.map Sum.inl)[i]?:=by rw[ek]
  rw[aO,aO,e2,aI lt]at h2;have h3:kvs[i].1=ks.map Sum.inl:=br h2;rw[h3,bg]at h1;exact h1
 refine dz iW iC iD (iE _) ?_;unfold Builtin.«sorted»;ksr_p;refine aH (gF (KU T W J) (show X.A.in1.handled=none from I.ok.hd hc) M (by rw[N];exact B) λh' O acc U f=>?_);have P:acc.toList=rs.map Value.ref:=by
  refine dS λj=>?_;rw[cH,aO,<- L j]
  cases e:acc[j]? with
  | some v=>exact(f.2 j v e).symm
  | none=>
   have:acc.size<=j:=gu.mp e;rw[dR<|by rw[<- f.1];exact this];rfl
 rw[P];exact yk (s:=s) (I.kept (t':=O) U) F (by rw[z,t]) (by rw[z];exact B) (λi r ks e1 e2=>⟨nO.of<|C i r ks e1 e2,k ks<|a_ e2⟩) λl g h1 h2 h3=>q rs l g (by rw[z,t]) C h1 h2 h3
abbrev Itk (d:ak)(o:Obj)(u:HO)(rs:bb):It:=
 ⟨λi H=>(∃a,rs[i]?=some a)/\H d=some (.frz o u),λi H x H'=>H'=H/\∀a,rs[i]?=some a->x=.ref a,λi H=>i=rs.length/\H d=some (.frz o u)⟩
def LZ{P:aj}{w:ah}{K:au}(d it:ak){o:Obj}{es:Array DictEntry}{rs:bb}(hd:o.data=.dict es ep)(hl:es.size=rs.length)
  (hk:∀i:Nat,(es[i]?).map (λe:DictEntry=>e.key)=(rs[i]?).map Value.ref):Turn P w K tg (Itk d o u rs) [it] it (λi h=>h.IsKeyIter it d i es.size ep) where
 mem:=aL ..
 obj:=λi h st b hb=>by
  have:b=it:=by simpa using hb
  subst this;obtain⟨ob,h1,h2,h3⟩:=st;exact⟨ob,h1,λv z=>by rw[h3]at z;cases z⟩
 keep:=λi h h' st k=>st.at λx e=>k it (aL ..) x e
 item:=by
  w_up;subst hP hw hK;obtain⟨⟨a,ha⟩,hq⟩:=hg;have g:s.heap.get? d=some o:=(show lC _ _ H s.heap d (.frz o u)from I.hok d _ hq).1;have lt:i<es.size:=by rw[hl];exact(aJ.mp ha).1
  have ek:es[i].key=.ref a:=by
   have:=hk i;rw[dB lt,ha]at this;exact br this
  obtain⟨f0,f1,f2,f3,f4,f5⟩:=hf it<|aL ..;refine O8 st g hd lt λh' f j=>?_;have t:Inv X pins σ H { s with heap:=h' }:=I.turned (t':=s.toks) (λb x hb e=>j.extBut b x hb e) f0 f1 f3 f4 f5;obtain⟨C,e,c,B⟩:=id f;rw[ek];exact⟨_,rfl,Ff (s:={ s with heap:=h' }) e c B ⋯ ⟨.ref a,H,t,rfl,⟨rfl,λb hb=>by rw[ha]at hb;cases hb;rfl⟩,f,λb hb=>(hf b hb).1⟩⟩
 done:=by
  w_up;subst hP hw hK;obtain⟨F,hq⟩:=hg;have g:s.heap.get? d=some o:=(show lC _ _ H s.heap d (.frz o u)from I.hok d _ hq).1;obtain⟨f0,f1,f2,f3,f4,f5⟩:=hf it<|aL ..;exact Io (I.ok.hd hc) st g hd () λh' p=>⟨rfl,I.turned (t':=s.toks) (λb x hb e=>p b x hb e) f0 f1 f3 f4 f5⟩
 self:=λ_ _ _ _ _ st q=>wpAny_pyIter_keyiter st q
abbrev ZU (to:TE):TI:=λσ H R=>to σ H λx H1=>∃d kvs,x=.ref d/\H1 d=some (.dT kvs)/\∀(o:Obj) (f:bb),f.length=kvs.length->(∀(i:Nat) r p,f[i]?=some r->kvs[i]?=some p->H1 r=some (.tup<|p.1.map kV))->R (Itk d o (.dT kvs) f) (upd H1 d<|.frz o<|.dT kvs)
def US{e:aE}{to:TE}(he:PE X e to):PI X tg e (ZU to):=by
 intro pins s σ H R I h;refine nL (he pins s σ H _ I h) λv j h9=>?_;obtain⟨x,H1,I1,r1,d,kvs,ex,p,O⟩:=h9;subst ex
 cases r1
 obtain⟨z,T,xs,t,Z⟩:=A3 I1.hok p;obtain⟨f,C,B,K,k2,P,k4,_,L⟩:=id Z;obtain⟨ob,es,ep,G,g,g2,F,Y,g5,J,U,M,N⟩:=RJ I1 p;have eo:f=ob:=by rw[g]at K;exact(br K).symm
 subst eo;refine Ah ⟨_,g,g2⟩ Y g F ?_;have V:Inv X pins σ H1 { j with heap:=j.heap.push { cls:=.type "dict_keyiterator",data:=.fields #[.ref d,.int 0 0,.int es.size 0,.int ep 0]}}:=
  I1.kept (t':=j.toks) λb o k=>aS _ k
 have q:∀b ys,H1 b=some (.tup ys)->upd H1 d (.frz f<|.dT kvs) b=some (.tup ys):=λb ys k=>by
  rw[j0<|II k p λz=>nomatch z];exact k
 have W:Inv X pins σ (upd H1 d<|.frz f<|.dT kvs) _:=uQ (t':=j.toks) (ob:=.frz f<|.dT kvs) V (by rw[p];exact True.intro) ⟨rfl,λ_ _=>rfl⟩ ⟨f,aS _ g⟩ ⟨aS _ g,z,T,xs,t.keeps q,f,C,B,aS _ g,k2,P,k4,L⟩;refine⟨j.heap.objs.size,[j.heap.objs.size],_,Itk d f (.dT kvs) G,_,rfl,W,LZ d _ F (by rw[U,J]) M,⟨_,bw _ rfl,rfl,rfl⟩,λb hb=>?_,O f G J N⟩;have k:b=j.heap.objs.size:=by simpa using hb
 subst k;refine I1.DH (aM _) ?_;rw[j0<|cR<|bD<|bq g];exact I1.hok.fresh<|aM _
end
section
variable {P:aj}{w:ah}{A:aA}{E:af->aC->Prop}{s:aC}
def LY:typeLookup (.type "list") "keys" = pure none:=am_miss_of_fast<|by kernel_rfl
def LK{a:ak}{o:Obj}{k:Nat}{Q:bd->aC->Prop}(hx:s.heap.get? a=some o)(hc:o.cls=.type "list")(hdat:o.data=.seq xs k)(hd:o.dict=none)(hA:A.handled=none)
  (h:∀h' tk,(∀b ob,s.heap.get? b=some ob->h'.get? b=some ob)->Q none { s with heap:=h',toks:=tk }):wpAny (model P w) A (getAttr? (.ref a) "keys") Q E s:=by
 obtain⟨c,dct,q,B⟩:=o;simp only at hc hdat hd;subst hc hdat hd;obtain⟨z,g,d,tk,t⟩:=s;have p:∀j,(⟨z,g,d,j,t⟩:aC).TypeIs (.ref a) "list" := λ_=>⟨_,hx,rfl⟩;have f1:=sub_AttributeError;have f3:=gJ.lookup;have f4:=gJ.bind<|.ref a;have f5:=am_list_getattr_none;unfold getAttr? getAttrBy? getAttrBy
 repeat (any_goals (first|assumption|exact p _|((with_reducible show wpAny _ _ (call (Value.builtin "list.__getattribute__") _ _) _ _ _);refine fQ gJ (p _) am_entry_list_getattribute (F.args_list_getattribute_2 _ _) (meets_getattribute_miss_list a xs k B "keys" _ LY ⋯ (by size_fits)) ⟨hx,hA,λh' j e f=>?_⟩)|wp_step))
 obtain⟨C,G,J⟩:=f.there
 skip
 unfold getattributeRaised
 repeat (any_goals (first|assumption|wp_step))
 exact h _ _ f.keeps
def B5:entryFor table "dict.update.loop" = some Builtin.«dict.update.loop»:=entryFor_of_tree<|by kernel_rfl
def v5:plainId "dict.update.loop" = true:=by decide +kernel
abbrev OI (h:aq)(d I:ak)(its:ba)(ps:List<|Int×af):Prop:=∀(i:Nat) (v:af),its[i]?=some v->∃(b:ak) (p:Int×af) (t:Tok),v=.ref b/\b≠d/\b≠I/\ps[i]?=some p/\IsTup h b #[.int p.1 t,p.2]
def OI.mono{h h':aq}{d:ak}(x:OI h d I its ps)(k:∀b o,b≠d->b≠I->h.get? b=some o->h'.get? b=some o):OI h' d I its ps:=λi v hv=>by
 obtain⟨b,p,t,h1,h2,h3,g,o,f,j⟩:=x i v hv;exact⟨b,p,t,h1,h2,h3,g,o,k b o h2 h3 f,j⟩
abbrev XW (ps:List<|Int×af):List (Key×af):=ps.foldl (λacc p=>stored acc (Sum.inl p.1) p.2) []
def Pb(ps:List<|Int×af)(i:Nat)(p:Int×af)(h:ps[i]?=some p):XW (ps.take<|i+1)=stored (XW<|ps.take i) (Sum.inl p.1) p.2:=by
 unfold XW;rw[bN,h,dU];rfl
theorem J8:∀(ps:List<|Int×af) (acc:List<|Key×af),(ps.foldl (λacc p=>stored acc (Sum.inl p.1) p.2) acc).length<=acc.length+ps.length
 | [],acc=>aM _
 | p::ps,acc=>by
  have:=J8 ps<|stored acc (Sum.inl p.1) p.2;have h:(stored acc (Sum.inl p.1) p.2).length<=acc.length+1:=by
   unfold stored;split
   ·rw[aG];lia
   ·rw[aX];exact aM _
  rw[fj,bA]
  lia
def N8{R:Result->aC->Prop}{I l d:ak}{St:Nat->aq->Prop}{its:ba}{ps:List<|Int×af}(W:Walks P w A.in1 I [I,l] [I] its.length (λi v=>its[i]?=some v) St)(hdI:d≠I)(hdl:d≠l)(hl:ps.length=its.length)(hz:ps.length<=sizeLine) :
  ∀(k i:Nat) (s:aC),its.length-i=k->i<=its.length->St i s.heap->s.heap.DictOf (lK P w) d (XW<|ps.take i)->OI s.heap d I its ps ->
   (∀h' tk,h'.DictOf (lK P w) d (XW ps)->(∀b o,b≠d->b≠I->s.heap.get? b=some o->h'.get? b=some o)->R (.ok<|.ret .none) { s with heap:=h',toks:=tk }) ->
   codeAny (model P w) A (.builtin "dict.update.loop" ⟨[.ref d,.ref I,rawInt i,.none],[]⟩) R s:=by
 intro k
 induction k with
 | zero=>
  intro i s hk hi g L hP Z;have Y:i=its.length:=()
  subst Y;refine fV B5 ?_;rw[d9 v5 _]
  skip
  refine aH (W.done s _ _ g λh' tk C=>?_)
  skip
  refine aH (aN<|aN<|Z h' tk ?_ λb o _ h2 e=>C b o (by simpa using h2) e);rw[<- hl,bT]at L;obtain⟨o,es,ep,B,rest⟩:=L;exact⟨o,es,ep,C d o (by simpa using hdI) B,rest⟩
 | succ k ih=>
  intro i s hk hi g L hP Z;have F:i<its.length:=()
  refine fV B5 ?_;rw[d9 v5 _]
  skip
  refine aH<|W.item i s _ _ F g λv h' tk hv J C=>?_;have T:OI h' d I its ps:=hP.mono λb o h1 h2 e=>C b o (by simpa using h2) e;obtain⟨b,p,t,rfl,hbd,hbI,hp,o,B,hc,n,hd⟩:=T i v hv;have V:h'.DictOf (lK P w) d (XW<|ps.take i):=by
   obtain⟨o,es,ep,B,rest⟩:=L;exact⟨o,es,ep,C d o (by simpa using hdI) B,rest⟩
  have hT:Shared.TypeIs { s with heap:=h',toks:=tk } (.ref b) "tuple" := ⟨o,B,hc⟩;have j:∀(A:aA) (E:af->aC->Prop) (Q:ba->aC->Prop),Q [.int p.1 t,p.2] { s with heap:=h',toks:=tk }->wpAny (model P w) A (Builtin.Dict.pairItems<|.ref b) Q E { s with heap:=h',toks:=tk }:=λA E Q q=>by
   unfold Builtin.Dict.pairItems;refine aH<|ie hT ?_;rw[aV ⋯];refine aH<|ir B hd<|aN q
  have G:(XW<|ps.take i).length<=sizeLine:=by
   refine bJ (J8 (ps.take i) []) ?_;rw[bY,ez]
   lia
  refine aH (cZ<|aH<|wpAny_tryCatch<|j _ _ _ ?_)
  skip
  refine cZ (wpAny_dictSet_pairs (hsz:=G) (knd:=lK P w) (k:=Sum.inl p.1) (s:={ s with heap:=h',toks:=tk }) (show Value.isInt p.1 (.int p.1 t)=true by simp[Value.isInt]) V λh2 U hs=>?_);refine aN ⟨iS v5 _,?_⟩;have f:∀b o,b≠d->b≠I->s.heap.get? b=some o->h2.get? b=some o:=λb o h3 K e=>by rw[hs.2 b h3];exact C b o (by simpa using K) e
  refine ih (i+1) _ () F (W.frame _ _ _ J λb hb o e=>?_) (by rw[Pb ps i p hp];exact U) (hP.mono f) λh3 M N hs3=>Z h3 M N λb o K h5 e=>hs3 b o K h5<|f b o K h5 e;have O:b≠d:=by
   intro z;subst z
   rcases bH.mp hb with z|z
   ·exact hdI z
   ·exact hdl<|by simpa using z
  skip
  rw[hs.2 b O];exact e
theorem Cv{H:Hp}{X:Cx}(I:Inv X pins σ H s):∀(rs:bb) (ps:List<|Int×V),rs.length=ps.length->(∀(i:Nat) (r:ak) (q:Int×V),rs[i]?=some r->ps[i]?=some q->nO X.K H r [.int q.1,q.2]) ->
  ∃qs:List<|Int×af,KV ps qs/\∀(i:Nat) (r:ak),rs[i]?=some r->∃q t,qs[i]?=some q/\IsTup s.heap r #[.int q.1 t,q.2]
 | [],[],_,_=>⟨[],.nil,λi r h=>by simp at h⟩
 | [],_::_,h,_=>nomatch h
 | _::_,[],h,_=>nomatch h
 | r::rs,p::ps,hl,hh=>by
  obtain⟨qs,h1,h2⟩:=Cv I rs ps (by simpa using hl) λi r q e1 e2=>hh (i+1) r q (by simpa using e1) (by simpa using e2);obtain⟨z,j,k,_⟩:=I.tuple<|hh 0 r p rfl rfl;obtain⟨f,d,rfl,r1,r2⟩:=vals2 j;obtain⟨t,rfl⟩:∃t,f=Value.int p.1 t:=r1;refine⟨(p.1,d)::qs,.cons ⟨rfl,r2⟩ h1,λi g e=>?_⟩
  cases i with
  | zero=>cases e;exact⟨(p.1,d),t,rfl,k⟩
  | succ i=>exact h2 i g<|by simpa using e
abbrev ptP (ps:List<|Int×V):List (Key×V):=ps.foldl (λacc p=>putK acc (Sum.inl p.1) p.2) []
def aaI:∀{ps:List<|Int×V}{qs:List<|Int×af},KV ps qs->∀{as:List<|Key×V}{bs:List<|Key×af},KV as bs->KV (ps.foldl (λacc p=>putK acc (Sum.inl p.1) p.2) as) (qs.foldl (λacc p=>stored acc (Sum.inl p.1) p.2) bs):=by
 intro ps qs h;unfold KV at h
 induction h with
 | nil=>exact λh=>h
 | @cons p q ps qs h t d=>
  intro as bs h2;rw[fj,fj];obtain⟨e,r⟩:=h;rw[e];exact d<|h2.put _ r
theorem K8:∀(ps:List<|Int×V) (acc:List<|Key×V),(ps.foldl (λacc p=>putK acc (Sum.inl p.1) p.2) acc).length<=acc.length+ps.length
 | [],acc=>aM _
 | p::ps,acc=>by
  have:=K8 ps<|putK acc (Sum.inl p.1) p.2;have:=qy acc (Sum.inl p.1) p.2;rw[fj,bA]
  lia
end
section
variable {X:Cx}
def G3(hc:X.calm=true):kP X (.type "dict") (λxs H Q=>∃(p:ak) (rs:bb) (ps:List<|Int×V),xs=[.ref p]/\qe X.K H p (rs.map V.ref)/\rs.length=ps.length /\
  (∀(i:Nat) (r:ak) (q:Int×V),rs[i]?=some r->ps[i]?=some q->nO X.K H r [.int q.1,q.2])/\∀l,H l=none->Q (.ref l) (upd H l<|.dK<|ptP ps)):=by
 fin2;obtain⟨p,rs,ps,rfl,hq,B,Z,q⟩:=h;kcj_m
 cases rx
 obtain⟨its,rv,pl,Y⟩:=I.list hq;have ei:=tQ rv;subst ei;rw[aG]at Y;obtain⟨O,kv,tp⟩:=Cv I rs ps B Z;have ql:ps.length=O.length:=kv.length;obtain⟨o,n,P,k,M,hd⟩:=pl;have lp:p<s.heap.objs.size:=bq P;refine callType_codes (Q₁:=λC j=>C=.ref s.heap.objs.size/\j={ s with heap:=s.heap.push { cls:=.type "dict",data:=.dict #[]}}) F.kt_called_dict (F.kt_typeCall_dict_1 _) F.entry_dict_init (kt_code_dict_new _ ⟨rfl,rfl⟩) ?_;rintro C j ⟨rfl,rfl⟩;have f:(s.heap.push { cls:=.type "dict",data:=.dict #[]}).DictOf (lK X.prog X.w) s.heap.objs.size []:=Heap.DictOf.new s.heap;have g:(s.heap.push { cls:=.type "dict",data:=.dict #[]}).get? p=some o:=aS _ P;have L:Shared.TypeIs { s with heap:=s.heap.push { cls:=.type "dict",data:=.dict #[]}} (.ref p) "list" := ⟨o,g,k⟩;refine⟨f.typeIs,F.args_dict_init_2 _ _,?_⟩;unfold Builtin.«dict.__init__»;refine aH ?_;unfold Builtin.Dict.selfAndRest;refine aH (iM f.typeIs ?_)
 skip
 refine aN ?_;show wpAny _ _ (Builtin.Dict.updateFrom "dict.__init__" s.heap.objs.size (.ref p) [] .none) _ _ _;unfold Builtin.Dict.updateFrom;refine aH<|ie L ?_;rw[aV ⋯];refine aH<|LK g k hd M (show X.A.in1.in1.handled=none from I.ok.hd hc) λh' tk z=>?_;rw[aV<|by rfl];refine aH<|gq ?_;have G:h'.IsList p (rs.map Value.ref).toArray:=⟨o,z p o g,k,n,hd⟩;refine aH<|gY (s:={ s with heap:=h',toks:=tk }) G ?_;refine aN ⟨iS v5 _,?_⟩;have sz:s.heap.objs.size<h'.objs.size:=bq<|z _ _<|bw _ rfl;have W:Walks X.prog X.w X.A.in1.in1 h'.objs.size [h'.objs.size,p] [h'.objs.size] (rs.map Value.ref).length (λi v=>(rs.map Value.ref)[i]?=some v) (λi h=>h.IsListIter h'.objs.size p i/\h.IsList p (rs.map Value.ref).toArray):=by
  have W:=Walks.list (prog:=X.prog) (w:=X.w) (A:=X.A.in1.in1) (I.ok.hd hc) h'.objs.size p (bD<|bq<|z p o g) (rs.map Value.ref).toArray;rw[aZ]at W;dsimp[gb]at W;exact W
 refine N8 (d:=s.heap.objs.size) (its:=rs.map Value.ref) (ps:=O) W (bD sz) (cR<|bD lp) (by rw[aG];lia) () (rs.map Value.ref).length 0 _ () (bK _)
  ⟨⟨_,bw _ rfl,rfl,rfl⟩,G.push _⟩ ?_ (λi v hv=>?_) λh2 J hD hs=>⟨rfl,.ref s.heap.objs.size,_,I.laid (t':=J) (o:=.dK<|ptP ps) (λb ob U=>?_) (aM _) ?_,rfl,q _<|I.hok.fresh<|aM _⟩
 ·obtain⟨o,es,ep,e,rest⟩:=f;exact⟨o,es,ep,aS _<|z _ _ e,rest⟩
 ·rw[aO]at hv;obtain⟨r,hr,rfl⟩:=aW.mp hv;obtain⟨q,t,h1,o2,h2,h3⟩:=tp i r hr;have N:=bq h2;exact⟨r,q,t,rfl,bD N,bD<|jF N sz,h1,o2,aS _<|z _ _<|aS _ h2,h3⟩
 ·have T:=bq U;exact hs b ob (bD T) (bD<|jF T sz) (aS _<|z _ _<|aS _ U)
 ·refine G1 (bJ (K8 ps [])<|by rw[ez];lia) ?_ (aaI kv .nil) hD;exact c6.mpr<|cR<|bD I.big
abbrev Uz (ns:ag):Sx.Ord where
 lt i j:=decide (ns.getD i 0<ns.getD j 0)
 Mu i:=bz (by omega)
 tr i j k h1 h2:=bf (by have:=b8 h1;have:=b8 h2;omega)
 neg i j k h:=by
  have:=b8 h;by_cases c:ns.getD i 0<ns.getD j 0
  ·exact .inl (bf c)
  ·exact .inr<|bf<|by omega
theorem Kh:∀{vs:ba}{ns:ag},IntsAre vs ns->vs.length=ns.length/\∀i,i<vs.length->∃t,vs.getD i .none=.int (ns.getD i 0) t
 | _,_,.nil=>⟨rfl,λi h=>absurd h<|eB _⟩
 | _,_,.cons n t h=>by
  obtain⟨h1,h2⟩:=Kh h;refine⟨cV (·+1) h1,λi d=>?_⟩
  cases i with
  | zero=>exact⟨t,rfl⟩
  | succ i=>exact h2 i<|by simpa using d
theorem Ag{f:Nat->Int}{h:Nat->af}:∀(l:am),(∀i∈l,∃t,h i=.int (f i) t)->Vals (l.map λi=>V.int<|f i) (l.map h)
 | [],_=>.nil
 | i::l,e=>.cons (e i<|aL ..)<|Ag l λj d=>e j<|aQ _ d
def Gx{s:aC}{H:Hp}{Q:VK}{h':aq}{tk:Nat}{vs:ba}{ns:ag}(I1:Inv X pins σ H { s with heap:=h',toks:=tk })(ro:Sx.RO ns.length)(hi:IntsAre vs ns)(hz:vs.length<=sizeLine)
  (q:∀l g,H l=none->Sx.Cl g 0 ns.length->Sx.So (Uz ns) g 0 ns.length->Q (.ref l) (upd H l<|.lst<|(List.range ns.length).map λi=>V.int<|ns.getD (g i) 0)) :
  wpAny (model X.prog X.w) X.A.in1 (do
   let l <- newList vs
   let _ <- holding [l] (call (Value.builtin "list.sort") [l] [])
   ret l) (λfin s'=>∃v,fin=Fin.done (Flow.ret v)/\EP X pins σ Q v s') X.xe { s with heap:=h',toks:=tk }:=by
 obtain⟨B,f⟩:=Kh hi;refine aH<|jx ?_;have d:(h'.push<|seqObj "list" vs.toArray 0).get? h'.objs.size=some (seqObj "list" vs.toArray 0):=bw _ rfl
 skip
 refine aH (cZ<|cD slot_list_sort ⟨_,d,rfl⟩ entry_list_sort (Sx.yR (o:=Uz ns) (kd:=oneType') d hz (by rw[B];exact ro) (λh2 C k=>?_) (λh2 i j p J F C k=>?_) λg hc hs=>⟨_,rfl,?_⟩)<|args_list_sort _)
 ·obtain⟨a,b,r,rfl⟩:∃a b r,vs=a::b::r:=by
   cases vs with
   | nil=>simp at h2
   | cons a vs=>cases vs with
    | nil=>simp at h2
    | cons b r=>exact⟨a,b,r,rfl⟩
  exact wpAny_of_eq (keyKind_ints hi) k
 ·obtain⟨t,e1⟩:=f i p;obtain⟨u,e2⟩:=f j J;show wpAny _ _ (keyLt' oneType' (vs.getD i .none)<|vs.getD j .none) C F _;rw[e1,e2,keyLt'_oneType];exact Sx.IZ true k
 ·rw[B]at hc hs ⊢;obtain⟨e,G⟩:=sortedHeap_at (out:=((List.range ns.length).map λi=>vs.getD (g i) .none).toArray) d;have old:∀b ob,h'.get? b=some ob->(sortedHeap (h'.push<|seqObj "list" vs.toArray 0) h'.objs.size vs ((List.range ns.length).map λi=>vs.getD (g i) .none).toArray).get? b=some ob:=λb ob z=>by
   rw[sortedHeap_old (bD<|bq z)<|by rw[c_];exact dQ<|bq z];exact aS _ z
  refine aN ⟨_,rfl,.ref h'.objs.size,_,I1.laid (t':=tk) (o:=.lst<|(List.range ns.length).map λi=>V.int<|ns.getD (g i) 0) old (aM _) ?_,rfl,q _ g (I1.hok.fresh<|aM _) hc hs⟩;refine⟨by rw[aG,bR];omega,(List.range ns.length).map λi=>vs.getD (g i) .none,e,Ag _ λi hi=>f _ (by have:=(hc i (bK _)<|cF.mp hi).2;omega),G⟩
def MH{P:aj}{w:ah}{vs:List<|Key×af}:∀{acc:ba}{ns:ag},vs.map (·.1)=ns.map Sum.inl->acc.length=vs.length->(∀(j:Nat) v,acc[j]?=some v->∃k x,vs[j]?=some (k,x)/\(lK P w).is k v=true)->IntsAre acc ns:=by
 intro acc ns d f h
 induction acc generalizing vs ns with
 | nil=>cases vs with
  | nil=>cases ns with
   | nil=>exact .nil
   | cons=>cases d
  | cons=>cases f
 | cons a acc g=>cases vs with
  | nil=>cases f
  | cons v vs=>cases ns with
   | nil=>cases d
   | cons n ns=>
    rw[bC,bC,List.cons.injEq]at d;obtain⟨k,x,e1,e2⟩:=h 0 a rfl
    cases e1
    obtain⟨e3,p⟩:=d;have e3:k=Sum.inl n:=e3;subst e3;obtain⟨t,rfl⟩:=Value.isInt_shape (k:=n) (v:=a) e2;exact .cons n t<|g p (by simpa using f) λj v e=>h (j+1) v<|by simpa using e
def Ed(hc:X.calm=true):kP X (.builtin "sorted") (λxs H Q=>∃(d:ak) (kvs:List<|Key×V) (ns:ag),xs=[.ref d]/\H d=some (.dK kvs)/\kvs.map (λp=>p.1)=ns.map Sum.inl/\Sx.RO ns.length /\
  ∀l g,H l=none->Sx.Cl g 0 ns.length->Sx.So (Uz ns) g 0 ns.length->Q (.ref l) (upd H l<|.lst<|(List.range ns.length).map λi=>V.int<|ns.getD (g i) 0)):=by
 fin2;obtain⟨d,kvs,ns,rfl,B,ek,G,q⟩:=h;kcj_m
 cases rx
 obtain⟨z,hd,t,k,F⟩:=RZ I.hok B;obtain⟨ep,C⟩:=F.dictAt;have K:kvs.length=t.length:=k.length;have M:t.map (·.1)=kvs.map (·.1):=by
  clear ek z F C K B;unfold KV at k
  induction k with
  | nil=>rfl
  | cons h _ N=>rw[bC,bC,N,h.1]
 refine dz iW iC iD (iE _) ?_;unfold Builtin.«sorted»;ksr_p;refine aH<|gF (PySem.W.kdl_dict hd) (show X.A.in1.handled=none from I.ok.hd hc) C () λh' L acc J f=>?_;have al:acc.toList.length=t.length:=by rw[eF];exact f.1
 exact Gx (s:=s) (I.kept (t':=L) J) G (MH (P:=X.prog) (w:=X.w) (M.trans ek) al λj v e=>f.2 j v<|by rw[cH]at e;exact e) () q
end
end L2
namespace Am
open PySem PySem.Spec PyProof.Rows L2
abbrev S_:ae->Option (List<|Int×A)
 | []=>some []
 | .tup [.int k,x]::r=>(S_ r).map λps=>(k,x)::ps
 | _=>none
abbrev U3 (ps:List<|Int×A):List (Int×A):=ps.foldl (λacc p=>yh acc p.1 p.2) []
section
variable {K:au}{ρ:bb}{H:Hp}
def UP{x:A}(r:AVs K ρ H [x,y] vs):∃v w,vs=[v,w]/\AV K ρ H x v/\AV K ρ H y w:=by
 cases r with
 | cons h t=>cases t with
  | cons h' d=>cases d;exact⟨_,_,rfl,h,h'⟩
def MO{x:A}(e:S_ (x::xs)=some ps):∃k y ps',x=.tup [.int k,y]/\S_ xs=some ps'/\ps=(k,y)::ps':=by
 unfold S_ at e;split at e
 ·rename_i e2;cases e2
 ·rename_i k y r e2
  cases e2
  obtain⟨ps',h1,h2⟩:=aW.mp e;exact⟨_,_,_,rfl,h1,h2.symm⟩
 ·cases e
def abf:∀{xs:ae}{vs:List V}{ps:List<|Int×A},AVs K ρ H xs vs->S_ xs=some ps ->
  ∃(rs:bb) (qs:List<|Int×V),vs=rs.map V.ref/\rs.length=qs.length/\(∀(i:Nat) (r:ak) (q:Int×V),rs[i]?=some r->qs[i]?=some q->nO K H r [.int q.1,q.2]) /\
   ∀as bs,DI K ρ H as bs->DI K ρ H (ps.foldl (λacc p=>yh acc p.1 p.2) as) (qs.foldl (λacc p=>putK acc (Sum.inl p.1) p.2) bs):=by
 intro xs
 induction xs with
 | nil=>intro vs ps r e;cases r;cases e;exact⟨[],[],rfl,rfl,λi r q h=>by simp at h,λas bs h=>h⟩
 | cons x xs j=>
  intro vs ps r e;obtain⟨k,y,f,rfl,e1,rfl⟩:=MO e
  cases r with
  | cons h t=>
   obtain⟨rs,qs,rfl,B,z,g⟩:=j t e1
   cases h with
   | @tup a _ us h r=>
    obtain⟨v,w,rfl,h1,h2⟩:=UP r
    cases h1
    refine⟨a::rs,(k,w)::qs,rfl,by rw[bA,bA,B],λi r q e1 e2=>?_,λas bs d=>g _ _<|d.put h2 k⟩
    cases i with
    | zero=>cases e1;cases e2;exact nO.of h
    | succ i=>exact z i r q (by simpa using e1)<|by simpa using e2
end
section
variable {X:Cx}
abbrev DR (x:A)(S:jU):R A:=match x with
 | .ref n=>opt (jS S n) λxs=>opt (S_ xs) λps=>.ok (.ref S.length) (S++[.qQ<|U3 ps])
 | _=>.no
def Js(hc:X.calm=true):kP X (.type "dict") (rN X<|f1 DR):=kP.imp (G3 hc) λvs H Q h0=>by
 kd_p;clear h0
 cases hv with
 | ref q=>
  rename_i p n;kj_on;obtain⟨ps,hb,h⟩:=jY h;obtain⟨us,h1,r⟩:=R.lst q<|j_ hn;obtain⟨k,g,rfl,f,z,t⟩:=abf r hb;refine⟨p,k,g,rfl,qe.of h1,f,z,λl d=>?_⟩;obtain⟨ex,j,f⟩:=R.ZM (xs:=U3 ps) (vs:=ptP g) d<|t [] [] trivial;exact h _ _ _ ex j<|.ref f
 | _=>exact h.elim
def UO{ns:ag}{g:Nat->Nat}(c:Sx.Cl g 0 ns.length)(so:Sx.So (Uz ns) g 0 ns.length):(List.range ns.length).map (λi=>ns.getD (g i) 0)=sortI ns:=by
 refine Vg ?_ ?_ (AR ns)
 ·refine List.Perm.trans ?_ (sortI_perm ns).symm;have p:=uF (N:=ns.length) (g:=g) (λi k=>(c i (bK _) k).2) λi j d f z=>by
   have:=so i j (bK _) d f;rw[z]at this;exact this.Mu
  have:=p.map λi=>ns.getD i 0;rw[bg,range_getD]at this;exact this
 ·rw[b_];intro i j k f d;rw[aG,bR]at k f;rw[cQ,cQ,dM,dM];have:=eW (so i j (bK _) d f).ge
  lia
@[irreducible] noncomputable def big:Nat:=2 ^ 4096
theorem zz:big=2 ^ 4096:=by unfold big;rfl
def Ft{i:Int}(h:i.natAbs<big):Builtin.Int.intBits i<=2 ^ 20:=by
 rw[zz]at h;exact bJ (intBits_le h) ⋯
abbrev HY (a b:A)(S:jU):R A:=match a,b with
 | .int i,.int j=>gd (i.natAbs<big/\j.natAbs<big) (.ok (.int<|i * j) S)
 | _,_=>.no
def XU:oY X (binaryOp .Mult) (r2 X HY):=λpins s σ H x y v u Q I rx ry h9=>by
 z_go
 cases va with
 | int i=>cases vb with
  | int j=>
   obtain⟨⟨h1,h2⟩,h⟩:=kD h;obtain⟨t,rfl⟩:∃t,v=Value.int i t:=rx;obtain⟨d,rfl⟩:∃t,u=Value.int j t:=ry;exact mul_int ⟨.int _,H,I.tok _,⟨_,rfl⟩,h _ _ _ .refl R<|.int _⟩<|IntMulOk.of_bits (Ft h1)<|Ft h2
  | _=>exact h.elim
 | _=>exact h.elim
end
def ID:bootBuiltins "dict" = some (.type "dict"):=by decide +kernel
abbrev kA (p:Int×Int):A:=.ktu [.int p.1,.int p.2]
abbrev PD (K:au):af->Option (Int×Int)
 | .ref b=>match K.lookup b with
  | some ⟨.type "tuple",none,.seq its _,_⟩=>match its.toList with
   | [.int i _,.int j _]=>some (i,j)
   | _=>none
  | _=>none
 | _=>none
abbrev GP (K:au):ba->Option (List<|Int×Int)
 | []=>some []
 | v::vs=>(PD K v).bind λp=>(GP K vs).map λps=>p::ps
abbrev ZF (K:au)(a:ak):Option (List<|Int×Int):=match K.lookup a with
 | some ⟨.type "list",none,.seq its _,_⟩=>if its.size<=sizeLine then GP K its.toList else none
 | _=>none
def QV{K:au}{v:af}{p:Int×Int}(h:PD K v=some p):∃b,v=.ref b/\KTp K b [.int p.1,.int p.2]:=by
 unfold PD at h;split at h
 ·rename_i b;refine⟨b,rfl,?_⟩;split at h
  ·rename_i d n f e;split at h
   ·rename_i i t j u e2
    cases h
    refine⟨_,d,n,e,rfl,rfl,rfl,?_,?_⟩
    ·rw[<- eF,e2];show 2<=sizeLine;decide
    ·rw[e2];exact .cons ⟨t,rfl⟩<|.cons ⟨u,rfl⟩ .nil
   ·cases h
  ·cases h
 ·cases h
def LW{K:au}{H:Hp}:∀{vs:ba}{ps:List<|Int×Int},GP K vs=some ps->∃us:List V,Vals us vs/\AVs K ρ H (ps.map kA) us:=by
 intro vs
 induction vs with
 | nil=>intro ps h;cases h;exact⟨[],.nil,.nil⟩
 | cons v vs g=>
  intro ps h;obtain⟨p,h1,h⟩:=cz.mp h;obtain⟨j,h2,rfl⟩:=aW.mp h;obtain⟨us,h3,d⟩:=g h2;obtain⟨b,rfl,f⟩:=QV h1;exact⟨.ref b::us,.cons rfl h3,.cons (.ktu f<|.cons (.int _)<|.cons (.int _) .nil) d⟩
def Yr{K:au}{H:Hp}{a:ak}{ps:List<|Int×Int}(h:ZF K a=some ps):AV K ρ H (.frz<|ps.map kA) (.ref a):=by
 unfold ZF at h;split at h
 ·rename_i d n g e;split at h
  ·rename_i f;obtain⟨us,h1,h2⟩:=LW (ρ:=ρ) (H:=H) h;exact .frz (.inr ⟨_,d,n,e,rfl,rfl,rfl,f,h1⟩) h2
  ·cases h
 ·cases h
def NO{X:Cx}{x:Str}{a:ak}{ps:List<|Int×Int}(hm:X.mg x=some (.ref a))(hk:ZF X.K a=some ps)(hg:Gl X x:=by rfl)(hd:(x == ("__debug__" : Str))=false:=by decide):AE X (.Name x pos) (eC<|.frz<|ps.map kA):=
 PE.imp (JC (v:=.ref a) hg hm rfl hd) λσ H Q h9=>by
  x_go;exact h ρ H _ .refl R<|Yr hk
section
abbrev keA (p:ag×A):A:=.tup<|p.1.map .int
theorem JH{K:au}{H:Hp}:∀{kvs:List<|ag×A}{ks:List<|List Key×V},DV K ρ H kvs ks->ks.map (λp=>p.1)=(kvs.map Prod.fst).map (λks=>ks.map Sum.inl)
 | [],[],_=>rfl
 | a::kvs,b::ks,⟨z,t⟩=>by
  have:=JH t;show b.1::ks.map _=a.1.map Sum.inl::_;rw[this,z.1]
end
end Am
namespace L2
open PySem PySem.Spec PyProof.Rows
def EZ(ek ev tg iter:aE)(ifs:List aE)(scope:Scope)(pos:Pos)(it:af)(d:ak)(env:Env) :
  compTurn (.DictComp ek ev [⟨tg,iter,ifs,0⟩] scope pos) 0 it (.ref d) env=(do
   standAt iter.pos
   match <- pyNext it with
   | none=>pure (.done .next)
   | some v=>
    letOwnedTupleGo tg it v
    assign tg env v
    let mut ok:=true
    for c in ifs do
     if ok then ok <- isTrue c env (eval c env)
    if ok then
     (do
      let kv <- eval ek env
      let vv <- holding [kv] (eval ev env)
      standAt { ek.pos with endLine:=ev.pos.endLine,endCol:=ev.pos.endCol }
      holding [kv,vv] (dictSet d kv vv))
    again (.compLoop (.DictComp ek ev [⟨tg,iter,ifs,0⟩] scope pos) 0 it (.ref d) env)):=by rfl
section
variable {prog:aj}{w:ah}{A:aA}{R:Result->aC->Prop}{s:aC}
def wD{ev iter:aE}{rest:List Comprehension}{acc:af}{env:Env}
  (h0:codeAny (model prog w) A (.compLoop (.DictComp ek ev (⟨tg,iter,ifs,0⟩::rest) scope pos) 0 it acc env) R s)
  (h:wpAny (model prog w) A (pyIter it) (λit' s'=>codeAny (model prog w) A (.compLoop (.DictComp ek ev (⟨tg,iter,ifs,0⟩::rest) scope pos) 0 it' acc env) R s')
   (notedBy (model prog w) A env λx s'=>R (.error x) s') s) :
  codeAny (model prog w) A (.compStart (.DictComp ek ev (⟨tg,iter,ifs,0⟩::rest) scope pos) 0 it acc env) R s:=by
 refine codeAny_of_tree ?_;show wpAny _ _ ((compStart (.DictComp ek ev (⟨tg,iter,ifs,0⟩::rest) scope pos) 0 it acc env).onRaise λx=>do noteFrame x env;standAt theWindowsPlace) _ _ s;refine wpAny_notedAt ?_;unfold compStart;show wpAny _ _ (ask >>= _) _ _ s;refine aH<|wpAny_askSetting<|wpAny_ite ?_;split
 ·first
   | exact aH (aN<|aN<|anI rfl h0)
   | exact aN<|anI rfl h0
 ·first
   | exact aH (gq<|aH<|fy<|aH<|fN h (λit' s' h'=>aN<|anI rfl h') λ_ _ x=>x)
   | (refine aH<|gq ?_;show wpAny _ _ (standAt iter.pos >>= _) _ _ s;exact aH<|fy<|aH<|fN h (λit' s' h'=>aN<|anI rfl h') λ_ _ x=>x)
end
section
variable {X:Cx}{pins:bn}{σ:St}{H H':Hp}{s:aC}{a:ak}{y v:V}{u r:af}{A:aA}{E:af->aC->Prop}
def LR{Q:Unit->aC->Prop}(hu:A.units+1<cLine)(I:Inv X pins σ H s)(g:zk H a y v H')(ry:RelV y u)(rv:RelV v r)(h:∀s',Inv X pins σ H' s'->Q Unit.unit s') :
  wpAny (model X.prog X.w) A (dictSet a u r) Q E s:=by
 rcases g with⟨kvs,k,e,F,l,p⟩|⟨kvs,k,b,e,F,J,l,p⟩
 ·subst F p;obtain⟨z,t,M,d,C⟩:=RZ I.hok e;have j:M.length<=sizeLine:=by rw[<- d.length];exact z
  have B:(putK kvs k v).length<=sizeLine:=by have:=qy kvs k v;lia
  refine wpAny_dictSet_pairs (hsz:=j) (Bo ry) C λh' f hs=>h _ ?_;have N:∃q,h'.get? a=some q:=let⟨q,_,_,hq,_⟩:=f;⟨q,hq⟩
  exact uQ I (by rw[e];exact True.intro) hs N<|G1 B t (d.put k rv) f
 ·subst F p
  cases(show u=Value.ref b from ry)
  obtain⟨z,t,xs,d,C⟩:=A3 I.hok e;have j:xs.length<=sizeLine:=by rw[<- iR d];exact z
  have B:(putK kvs k v).length<=sizeLine:=by have:=qy kvs k v;lia
  refine wpAny_dictSet_heap (hsz:=j) (show A.units<cLine by lia) (uW I.hok J) C λh' f hs=>h _ ?_;obtain⟨q,es,ep,hq,h2,h3,K,_,L⟩:=f;refine uQ I (by rw[e];exact True.intro) hs ⟨q,hq⟩ ⟨B,t,_,(d.put k J rv).keeps λc ys G=>?_,q,es,ep,hq,h2,h3,K,L⟩;rw[j0<|II G e λz=>nomatch z];exact G
end
abbrev Wx (ob:HO)(cap:List<|bj)(g:TG)(tc:TT)(tk tv:TE)(σ:St)(Q:VK)(J:It)(H1:Hp):Prop:=∀D,H1 D=none ->
 ∃W:Nat->Nat->St->Hp->Prop,(∃m,W 0 m (cap.map<|UE σ)<|upd H1 D ob)/\∀i m j H',W i m j H' ->
  (J.stop i H'/\Q (.ref D) H')\/(J.go i H'/\∀x H2,J.yld i H' x H2->g x j H2 λd H3=>tc d H3 λb p=>
   if b=true then tk d p λy q=>tv d q λz t=>∃k,zk t D y z k/\∃f,f<m/\W (i+1) f d k
   else ∃f,f<m/\W (i+1) f d p)
abbrev tDC (ob:HO)(cap:List<|bj)(wi:TI)(g:TG)(tc:TT)(tk tv:TE):TE:=λσ H Q=>wi σ H<|Wx ob cap g tc tk tv σ Q
theorem Ig{ok:Cx->Prop}{X:Cx}{use:Option<|af->Sem Unit}{Q':af->aC->Prop}{iter ev:aE}{N:ar}{wi:TI}{g:TG}{tc:TT}{tk tv:TE}{ob:HO}(hob:∀{P:aj}{w:ah}{H:Hp}(h:aq),sysModules<h.objs.size->lC P w H (h.push { cls:=.type "dict",data:=.dict #[]}) h.objs.size ob)(hu:X.A.units+1<cLine)(S:CpScope X scope N cap)(hok:∀C s₀ H₀ ex,(∀a o u,X.H₀ a=some (.frz o u)->H₀ a=some (.frz o u))->ok (lE X scope N C s₀ H₀ ex))(hi:PIg ok X tg iter wi)
  (hg:∀C s₀ H₀ ex,PG (lE X scope N C s₀ H₀ ex) tg g) (ht:∀C s₀ H₀ ex,N7 (lE X scope N C s₀ H₀ ex) ifs tc) (hk:∀C s₀ H₀ ex,PE (lE X scope N C s₀ H₀ ex) ek tk) (hv:∀C s₀ H₀ ex,PE (lE X scope N C s₀ H₀ ex) ev tv)
  (hs:∀x,foldedSetIterable iter X.env x=pure x:=by intro _;rfl):∀(pins:bn) (s:aC) (σ:St) (H:Hp) (Q:VK),Inv X pins σ H s->tDC ob cap wi g tc tk tv σ H Q ->
  (∀(s6:aC) (C D:ak) (H5:Hp) (m:Str->bd),s6.heap.Ns C m->wu X pins H5 C->(∀h',Heap.SameBut C s6.heap h'->Inv X pins σ H5 { s6 with heap:=h' })->Q (.ref D) H5->∀v,compPost (model X.prog X.w) X.A X.xe use Q' (.ref D) C (.ok v) s6) ->
  wpAny (model X.prog X.w) X.A (comprehension (.DictComp ek ev [⟨tg,iter,ifs,0⟩] scope pos) scope X.env (firstIterPos [⟨tg,iter,ifs,0⟩] pos) newDict (firstAsync [⟨tg,iter,ifs,0⟩]) (firstIter [⟨tg,iter,ifs,0⟩] X.env) use) Q' X.xe s:=by
 intro pins s σ H Q I h hfin;kst_p;refine wpAny_comprehension_free (use:=use) rfl hs (zV hfree) S.kind S.nm<|nL (hi pins s σ H _ I h) λxv s1 h1=>nL h1 λitv f h2=>?_;obtain⟨it,fp,tn,J,H2,rfl,I2,T,st2,f2,h2⟩:=h2;refine cE<|Jp λU k old j=>?_;obtain⟨W,⟨m0,w0⟩,turn⟩:=h2 f.heap.objs.size I2.fresh;dsimp only at k old j ⊢;have I3:Inv X pins σ (upd H2 f.heap.objs.size ob) { f with heap:=f.heap.push { cls:=.type "dict",data:=.dict #[]}}:=I2.laid (a:=f.heap.objs.size) (o:=ob) (h':=f.heap.push { cls:=.type "dict",data:=.dict #[]}) (t':=f.toks) (λ_ _ q=>aS _ q) (aM _)<|hob f.heap I2.big;have hfp:∀b∈fp,∃o,f.heap.get? b=some o:=λb hb=>by
  obtain⟨o,e,_⟩:=T.obj 0 _ st2 b hb;exact⟨o,e⟩
 have neD:∀b∈fp,b≠f.heap.objs.size:=λb hb=>by
  obtain⟨o,e⟩:=hfp b hb;exact bD<|bq e
 have f3:∀b∈fp,wu X pins (upd H2 f.heap.objs.size ob) b:=λb hb=>⟨by rw[j0<|neD b hb];exact(f2 b hb).1,(f2 b hb).2⟩;have hDC:f.heap.objs.size≠(f.heap.push { cls:=.type "dict",data:=.dict #[]}).objs.size:=by rw[c_];exact bD (dN _)
 have I4:=MV (tk:=f.toks+([]:List<|Str×af).length) (fp:=fp) S I3 f3 (λb hb=>by
  obtain⟨o,e⟩:=hfp b hb;exact⟨o,aS _ e⟩) k j old
 have st4:tn 0 U:=T.keep _ _ _ st2 λb hb o e=>old b o<|aS _ e;have hc:=hok (f.heap.push { cls:=.type "dict",data:=.dict #[]}).objs.size { f with heap:=f.heap.push { cls:=.type "dict",data:=.dict #[]}} (upd H2 f.heap.objs.size ob) fp λa o u e=>by
  have z:=I2.base.frzs a o u e;rw[j0 λq=>by rw[q,I2.fresh]at z;cases z];exact z
 have K:∀{H':Hp},(∀b∈fp,H' b=none)->∀b∈fp,wu (lE X scope N (f.heap.push { cls:=.type "dict",data:=.dict #[]}).objs.size { f with heap:=f.heap.push { cls:=.type "dict",data:=.dict #[]}} (upd H2 f.heap.objs.size ob) fp) [] H' b:=λhn b hb=>by
  have ok:=I4.ok;refine⟨hn b hb,(ok.exf b hb).1,ok.exfs b hb,.inl hb,λx c e=>(ok.exf b hb).2 x c e,λp hp=>nomatch hp⟩
 have O:∀s4:aC,s4={ f with heap:=U,toks:=f.toks+([]:List<|Str×af).length } ->
   codeAny (model X.prog X.w) X.A (.compLoop (.DictComp ek ev [⟨tg,iter,ifs,0⟩] scope pos) 0 (.ref it) (.ref f.heap.objs.size)<|compEnvC scope (cellsFrom ((f.heap.push { cls:=.type "dict",data:=.dict #[]}).objs.size+1) scope.names<|wz X.env scope.names []) (f.heap.push { cls:=.type "dict",data:=.dict #[]}).objs.size X.env)
    (compPost (model X.prog X.w) X.A X.xe use Q' (.ref f.heap.objs.size) (f.heap.push { cls:=.type "dict",data:=.dict #[]}).objs.size) s4:=by
  rintro s4 rfl;refine codeAny_loop rfl (λn s'=>∃i G H',Inv (lE X scope N (f.heap.push { cls:=.type "dict",data:=.dict #[]}).objs.size { f with heap:=f.heap.push { cls:=.type "dict",data:=.dict #[]}} (upd H2 f.heap.objs.size ob) fp) [] G H' s'/\tn i s'.heap/\(∀b∈fp,H' b=none)/\W i n G H') (λn s5 hI=>?_) m0 ⟨0,_,_,I4,st4,λb hb=>(f3 b hb).1,w0⟩;obtain⟨i,M,H5,I5,st5,fr5,w5⟩:=hI;show wpAny _ X.A ((compTurn (.DictComp ek ev [⟨tg,iter,ifs,0⟩] scope pos) 0 (.ref it) (.ref f.heap.objs.size)<|compEnvC scope (cellsFrom ((f.heap.push { cls:=.type "dict",data:=.dict #[]}).objs.size+1) scope.names<|wz X.env scope.names []) (f.heap.push { cls:=.type "dict",data:=.dict #[]}).objs.size X.env).onRaise λx=>do noteFrame x _;theTreesLotGoes x) _ _ s5;refine wpAny_noted ?_;rw[EZ];refine aH (fy<|aH ?_)
  rcases turn i n M H5 w5 with⟨stop,q⟩|⟨go,step⟩
  ·refine nL (T.done (lE X scope N (f.heap.push { cls:=.type "dict",data:=.dict #[]}).objs.size { f with heap:=f.heap.push { cls:=.type "dict",data:=.dict #[]}} (upd H2 f.heap.objs.size ob) fp) rfl rfl rfl hc i [] s5 M H5 _ I5 (K fr5) st5 stop) λr s6 h9=>?_;obtain⟨hr,V⟩:=h9;subst hr;obtain⟨m6,hn6,_⟩:=V.loc;refine aN<|hfin s6 _ _ H5 m6 hn6 (I3.DH (aM _) V.free) (λh' sb=>?_) q _;have u6:=V.base;have nC:∀b o,(f.heap.push { cls:=.type "dict",data:=.dict #[]}).get? b=some o->b≠(f.heap.push { cls:=.type "dict",data:=.dict #[]}).objs.size:=λb o e=>bD<|bq e;refine I3.Ky (ch:=fp) V.os ⟨λb o e n hb Y=>?_,λb o e n hb Y=>?_,λb o e n Y=>?_,λb o e Y=>?_,u6.tups,u6.frzs,u6.tbls⟩ ?_ V.bare ?_
   ·exact sb.extBut b o (nC b o e) (u6.keep b o e n hb Y)
   ·obtain⟨sl,z⟩:=u6.slot b o e n hb Y;exact⟨sl,sb.extBut b _ (nC b o e) z⟩
   ·exact u6.free b o e n Y
   ·obtain⟨o',z⟩:=u6.there b o e Y;exact⟨o',sb.extBut b _ (nC b o e) z⟩
   ·intro b o e;have hb:∀c v,H5 c=some v->c≠(f.heap.push { cls:=.type "dict",data:=.dict #[]}).objs.size:=λc v e z=>by
     rw[z]at e;have:=V.free;rw[show H5 (f.heap.push { cls:=.type "dict",data:=.dict #[]}).objs.size=none from this]at e
     cases e
    refine(V.hok b o e).stay (λc v hc q=>sb.extBut c v ?_ q) (λ_ q=>q) λ_ _ q=>q
    rcases hc with z|z
    ·rw[z];exact hb b o e
    ·exact hb c _ z
   ·intro b hb;obtain⟨_,z1,_,z3,z4,z5⟩:=f3 b hb;exact⟨z3,z1,z4,z5⟩
  ·refine nL (T.item (lE X scope N (f.heap.push { cls:=.type "dict",data:=.dict #[]}).objs.size { f with heap:=f.heap.push { cls:=.type "dict",data:=.dict #[]}} (upd H2 f.heap.objs.size ob) fp) rfl rfl rfl hc i [] s5 M H5 _ I5 (K fr5) st5 go) λr s6 h9=>?_;obtain⟨u,hr,h6⟩:=h9;subst hr;refine aH<|nL h6 λ_ s7 ⟨x,H7,I7,r7,y7,Z,fr7⟩=>?_;have I7':=I7.pinned (K fr7)<|T.obj _ _ Z;refine aH<|ES (hg _ _ _ fp _ s7 M H7 x u _ I7' r7<|step x H7 y7) λ_ s8 ⟨B,H8,I8,q8⟩=>?_;refine aH<|ES (ht _ _ _ fp _ s8 B H8 _ I8 q8) λok s9 ⟨H9,I9,q9⟩=>?_;have again:∀{F:aC} {t:Hp},Inv (lE X scope N (f.heap.push { cls:=.type "dict",data:=.dict #[]}).objs.size { f with heap:=f.heap.push { cls:=.type "dict",data:=.dict #[]}} (upd H2 f.heap.objs.size ob) fp) ([]++yG fp s7.heap) B t F->(∃m',m'<n/\W (i+1) m' B t) ->
     ∃m,m<n/\∃i G H',Inv (lE X scope N (f.heap.push { cls:=.type "dict",data:=.dict #[]}).objs.size { f with heap:=f.heap.push { cls:=.type "dict",data:=.dict #[]}} (upd H2 f.heap.objs.size ob) fp) [] G H' F/\tn i F.heap/\(∀b∈fp,H' b=none)/\W i m G H':=λ{F t} L h9=>by
    obtain⟨m',hm,w10⟩:=h9;refine⟨m',hm,i+1,B,t,L.sd,T.keep _ _ _ Z λb hb o e=>(L.pin (b,o)<|bL _<|bL _<|nR hb e).1,λb hb=>?_,w10⟩;obtain⟨o,e,d⟩:=T.obj _ _ Z b hb;exact(L.pin (b,o)<|bL _<|bL _<|nR hb e).2.1
   cases ok with
   | false=>
    rw[aR bF]at q9;exact aN ⟨rfl,again I9 q9⟩
   | true=>
    rw[aV rfl]at q9;refine aH<|aH<|ES (hk _ _ _ fp _ s9 B H9 _ I9 q9) λy F ⟨v10,t,L,r10,q10⟩=>?_;refine aH<|cZ<|ES (hv _ _ _ fp _ F B t _ L q10) λz s11 ⟨v11,H11,I11,r11,H12,dp,w12⟩=>?_;refine aH<|fy<|cZ ?_;exact LR (X:=lE X scope N _ _ _ fp) hu I11 dp r10 r11 λs12 I12=>aN ⟨rfl,again I12 w12⟩
 exact wD (O _ rfl)<|T.self _ 0 _ _ _ st4<|O _ rfl
def BC{env:Env}(ek ev gens scope pos):eval (.DictComp ek ev gens scope pos) env =
  comprehension (.DictComp ek ev gens scope pos) scope env (firstIterPos gens pos) newDict (firstAsync gens) (firstIter gens env):=rfl
def Yw{ok:Cx->Prop}{X:Cx}{iter ev:aE}{N:ar}{wi:TI}{g:TG}{tc:TT}{tk tv:TE}{ob:HO}(hob:∀{P:aj}{w:ah}{H:Hp}(h:aq),sysModules<h.objs.size->lC P w H (h.push { cls:=.type "dict",data:=.dict #[]}) h.objs.size ob)(hu:X.A.units+1<cLine)(S:CpScope X scope N cap)(hok:∀C s₀ H₀ ex,(∀a o u,X.H₀ a=some (.frz o u)->H₀ a=some (.frz o u))->ok (lE X scope N C s₀ H₀ ex))(hi:PIg ok X tg iter wi)
  (hg:∀C s₀ H₀ ex,PG (lE X scope N C s₀ H₀ ex) tg g) (ht:∀C s₀ H₀ ex,N7 (lE X scope N C s₀ H₀ ex) ifs tc) (hk:∀C s₀ H₀ ex,PE (lE X scope N C s₀ H₀ ex) ek tk) (hv:∀C s₀ H₀ ex,PE (lE X scope N C s₀ H₀ ex) ev tv)
  (hs:∀x,foldedSetIterable iter X.env x=pure x:=by intro _;rfl):PE X (.DictComp ek ev [⟨tg,iter,ifs,0⟩] scope pos) (tDC ob cap wi g tc tk tv):=by
 gn_on;rw[BC];exact Ig (use:=none) (Q':=EP X pins σ Q) hob hu S hok hi hg ht hk hv hs pins s σ H Q I h λj C D d m hn k inv q v=>⟨m,hn,λh' f=>⟨.ref D,d,inv h' f,rfl,q⟩⟩
def aa6{X:Cx}{iter ev:aE}{N:ar}{wi:TI}{g:TG}{tc:TT}{tk tv:TE}{ob:HO}(hob:∀{P:aj}{w:ah}{H:Hp}(h:aq),sysModules<h.objs.size->lC P w H (h.push { cls:=.type "dict",data:=.dict #[]}) h.objs.size ob)(hu:X.A.units+1<cLine)(hc:X.calm=true)(S:CpScope X scope N cap)(hi:PI X tg iter wi)
  (hg:∀C s₀ H₀ ex,PG (lE X scope N C s₀ H₀ ex) tg g) (ht:∀C s₀ H₀ ex,N7 (lE X scope N C s₀ H₀ ex) ifs tc) (hk:∀C s₀ H₀ ex,PE (lE X scope N C s₀ H₀ ex) ek tk) (hv:∀C s₀ H₀ ex,PE (lE X scope N C s₀ H₀ ex) ev tv)
  (hs:∀x,foldedSetIterable iter X.env x=pure x:=by intro _;rfl):PE X (.DictComp ek ev [⟨tg,iter,ifs,0⟩] scope pos) (tDC ob cap wi g tc tk tv):=
 Yw hob hu S (λ_ _ _ _ _=>hc) hi.g hg ht hk hv hs
end L2
namespace Am
open PySem PySem.Spec PyProof.Rows L2
def Z6{α:Type}{c:Prop}[Decidable c]{r:R α}{a:α}(h:gd c r=.ok a S):c/\r=.ok a S:=by
 unfold gd at h;by_cases hc:c
 ·rw[aV hc]at h;exact⟨hc,h⟩
 ·rw[aR hc]at h;cases h
def Ov{α:Type}{l m:List α}{n:Nat}{p:α}(h:l <+: m)(e:l[n]?=some p):m[n]?=some p:=by
 obtain⟨t,rfl⟩:=h;rw[bB (aJ.mp e).1,e]
abbrev yQ (st:A->A->A->jU->R Unit)(s:Src)(g:Tg)(t:Te)(ek ev:Ex)(n:Nat):Nat->Nat->ae->jU->R (ae)
 | 0,_=>λτ S=>if s.fin S then .ok τ S else .no
 | k+1,i=>λτ S=>opt (s.get i S) λx=>(g x τ S).nJ λd S1=>(t d S1).nJ λb S2=>match b with
  | true=>(ek d S2).nJ λy S3=>(ev d S3).nJ λz f=>(st (.ref n) y z f).nJ λ_ j=>yQ st s g t ek ev n k (i+1) d j
  | false=>yQ st s g t ek ev n k (i+1) d S2
abbrev MI (o:O)(st:A->A->A->jU->R Unit)(cap:List<|bj)(src:Ic)(g:Tg)(t:Te)(ek ev:Ex):Ex:=λτ S=>(src τ S).bind λs S1=>(yQ st s g t ek ev S1.length s.k 0 (lG cap τ)<|S1++[o]).nJ λ_ S2=>.ok (.ref S1.length) S2
def Lq{st:A->A->A->jU->R Unit}{s:Src}{g:Tg}{t:Te}{ek ev:Ex}{n k:Nat}{T:Prop}(h:yQ st s g t ek ev n (k+1) i τ S=.ok τ' S')
  (q:∀x τ1 S1 b S2,s.get i S=some x->g x τ S=.ok τ1 S1->t τ1 S1=.ok b S2->(b=true->∃y S3 z S4 u S5,ek τ1 S2=.ok y S3/\ev τ1 S3=.ok z S4/\st (.ref n) y z S4=.ok u S5/\yQ st s g t ek ev n k (i+1) τ1 S5=.ok τ' S')->(b=false->yQ st s g t ek ev n k (i+1) τ1 S2=.ok τ' S')->T):T:=by
 obtain⟨x,f,h⟩:=C3 h;obtain⟨τ1,S1,h1,h⟩:=pI h;obtain⟨b,S2,h2,h⟩:=pI h;refine q x τ1 S1 b S2 f h1 h2 (λhb=>?_) λhb=>?_
 ·subst hb;obtain⟨y,S3,h3,h⟩:=pI h;obtain⟨z,S4,d,h⟩:=pI h;obtain⟨u,S5,j,h⟩:=pI h;exact⟨y,S3,z,S4,u,S5,h3,d,j,h⟩
 ·subst hb;exact h
structure DKind (K:au)(o:O)(ob:HO)(st:A->A->A->jU->R Unit):Prop where
 obj:∀{P:aj} {w:ah} {H:Hp} (h:aq),sysModules<h.objs.size->lC P w H (h.push { cls:=.type "dict",data:=.dict #[]}) h.objs.size ob
 new:∀{ρ:bb} {H:Hp} {S:jU} {p:ak},Rel K ρ H S->H p=none->Ext ρ (ρ++[p]) H (upd H p ob)/\Rel K (ρ++[p]) (upd H p ob) (S++[o])/\(ρ++[p])[S.length]?=some p
 put:∀{ρ:bb} {H:Hp} {S S':jU} {n:Nat} {p:ak} {y z:A} {vy vz:V} {u:Unit},Rel K ρ H S->ρ[n]?=some p->AV K ρ H y vy->AV K ρ H z vz->st (.ref n) y z S=.ok u S'->∃H',zk H p vy vz H'/\Ext ρ ρ H H'/\Rel K ρ H' S'
def P0{K:au}:DKind K (.dct []) (.dT []) n9:=by
 refine⟨λh hb=>Aq h hb,λR f=>R.aax (xs:=[]) (vs:=[]) f trivial,λ{ρ H S S' n p y z vy vz u} R f ay az h=>?_⟩;unfold n9 at h
 cases ay with
 | @tup q xs vs hq r=>
  obtain⟨kvs,hn,h⟩:=C3 h;obtain⟨ns,j,h⟩:=C3 h;obtain⟨k,h⟩:=Z6 h
  cases h
  obtain⟨ks,e,d⟩:=R.dct f<|mh hn;have z:=rD r j;subst z;rw[<- v8]at hq;obtain⟨ex,g⟩:=R.putD f (mh hn)<|d.put az ns;exact⟨_,zk.t e hq<|by rw[<- d.length];exact k,ex,g⟩
 | _=>cases h
section
variable {X:Cx}{pos:Pos}{tg iter ek ev:aE}{ifs:List aE}{scope:Scope}{N:ar}{cap:List (bj)}{src:Ic}{g:Tg}{t:Te}{ck cv:Ex}{o:O}{ob:HO}{st:A->A->A->jU->R Unit}
def M8(dk:DKind X.K o ob st)(σ:L2.St)(H:Hp)(Q:VK)(h:tE X (MI o st cap src g t ck cv) σ H Q):tDC ob cap (tI X src) (YV X.K g) (Wh X.K t) (Ss X.K ck) (Ss X.K cv) σ H Q:=by
 kl_no;refine⟨ρ,S,τ,R,r,jX (j5 h) .refl λs S1 h1 ρ1 H1 J e1 R1 jr D hD=>?_⟩;obtain⟨q,S2,hcg,h1⟩:=A8 h1;have h1:zN X ρ H Q (.ref S1.length) S2:=h1;obtain⟨eD,RD,G⟩:=dk.new R1 hD;refine⟨λi m O H'=>∃ρ' S' M,i+m=s.k/\Ext (ρ1++[D]) ρ' (upd H1 D ob) H'/\Rel X.K ρ' H' S'/\SR X.K ρ' H' M O/\yQ st s g t ck cv S1.length m i M S'=.ok q S2,⟨s.k,ρ1++[D],S1++[o],lG cap τ,(),.refl,RD,Wf ((r.ext e1).ext eD) cap,hcg⟩,?_⟩;rintro i m σ3 H3 ⟨ρ3,S3,L,hm,e3,R3,r3,d⟩;have T:ρ3[S1.length]?=some D:=Ov e3.pre G;have j:=eD.trans e3
 cases m with
 | zero=>
  left;have d:(if s.fin S3 then Am.R.ok L S3 else .no)=.ok q S2:=d
  cases hf:s.fin S3 with
  | false=>rw[hf]at d;cases d
  | true=>
   rw[hf]at d
   cases d
   exact⟨by rw[show i=s.k by lia];exact jr.stop _ H3 ρ3 j.toExt0 R3 hf,h1 ρ3 H3 _ (e1.trans j) R3<|.ref T⟩
 | succ m=>
  right;refine Lq d λx f S4 b Y hx hg4 Z hT hF=>?_;have jg:=jr.go i S3 H3 ρ3 x j.toExt0 R3 hx;refine⟨jg.1,λv H4 y=>?_⟩;obtain⟨e4,R4,v4⟩:=jg.2 v H4 y;refine⟨ρ3,S3,L,x,f,S4,R4,r3.ext e4,v4,hg4,λP H5 σ5 e5 R5 N=>⟨P,S4,f,b,Y,R5,N,Z,λC H6 F R6=>?_⟩⟩;have p:=(e4.trans e5).trans F
  cases b with
  | false=>
   dsimp only;rw[aR bF];exact⟨m,dN _,C,Y,f,(),e3.trans p,R6,N.ext F,hF rfl⟩
  | true=>
   dsimp only;rw[aV rfl];obtain⟨y,S6,z,S7,u,S8,hy,hz,hs,U⟩:=hT rfl;refine⟨C,Y,f,y,S6,R6,N.ext F,hy,λW H7 vy e7 R7 a7=>⟨W,S6,f,z,S7,R7,N.ext<|F.trans e7,hz,λρ8 H8 vz V R8 a8=>?_⟩⟩;have B:=(p.trans e7).trans V;obtain⟨H9,dp,e9,R9⟩:=dk.put R8 (Ov (e3.trans B).pre G) (a7.ext V) a8 hs;exact⟨H9,dp,m,dN _,ρ8,S8,f,(),(e3.trans B).trans e9,R9,N.ext<|((F.trans e7).trans V).trans e9,U⟩
def V9(dk:∀K,DKind K o ob st)(hu:X.A.units+64<cLine)(hc:X.calm=true)(Sc:CpScope X scope N cap)(hi:AI X tg iter src)(hg:∀C s₀ H₀ ex,AG (lE X scope N C s₀ H₀ ex) tg g)(ht:∀C s₀ H₀ ex,ZC (lE X scope N C s₀ H₀ ex) ifs t)(hk:∀C s₀ H₀ ex,AE (lE X scope N C s₀ H₀ ex) ek ck)(hv:∀C s₀ H₀ ex,AE (lE X scope N C s₀ H₀ ex) ev cv)
  (hs:∀x,foldedSetIterable iter X.env x=pure x:=by intro _;rfl):AE X (.DictComp ek ev [⟨tg,iter,ifs,0⟩] scope pos) (MI o st cap src g t ck cv):=
 PE.imp (aa6 (dk X.K).obj () hc Sc hi (g:=YV X.K g) (tc:=Wh X.K t) (tk:=Ss X.K ck) (tv:=Ss X.K cv) (λC s₀ H₀ ex=>(hg C s₀ H₀ ex).g0 rfl) (λC s₀ H₀ ex=>ht C s₀ H₀ ex) (λC s₀ H₀ ex=>(hk C s₀ H₀ ex).e0 rfl) (λC s₀ H₀ ex=>(hv C s₀ H₀ ex).e0 rfl) hs) (M8<|dk X.K)
end
end Am
namespace L2
open PySem PySem.Spec PyProof.Rows
def Nb{X:Cx}{i:Nat}{spos:Pos}{iter ev:aE}{N:ar}{wi:TI}{g:TG}{tc:TT}{tk tv:TE}{ob:HO}(hob:∀{P:aj}{w:ah}{H:Hp}(h:aq),sysModules<h.objs.size->lC P w H (h.push { cls:=.type "dict",data:=.dict #[]}) h.objs.size ob)(hu:X.A.units+1<cLine)
  (hN:X.N.Nodup) (hi':X.N[i]?=some y) (hx:Loc X.env.scope y) (hc:X.calm=true) (S:CpScope X scope N cap) (hi:PI X tg iter wi)
  (hg:∀C s₀ H₀ ex,PG (lE X scope N C s₀ H₀ ex) tg g) (ht:∀C s₀ H₀ ex,N7 (lE X scope N C s₀ H₀ ex) ifs tc) (hk:∀C s₀ H₀ ex,PE (lE X scope N C s₀ H₀ ex) ek tk) (hv:∀C s₀ H₀ ex,PE (lE X scope N C s₀ H₀ ex) ev tv)
  (hsw:swapsWith (.DictComp ek ev [⟨tg,iter,ifs,0⟩] scope pos) (some<|.Name y py) spos.line X.env=pure true)
  (hf:X.fn y=true\/X.env.scope.names.lookup y=some .local) (hs:∀x,foldedSetIterable iter X.env x=pure x:=by intro _;rfl) :
  PS X (.Assign [.Name y py] (.DictComp ek ev [⟨tg,iter,ifs,0⟩] scope pos) spos) (Nz (tDC ob cap wi g tc tk tv)<|H_ i):=by
 mg_lt;rw[exec_Assign_Name_used _ _ _ _ hsw];refine aH<|fy<|aH ?_;show wpAny _ X.A (do let _ <- comprehension (.DictComp ek ev [⟨tg,iter,ifs,0⟩] scope pos) scope X.env (firstIterPos [⟨tg,iter,ifs,0⟩] pos) newDict (firstAsync [⟨tg,iter,ifs,0⟩]) (firstIter [⟨tg,iter,ifs,0⟩] X.env) (some<|assign (.Name y py) X.env)) _ _ s;refine aH<|fN (Ig (ok:=λY=>Y.calm=true) (Q':=λ_ s'=>SP X pins D .next s') hob hu S (λ_ _ _ _ _=>hc) (PI.g hi) hg ht hk hv hs pins s σ H _ I h ?_) (λ_ s' hq=>aN<|aN hq) λ_ _ e=>e;intro p C F M m hn j inv q v;have T:=inv p.heap<|Heap.SameBut.refl _ _;obtain⟨G,f⟩:∃o,p.heap.get? C=some o/\∀v,o.data≠.cell v:=by
  obtain⟨o,es,ep,e,d,_⟩:=hn;exact⟨o,e,λv z=>by rw[d]at z;cases z⟩
 have O:=T.pinned (fp:=[C]) (λb hb=>by rw[aP]at hb;rw[hb];exact j) (λb hb=>by rw[aP]at hb;rw[hb];exact⟨G,f⟩);show wpAny _ X.A (assign (.Name y py) X.env<|.ref F) _ _ p;refine nL (DU hN hi' hx hf _ p σ M (.ref F) (.ref F) _ O rfl q) λ_ V h9=>?_;obtain⟨B,J,t,U⟩:=h9;have L:=t.pin (C,G)<|bL _<|bL _<|nR (aP.mpr rfl) f.1;refine⟨m,hn.at' λo e=>by rw[f.1]at e;cases e;exact L.1,λh' k=>?_⟩;have K:∀c v,J c=some v->c≠C:=λc v e z=>by rw[z,L.2.1]at e;cases e
 refine⟨B,J,?_,U⟩;refine t.sd.Ky (ch:=[C]) rfl ⟨λb o e n hb hx=>?_,λb o e n hb hx=>?_,λb o e n hx=>n,λb o e hx=>?_,λ_ _ e=>e,λ_ _ _ e=>e,λ_ _ e=>⟨#[],by rw[Array.append_empty];exact e⟩⟩ ?_ t.bare ?_
 ·exact k.extBut b o (by simpa using hx) e
 ·exact⟨o.slots,k.extBut b o (by simpa using hx) e⟩
 ·exact⟨o,k.extBut b o (by simpa using hx) e⟩
 ·intro b o e;refine(t.hok b o e).stay (λc v hc q=>k.extBut c v ?_ q) (λ_ q=>q) λ_ _ q=>q
  rcases hc with z|z
  ·rw[z];exact K b o e
  ·exact K c _ z
 ·intro b hb;rw[aP]at hb;rw[hb];exact⟨j.2.2.2.1,j.2.1,j.2.2.2.2.1,j.2.2.2.2.2⟩
end L2
namespace Am
open PySem PySem.Spec PyProof.Rows L2
section
variable {X:Cx}{pos:Pos}{tg iter ek ev:aE}{ifs:List aE}{scope:Scope}{N:ar}{cap:List (bj)}{src:Ic}{g:Tg}{t:Te}{ck cv:Ex}{o:O}{ob:HO}{st:A->A->A->jU->R Unit}
def Ql(dk:∀K,DKind K o ob st)(hu:X.A.units+64<cLine){i:Nat}{x:Str}{spos:Pos}(hN:X.N.Nodup)(hc:X.calm=true)(Sc:CpScope X scope N cap)(hi:AI X tg iter src)(hg:∀C s₀ H₀ ex,AG (lE X scope N C s₀ H₀ ex) tg g)(ht:∀C s₀ H₀ ex,ZC (lE X scope N C s₀ H₀ ex) ifs t)(hk:∀C s₀ H₀ ex,AE (lE X scope N C s₀ H₀ ex) ek ck)(hv:∀C s₀ H₀ ex,AE (lE X scope N C s₀ H₀ ex) ev cv)
  (hi':X.N[i]?=some x:=by rfl) (hx:Loc X.env.scope x:=by first|exact Or.inl rfl|exact Or.inr rfl)
  (hsw:swapsWith (.DictComp ek ev [⟨tg,iter,ifs,0⟩] scope pos) (some<|.Name x pos') spos.line X.env=pure true:=by rfl) (hf:X.fn x=true\/X.env.scope.names.lookup x=some .local:=by first|exact .inl rfl|exact .inr rfl|assumption)
  (hs:∀x,foldedSetIterable iter X.env x=pure x:=by intro _;rfl):AS X (.Assign [.Name x pos'] (.DictComp ek ev [⟨tg,iter,ifs,0⟩] scope pos) spos) (kM (MI o st cap src g t ck cv)<|kB i):=
 PS.imp (Nb (dk X.K).obj () hN hi' hx hc Sc hi (g:=YV X.K g) (tc:=Wh X.K t) (tk:=Ss X.K ck) (tv:=Ss X.K cv) (λC s₀ H₀ ex=>(hg C s₀ H₀ ex).g0 rfl) (λC s₀ H₀ ex=>ht C s₀ H₀ ex) (λC s₀ H₀ ex=>(hk C s₀ H₀ ex).e0 rfl) (λC s₀ H₀ ex=>(hv C s₀ H₀ ex).e0 rfl) hsw hf hs) λD σ H ⟨ρ,S,τ,R,r,h⟩=>
  M8 (dk X.K) σ H _ ⟨ρ,S,τ,R,r,jX (of_post h) .refl λa S1 h1 ρ1 H1 x e1 R1 v1=>h1 ρ1 H1 _ e1 R1<|(r.ext e1).set v1⟩
end
end Am
namespace L2
open PySem PySem.Spec PyProof.Rows
section
variable {X:Cx}{pins:bn}{σ:St}{H:Hp}{s:aC}{a:ak}{xs:List (nG×ak×af)}
def Wq{r:ak}{x:ag}(I:Inv X pins σ H s)(h:H r=some (.tup<|x.map V.int)):TK s.heap x r:=by
 obtain⟨_,d,f,o,h1,h2,_,n,h3⟩:=(show lC _ _ H s.heap r (.tup<|x.map V.int)from I.hok r _ h);exact⟨o,d.toArray,n,h1,h2,h3,by simpa using intsAre_of f⟩
def Ei{k:nG}(I:Inv X pins σ H s)(h:tZ H b k):wF s.heap k b:=by
 obtain⟨r1,r2,h1,h2,h3⟩:=h;obtain⟨_,j,g,o,e1,e2,_,n,e3⟩:=(show lC _ _ H s.heap b (.tup [.ref r1,.ref r2])from I.hok b _ h1);obtain⟨q,p,rfl,d,f⟩:=vals2 g
 cases d
 cases f
 exact⟨o,n,r1,r2,e1,e2,e3,Wq I h2,Wq I h3⟩
def V3(I:Inv X pins σ H s)(e:H a=some (.ext<|wV a xs))(hk:∀x∈xs,tZ H x.2.1 x.1):(a == sysModules)=false/\xs.length<=sizeLine/\s.heap.DictOfH (EI X.prog X.w) a xs:=by
 obtain⟨⟨h1,h2,o,es,ep,h3,f,d,k,j⟩,_⟩:=(show lC _ _ H s.heap a (.ext<|wV a xs)from I.hok a _ e);exact⟨h1,h2,o,es,ep,h3,f,d,k,λx g=>Ei I<|hk x g,j⟩
def Rr{P:aj}{w:ah}{H':Hp}{h':aq}(h1:(a == sysModules)=false)(h2:xs.length<=sizeLine)(dd:h'.DictOfH (EI P w) a xs):lC P w H' h' a (.ext<|wV a xs):=by
 obtain⟨o,es,ep,h3,g,d,z,_,t⟩:=dd;refine⟨⟨h1,h2,o,es,ep,h3,g,d,z,t⟩,⟨o,h3⟩,λB C f k=>?_⟩;obtain⟨j,p,o,es,ep,h3,q⟩:=f;exact⟨j,p,o,es,ep,k o h3,q⟩
structure DPg (H:Hp)(a b:ak)(xs:List (nG×ak×af))(k:nG):Prop where
 d:H a=some (.ext<|wV a xs)
 ks:∀x∈xs,tZ H x.2.1 x.1
 k:tZ H b k
def YK(hu:X.A.units+32<cLine):oY X (compareOp .In) (λy x H Q=>∃a b xs k,x=.ref a/\y=.ref b/\DPg H a b xs k/\Q (.bl (atKey xs k).isSome) H):=by
 intro pins s σ H y x v u Q I ry rx h;obtain⟨a,b,xs,k,rfl,rfl,g,q⟩:=h
 cases rx
 cases ry
 obtain⟨h1,h2,f⟩:=V3 I g.d g.ks;exact wpAny_in_heap (show X.A.in1.units+16<cLine by simp;lia) (Ei I g.k) h1 f ⟨.bl _,H,I.tok _,rfl,q⟩
def EG{xs:List<|nG×ak×af}{k:nG}:(storedH xs k b u).length<=xs.length+1:=by
 unfold storedH;split
 ·rw[aG];lia
 ·rw[aX];exact aM _
def Xu(hu:X.A.units+32<cLine):E2 X (λo i v H Q=>∃a b xs k,o=.ref a/\i=.ref b/\DPg H a b xs k/\xs.length<sizeLine/\∀u,RelV v u->Q (upd H a<|.ext<|wV a<|storedH xs k b u)):=by
 intro pins s σ H o i v F iv u Q I j p z h;obtain⟨a,b,xs,k,rfl,rfl,g,t,q⟩:=h
 cases j
 cases p
 obtain⟨h1,h2,B⟩:=V3 I g.d g.ks;refine wpAny_setItem_heap (hsz:=h2) (show X.A.in1.units+16<cLine by simp;omega) (Ei I g.k) B λh' f hs=>⟨_,?_,q u z⟩;have C:∃q,h'.get? a=some q:=let⟨q,_,_,hq,_⟩:=f;⟨q,hq⟩
 exact uQ I (by rw[g.d];exact True.intro) hs C<|Rr h1 (bJ EG t) f
abbrev WY:TE:=λ_ H Q=>∀p,H p=none->Q (.ref p) (upd H p<|.ext<|wV p [])
def M7:PE X (.Dict [] [] pos) WY:=λpins s σ H Q I h=>
 wpAny_Dict_empty ⟨.ref s.heap.objs.size,_,I.laid (a:=s.heap.objs.size) (o:=.ext<|wV s.heap.objs.size []) (t':=s.toks) (λ_ _ q=>aS _ q) (aM _)
  (Rr (c6.mpr<|cR<|bD I.big) (bK _) ⟨_,#[],0,bw _ rfl,⟨rfl,rfl,rfl⟩,rfl,rfl,(nofun),cY⟩),rfl,h _<|I.hok.fresh<|aM _⟩
end
end L2
namespace Am
open PySem PySem.Spec PyProof.Rows L2
abbrev qR (S:jU)(n:Nat):Option (List<|nG×A):=match S[n]? with
 | some (.vW xs)=>some xs
 | _=>none
def qA{n:Nat}(h:qR S n=some xs):S[n]?=some (.vW xs):=by
 unfold qR at h;split at h
 ·rename_i e;cases h;exact e
 ·cases h
def AD{S:jU}{n:Nat}(h:S[n]?=some (.vW xs)):qR S n=some xs:=by
 unfold qR;rw[h]
abbrev sI (kvs:List<|nG×A)(k:nG):Option A:=(kvs.find? λkv=>decide<|kv.1=k).map (·.2)
abbrev zo (kvs:List<|nG×A)(k:nG)(v:A):List (nG×A):=
 if (sI kvs k).isSome=true then kvs.map (λkv=>if kv.1=k then(kv.1,v)else kv)else kvs++[(k,v)]
abbrev E8 (x:A):Option nG:=match x with
 | .tup [.tup xs,.tup ys]=>(A.ints xs).bind λns=>(A.ints ys).map λd=>(ns,d)
 | _=>none
section
variable {K:au}{ρ:bb}{H:Hp}
def Lw{p:nG×A}{r:List<|nG×A}{k:nG}(e:p.1=k):sI (p::r) k=some p.2:=by simp[sI,cj,e]
def Me{p:nG×A}{r:List<|nG×A}{k:nG}(e:¬p.1=k):sI (p::r) k=sI r k:=by simp[sI,cj,e]
theorem DP.look:∀{kvs:List<|nG×A}{ks:List<|nG×ak×af}(k:nG),DP K ρ H kvs ks->(sI kvs k).isSome=(atKey ks k).isSome/\∀x,sI kvs k=some x->∃p v,atKey ks k=some p/\RelV v p.2/\AV K ρ H x v
 | [],[],k,_=>⟨rfl,λx h=>nomatch h⟩
 | p::r,q::r',k,⟨⟨e,_,v,rv,a⟩,t⟩=>by
  by_cases c:p.1=k
  ·have d:q.1=k:=by rw[e,c]
   have b:atKey (q::r') k=some q.2:=by simp[atKey,cj,d]
   rw[Lw c,b];exact⟨rfl,λx h=>by cases h;exact⟨_,v,rfl,rv,a⟩⟩
  ·have d:¬q.1=k:=λz=>c<|e.symm.trans z;have b:atKey (q::r') k=atKey r' k:=by simp[atKey,cj,d]
   rw[Me c,b];exact DP.look k t
theorem DP.repl{x:A}{v:V}(h:AV K ρ H x v)(rv:RelV v u)(k:nG):∀{kvs:List<|nG×A}{ks:List<|nG×ak×af},DP K ρ H kvs ks->DP K ρ H (kvs.map λkv=>if kv.1=k then(kv.1,x)else kv) (ks.map<|putAt k u)
 | [],[],_=>trivial
 | p::r,q::r',⟨⟨e,ka,z⟩,t⟩=>by
  refine⟨?_,DP.repl h rv k t⟩;dsimp only;unfold putAt;by_cases c:p.1=k
  ·rw[aV c,aV<|by rw[e,c]];exact⟨e,ka,v,rv,h⟩
  ·rw[aR c,aR λz=>c<|e.symm.trans z];exact⟨e,ka,z⟩
theorem DP.snoc{x:A}{v:V}(h:AV K ρ H x v)(rv:RelV v u)(k:nG)(hk:tZ H b k):∀{kvs:List<|nG×A}{ks:List<|nG×ak×af},DP K ρ H kvs ks->DP K ρ H (kvs++[(k,x)]) (ks++[(k,b,u)])
 | [],[],_=>⟨⟨rfl,hk,v,rv,h⟩,trivial⟩
 | p::r,q::r',⟨a,t⟩=>⟨a,DP.snoc h rv k hk t⟩
def DP.put{x:A}{v:V}(h:AV K ρ H x v)(rv:RelV v u)(k:nG)(hk:tZ H b k){ks:List<|nG×ak×af}(d:DP K ρ H kvs ks):DP K ρ H (zo kvs k x) (storedH ks k b u):=by
 unfold zo storedH;rw[<- (d.look k).1];by_cases c:(sI kvs k).isSome=true
 ·rw[aV c,aV c];exact DP.repl h rv k d
 ·rw[aR c,aR c];exact DP.snoc h rv k hk d
def DP.length:∀{kvs:List<|nG×A}{ks:List<|nG×ak×af},DP K ρ H kvs ks->kvs.length=ks.length
 | [],[],_=>rfl
 | _::_,_::_,⟨_,t⟩=>cV (·+1) t.length
def DP.keys:∀{kvs:List<|nG×A}{ks:List<|nG×ak×af},DP K ρ H kvs ks->∀x∈ks,tZ H x.2.1 x.1
 | [],[],_,x,h=>nomatch h
 | _::_,q::_,⟨⟨_,ka,_⟩,t⟩,x,h=>by
  rcases bH.mp h with z|z
  ·rw[z];exact ka
  ·exact t.keys x z
def Rel.vW{n:Nat}{a:ak}(R:Rel K ρ H S)(ha:ρ[n]?=some a)(hS:S[n]?=some (.vW xs)):∃vs,H a=some (.ext<|wV a vs)/\DP K ρ H xs vs:=R.at n a _ ha hS
def Rel.adu{S:jU}{p:ak}(R:Rel K ρ H S)(hp:H p=none):Ext ρ (ρ++[p]) H (upd H p<|.ext<|wV p [])/\Rel K (ρ++[p]) (upd H p<|.ext<|wV p []) (S++[.vW []])/\(ρ++[p])[S.length]?=some p:=by
 have ex:Ext ρ (ρ++[p]) H (upd H p<|.ext<|wV p []):=⟨⟨dY _ _,λa u _ h=>by rw[j0<|kh h hp];exact h⟩,λa u h _=>by rw[j0<|kh h hp];exact h,λa h=>by
  rcases bG.mp h with z|z
  ·exact .inl z
  ·have e:a=p:=by simpa using z
   rw[e];exact .inr hp⟩
 have j:p∉ρ:=R.F5 hp;have d:(ρ++[p])[S.length]?=some p:=by rw[<- R.len];simp
 refine⟨ex,⟨by simp[R.len],?_,?_⟩,d⟩
 ·rw[cy];f_are;have:b=p:=by simpa using hb
  exact j<|by rw[<- this,<- e];exact ha
 ·intro n a o h1 h2;by_cases hn:n<S.length
  ·rw[bB<|by rw[R.len];exact hn]at h1;rw[bB hn]at h2;have na:a≠p:=λz=>j (by rw[<- z];exact a_ h1);have:=R.at n a o h1 h2
   cases o with
   | lst ys=>obtain⟨f,e,q⟩:=this;exact⟨f,by rw[j0 na];exact e,q.ext ex⟩
   | dct _|qQ _|vW _=>obtain⟨f,e,q⟩:=this;exact⟨f,by rw[j0 na];exact e,q.ext ex⟩
   | dcf _=>obtain⟨g,f,e,q⟩:=this;exact⟨g,f,by rw[j0 na];exact e,q.ext ex⟩
   | ins _ _=>obtain⟨g,k,e⟩:=this;exact⟨g,k,by rw[j0 na];exact e⟩
  ·have e:n=S.length:=by
    have:=(aJ.mp h2).1;simp at this
    lia
   subst e;rw[d]at h1
   cases h1
   simp at h2;subst h2;exact⟨[],kQ,trivial⟩
def Rel.zo{S:jU}{n:Nat}{a:ak}(R:Rel K ρ H S)(ha:ρ[n]?=some a)(hS:S[n]?=some (.vW xs))(r:DP K ρ H ys ws):Ext ρ ρ H (upd H a<|.ext<|wV a ws)/\Rel K ρ (upd H a<|.ext<|wV a ws) (S.set n<|.vW ys):=by
 obtain⟨t,e,_⟩:=R.at n a _ ha hS;have ex:Ext ρ ρ H (upd H a<|.ext<|wV a ws):=⟨⟨dX _,λb u i h=>by
  have:b≠a:=by
   intro z;subst z;rw[e]at h;cases h;exact i
  rw[j0 this];exact h⟩,λb u h n=>by
  rw[j0 λz=>n<|by rw[z];exact a_ ha];exact h,λ_ h=>.inl h⟩
 refine⟨ex,by rw[bU];exact R.len,R.nd,λm b o h1 h2=>?_⟩;by_cases g:m=n
 ·subst g;rw[ha]at h1;cases h1;rw[bE (aJ.mp hS).1]at h2
  cases h2
  exact⟨ws,kQ,r.ext ex⟩
 ·rw[bM<|cR g]at h2;have nb:b≠a:=λz=>by
   subst z;obtain⟨p,e1⟩:=aJ.mp ha;obtain⟨B,e2⟩:=aJ.mp h1;exact g<|(cg R.nd).mp<|e2.trans e1.symm
  have:=R.at m b o h1 h2
  cases o with
  | lst ys=>obtain⟨d,f,q⟩:=this;exact⟨d,by rw[j0 nb];exact f,q.ext ex⟩
  | dct _|qQ _|vW _=>obtain⟨d,f,q⟩:=this;exact⟨d,by rw[j0 nb];exact f,q.ext ex⟩
  | dcf _=>obtain⟨j,d,f,q⟩:=this;exact⟨j,d,by rw[j0 nb];exact f,q.ext ex⟩
  | ins _ _=>obtain⟨j,k,f⟩:=this;exact⟨j,k,by rw[j0 nb];exact f⟩
def IJ{x:A}{v:V}{k:nG}(a:AV K ρ H x v)(h:E8 x=some k):∃b,v=.ref b/\tZ H b k:=by
 unfold E8 at h;split at h
 ·rename_i xs ys;obtain⟨ns,h1,h⟩:=cz.mp h;obtain⟨B,h2,e⟩:=aW.mp h;subst e
  cases a with
  | @tup b _ C hb r=>
   obtain⟨t,z,rfl,p,g⟩:=Ux r
   cases p with
   | @tup c1 _ j d r1=>
    cases g with
    | @tup c2 _ f q r2=>
     have e1:=rD r1 h1;have e2:=rD r2 h2;subst e1 e2;exact⟨b,rfl,c1,c2,hb,d,q⟩
 ·cases h
end
section
variable {X:Cx}{pos:Pos}{a b:aE}
abbrev BH (neg:Bool)(x y:A)(S:jU):R A:=match y with
 | .ref n=>opt (qR S n) λkvs=>opt (E8 x) λk=>.ok (.bl<|if neg then !(sI kvs k).isSome else(sI kvs k).isSome) S
 | _=>.no
def aaC(hu:X.A.units+64<cLine):oY X (compareOp .In) (r2 X<|BH false):=λpins s σ H x y v u Q I rx ry h9=>by
 z_go
 cases vb with
 | @ref p n j=>
  kln_w;obtain⟨k,f,h⟩:=jY h;obtain⟨ks,e,d⟩:=R.vW j<|qA hn;obtain⟨q,rfl,g⟩:=IJ va f;exact YK () pins s σ H _ _ v u Q I rx ry ⟨p,q,ks,k,rfl,rfl,⟨e,d.keys,g⟩,by rw[<- (d.look k).1];exact h _ _ _ .refl R<|.bl _⟩
 | _=>exact h.elim
abbrev Fo (o i v:A)(S:jU):R Unit:=match o with
 | .ref n=>opt (qR S n) λkvs=>opt (E8 i) λk=>gd (kvs.length<sizeLine) (.ok Unit.unit<|S.set n<|.vW<|zo kvs k v)
 | _=>.no
abbrev adt (X:Cx):GC:=λo i v H Q=>∃ρ S ao f d,Rel X.K ρ H S/\AV X.K ρ H ao o/\AV X.K ρ H f i/\AV X.K ρ H d v/\(Fo ao f d S).post (λ_ g=>∀ρ' H',Ext ρ ρ' H H'->Rel X.K ρ' H' g->Q H') (XE X ρ H)
def Vi(hu:X.A.units+64<cLine):E2 X (adt X):=λpins s σ H o i v C iv u Q I t z G h9=>by
 obtain⟨ρ,S,ao,M,K,R,h1,h2,h3,h⟩:=h9
 cases h1 with
 | @ref p n g=>
  kln_w;obtain⟨k,J,h⟩:=jY h;obtain⟨F,h⟩:=kD h;obtain⟨ks,e,d⟩:=R.vW g<|qA hn;obtain⟨q,rfl,f⟩:=IJ h2 J;refine Xu (by omega) pins s σ H _ _ v C iv u Q I t z G ⟨p,q,ks,k,rfl,rfl,⟨e,d.keys,f⟩,by rw[<- d.length];exact F,λL B=>?_⟩;obtain⟨ex,j⟩:=R.zo g (qA hn)<|d.put h3 B k f;exact h _ _ ex j
 | _=>exact h.elim
abbrev SW (co ci:Ex):Tg:=λa τ S=>(co τ S).bind λo S1=>(ci τ S1).bind λi S2=>(Fo o i a S2).bind λ_ S3=>.ok τ S3
def Ik(hu:X.A.units+64<cLine){co ci:Ex}(ho:AE X o co)(hi:AE X i ci)
  (ha:∀v,assign (.Subscript o i pos) X.env v=(do
   let ov <- holding [v] (eval o X.env)
   let iv <- holding [v,ov] (eval i X.env)
   standAt pos
   holding [v,ov,iv] (setItem ov iv v)
   release [v,ov,iv] []):=by intro _;rfl):AG X (.Subscript o i pos) (SW co ci):=PG.imp (D4 ho hi (Vi hu) ha) λv σ H Q h9=>by
 obtain⟨ρ,S,τ,a,R,r,va,h⟩:=h9;k_ne;gp_on;kpf_c
abbrev GR:Ex:=λ_ S=>.ok (.ref S.length)<|S++[.vW []]
def PK:AE X (.Dict [] [] pos) GR:=PE.imp M7 λσ H Q ⟨ρ,S,τ,R,r,h⟩ p f=>by
 obtain⟨ex,d,g⟩:=R.adu f;exact h _ _ _ ex d<|.ref g
end
abbrev Hv {α:Type}(x:ag×α):List (ag×α)->List (ag×α)
 | []=>[x]
 | y::ys=>if HT.lexLt y.1 x.1=true then y::Hv x ys else x::y::ys
abbrev Ak {α:Type}:List (ag×α)->List (ag×α)
 | []=>[]
 | x::xs=>Hv x<|Ak xs
section
variable {α:Type}
theorem BV(x:ag×α):∀ys:List<|ag×α,(Hv x ys).Perm (x::ys)
 | []=>eX _
 | y::ys=>by
  unfold Hv;by_cases h:HT.lexLt y.1 x.1=true
  ·rw[aV h];exact((BV x ys).cons y).trans (List.Perm.swap x y ys)
  ·rw[aR h]
theorem wX:∀xs:List<|ag×α,(Ak xs).Perm xs
 | []=>eX _
 | x::xs=>(BV x<|Ak xs).trans<|(wX xs).cons x
theorem FZ(x:ag×α):∀ys:List<|ag×α,(Hv x ys).map Prod.fst=Ea x.1 (ys.map Prod.fst)
 | []=>rfl
 | y::ys=>by
  unfold Hv;rw[bC];unfold Ea;by_cases h:HT.lexLt y.1 x.1=true
  ·rw[aV h,aV h,bC,FZ]
  ·rw[aR h,aR h];rfl
theorem B8:∀xs:List<|ag×α,(Ak xs).map Prod.fst=kR (xs.map Prod.fst)
 | []=>rfl
 | x::xs=>by
  show(Hv x<|Ak xs).map Prod.fst=Ea x.1 (kR<|xs.map Prod.fst);rw[FZ,B8]
theorem C7:∀{l:List<|ag×α},(l.map Prod.fst).Nodup->∀a∈l,∀b∈l,a.1=b.1->a=b
 | [],_,_,h,_,_,_=>nomatch h
 | x::l,nd,a,ha,b,hb,e=>by
  obtain⟨h1,h2⟩:=bX.mp nd
  rcases bH.mp ha with j|f
  ·rcases bH.mp hb with g|d
   ·rw[j,g]
   ·subst j;exact absurd (e ▸ cu d) h1
  ·rcases bH.mp hb with g|d
   ·subst g;exact absurd (e ▸ cu f) h1
   ·exact C7 h2 a f b d e
def Gu{xs ys:List<|ag×α}(nd:(ys.map Prod.fst).Nodup)(p:xs.Perm ys)(h:(xs.map Prod.fst).Pairwise Di):xs=Ak ys:=by
 refine d8 (le:=λ(a b:ag×α)=>Di a.1 b.1) (λ(a b:ag×α) ha hb h1 h2=>C7 nd a (p.mem_iff.mp ha) b ((wX ys).mem_iff.mp hb) (Sx.xP (show HT.lexLt b.1 a.1=false from h1)<|show HT.lexLt a.1 b.1=false from h2).symm) ?_ ?_ (p.trans (wX ys).symm)
 ·exact cL.mp h
 ·have:=vA<|ys.map Prod.fst;rw[<- B8]at this;exact cL.mp this
end
end Am
namespace L2
open PySem PySem.Spec PyProof.Rows
section
variable {X:Cx}
def Y4{H:Hp}{s:aC}{d:ak}{kvs:List<|List Key×V}(I:Inv X pins σ H s)(ed:Rd H d<|.dT kvs) :
  ∃(ob:Obj) (es:Array DictEntry) (ep:Nat) (rs:bb),s.heap.get? d=some ob/\ob.cls=.type "dict" /\ ob.data=.dict es ep/\(d == sysModules)=false/\kvs.length<=sizeLine/\rs.length=kvs.length/\es.size=kvs.length /\
   (∀i:Nat,(es[i]?).map (λe:DictEntry=>e.key)=(rs[i]?).map Value.ref)/\∀(i:Nat) r p,rs[i]?=some r->kvs[i]?=some p->H r=some (.tup<|p.1.map kV):=by
 obtain⟨z,C,xs,g,F⟩:=Ao I.hok ed;obtain⟨ob,es,ep,B,G,t,k,L,K⟩:=id F;obtain⟨j,q⟩:=kt_at g;have f:es.size=xs.length:=by have:=cV List.length k;simpa using this
 refine⟨ob,es,ep,xs.map λy=>y.2.1,B,G.1,t,C,z,by rw[aG,j],by rw[f,j],λi=>?_,λi r p e1 e2=>?_⟩
 ·rw[<- cH,k,aO,aO,dJ,dJ]
  cases xs[i]?<;>rfl
 ·obtain⟨y,h1,h2,h3,J⟩:=q i p e2;rw[aO,h1]at e1
  cases e1
  exact h3
def Dg(hc:X.calm=true):kP X (.builtin "sorted") (λxs H Q=>∃(d:ak) (kvs:List<|List Key×V) (kss:List<|ag),xs=[.ref d]/\Rd H d (.dT kvs)/\kvs.map (λp=>p.1)=kss.map (λks=>ks.map Sum.inl)/\(∀ks∈kss,ks≠[])/\Sx.RO kss.length /\
  ∀(rs:bb) l g,rs.length=kss.length->(∀(i:Nat) (r:ak) (ks:ag),rs[i]?=some r->kss[i]?=some ks->H r=some (.tup<|ks.map V.int))->H l=none->Sx.Cl g 0 kss.length->Sx.So (Sx.uO kss) g 0 kss.length ->
   Q (.ref l) (upd H l<|.lst<|((List.range kss.length).map λi=>rs.getD (g i) 0).map V.ref)):=by
 fin2;obtain⟨d,kvs,kss,rfl,G,ek,k,F,q⟩:=h;kcj_m
 cases rx
 obtain⟨ob,es,ep,rs,M,W,J,T,B,z,N,L,K⟩:=Y4 I G;have t:kvs.length=kss.length:=by have:=cV List.length ek;simpa using this
 have C:∀(i:Nat) (r:ak) (ks:ag),rs[i]?=some r->kss[i]?=some ks->H r=some (.tup<|ks.map V.int):=λi r ks e1 e2=>by
  have lt:i<kvs.length:=by rw[t];exact(aJ.mp e2).1
  have h1:=K i r kvs[i] e1 (aI lt);have h2:(kvs.map λp=>p.1)[i]?=(kss.map λks=>ks.map Sum.inl)[i]?:=by rw[ek]
  rw[aO,aO,e2,aI lt]at h2;have h3:kvs[i].1=ks.map Sum.inl:=br h2;rw[h3,bg]at h1;exact h1
 refine dz iW iC iD (iE _) ?_;unfold Builtin.«sorted»;ksr_p;refine aH (gF (KU T W J) (show X.A.in1.handled=none from I.ok.hd hc) M (by rw[N];exact B) λh' O acc U f=>?_);have P:acc.toList=rs.map Value.ref:=by
  refine dS λj=>?_;rw[cH,aO,<- L j]
  cases e:acc[j]? with
  | some v=>exact(f.2 j v e).symm
  | none=>
   have:acc.size<=j:=gu.mp e;rw[dR<|by rw[<- f.1];exact this];rfl
 rw[P];exact yk (s:=s) (I.kept (t':=O) U) F (by rw[z,t]) (by rw[z];exact B) (λi r ks e1 e2=>⟨nO.of<|C i r ks e1 e2,k ks<|a_ e2⟩) λl g h1 h2 h3=>q rs l g (by rw[z,t]) C h1 h2 h3
end
end L2
namespace Am
open PySem PySem.Spec PyProof.Rows L2
section
variable {X:Cx}{pos:Pos}{a b:aE}
abbrev mz (S:jU)(n:Nat):Option (List<|ag×A):=match S[n]? with
 | some (.dct kvs)=>some kvs
 | some (.dcf kvs)=>some kvs
 | _=>none
def Jy{K:au}{H:Hp}{n:Nat}{p:ak}(R:Rel K ρ H S)(hp:ρ[n]?=some p)(hn:mz S n=some kvs):∃ks,Rd H p (.dT ks)/\DV K ρ H kvs ks:=by
 unfold mz at hn;split at hn
 ·rename_i h
  cases hn
  obtain⟨ks,e,d⟩:=R.at n p _ hp h;exact⟨ks,.inl e,d⟩
 ·rename_i h
  cases hn
  obtain⟨o,ks,e,d⟩:=R.at n p _ hp h;exact⟨ks,.inr ⟨o,e⟩,d⟩
 ·cases hn
def ED{H:Hp}{p q:ak}{n:Nat}{ns:ag}(R:Rel X.K ρ H S)(hp:ρ[n]?=some p)(hn:mz S n=some kvs)(hq:H q=some (.tup vs))(r:AVs X.K ρ H xs vs)(hi:A.ints xs=some ns) :
  ∃ks,DV X.K ρ H kvs ks/\uX H p (.ref q) (qX ks<|ns.map Sum.inl):=by
 obtain⟨ks,e,d⟩:=Jy R hp hn;have z:=rD r hi;subst z;rw[<- v8]at hq;exact⟨ks,d,.inr ⟨ks,ns.map Sum.inl,q,e,rfl,hq,rfl⟩⟩
abbrev OC (x y:A)(S:jU):R A:=match x,y with
 | .ref n,.tup xs=>opt (mz S n) λkvs=>opt (A.ints xs) λns=>opt (kW kvs ns) λv=>.ok v S
 | _,_=>.no
def ZT(hu:X.A.units+64<cLine):Uq X (r2 X OC):=λj f pins s σ H x y v u Q I rx ry ⟨ρ,S,a,b,R,va,vb,h⟩ hs=>by
 cases va with
 | @ref p n C=>
  cases vb with
  | @tup q xs F hq r=>
   kln_w;obtain⟨ns,B,h⟩:=jY h;obtain⟨z,k,h⟩:=jY h;obtain⟨ks,d,g⟩:=ED R C hn hq r B;obtain⟨w,hw,t⟩:=(d.look ns).2 z k;rw[hw]at g;exact DM () j f pins s σ H _ _ v u Q I rx ry ⟨p,w,rfl,g,h _ _ _ .refl R t⟩ hs
  | _=>exact h.elim
 | _=>exact h.elim
def WT(hu:X.A.units+64<cLine){ca cb:Ex}(ha:AE X a ca)(hb:AE X b cb)(hs:xH b:=by exact λ_ _=>rfl):AE X (.Subscript a b pos) (j4 OC ca cb):=PE.imp (Jr (ZT hu) ha hb hs) λσ H Q h=>ux h
abbrev Lj (neg:Bool)(x y:A)(S:jU):R A:=match x,y with
 | .tup xs,.ref n=>opt (mz S n) λkvs=>opt (A.ints xs) λns=>.ok (.bl<|if neg then !(kW kvs ns).isSome else(kW kvs ns).isSome) S
 | _,_=>.no
def ZL(hu:X.A.units+64<cLine):oY X (compareOp .In) (r2 X<|Lj false):=λpins s σ H x y v u Q I rx ry h9=>by
 z_go
 cases va with
 | @tup q xs k hq r=>
  cases vb with
  | @ref p n f=>
   kln_w;obtain⟨ns,j,h⟩:=jY h;obtain⟨ks,d,g⟩:=ED R f hn hq r j;exact Xx () pins s σ H _ _ v u Q I rx ry ⟨p,_,rfl,g,by rw[<- (d.look ns).1];exact h _ _ _ .refl R<|.bl _⟩
  | _=>exact h.elim
 | _=>exact h.elim
def Rel.ZK{K:au}{H:Hp}{S:jU}{n:Nat}{a:ak}{ks:List<|List Key×V}(R:Rel K ρ H S)(ha:ρ[n]?=some a)(hS:S[n]?=some (.dct xs))(d:DV K ρ H xs ks):Ext ρ ρ H (upd H a<|.frz o<|.dT ks)/\Rel K ρ (upd H a<|.frz o<|.dT ks) (S.set n<|.dcf xs):=by
 obtain⟨ex,R2⟩:=R.gone (o:=o) (u:=.dT ks) ha hS;refine⟨ex,by rw[bU];exact R.len,R.nd,λm b ob h1 h2=>?_⟩;by_cases f:m=n
 ·subst f;rw[ha]at h1;cases h1;rw[bE (aJ.mp hS).1]at h2
  cases h2
  exact⟨o,ks,kQ,d.ext ex⟩
 ·rw[bM<|cR f]at h2;exact R2.at m b ob h1<|by rw[bM<|cR f];exact h2
abbrev ac7 (a:A)(S:jU):R Src:=match a with
 | .ref n=>opt (kc S n) λkvs=>.ok (qO<|kvs.map keA) (S.set n<|.dcf kvs)
 | _=>.no
abbrev EV (c:Ex):Ic:=λτ S=>(c τ S).bind λa S1=>ac7 a S1
def Gg{e:aE}{c:Ex}(ha:AE X e c):AI X tg e (EV c):=λpins s σ H Q I h9=>by
 x_go;refine US ha pins s σ H Q I ⟨ρ,S,τ,R,r,jX (j5 h) .refl λx S1 h1 ρ1 H1 v e1 R1 v1=>?_⟩
 cases v1 with
 | @ref p n z=>
  obtain⟨kvs,hn,h1⟩:=jY h1;obtain⟨ks,J,k⟩:=R1.dct z<|mh hn;refine⟨p,ks,rfl,J,λo d pl j=>?_⟩;obtain⟨ex,R2⟩:=R1.ZK (o:=o) z (mh hn) k;have dl:=k.length;refine h1 ρ1 _ _ (e1.trans ex) R2 ⟨λi S2 H2 ρ2 y e2 R3 g=>?_,λS2 H2 ρ2 e2 R3 _=>⟨?_,e2.im _ _ trivial kQ⟩⟩
  ·have g:(kvs.map keA)[i]?=some y:=g;rw[aO]at g;obtain⟨kv,L,rfl⟩:=aW.mp g;obtain⟨q,hq,K,N⟩:=VJ k L;have t:i<d.length:=by rw[pl];exact(aJ.mp hq).1
   have F:=j i d[i] q (aI t) hq;refine⟨⟨⟨d[i],aI t⟩,e2.im _ _ trivial kQ⟩,λM H' G=>?_⟩;obtain⟨rfl,C⟩:=G;have f:=C _<|aI t;subst f;have B:H' d[i]=some (.tup<|q.1.map kV):=e2.im _ _ trivial<|ex.toExt0.im _ _ trivial F;rw[K,v8]at B;exact⟨.refl,R3,.tup B<|rY _⟩
  ·show(kvs.map keA).length=d.length;rw[aG,dl,pl]
 | _=>exact h1.elim
end
end Am
namespace Sx
open PySem PyProof.Rows
open PySem.AutoSeq1 (wpAny_loadPart')
open PySem.MeetsSeq PySem.MeetsSeq2 PySem.MeetsSeq3
def UQ(l:ak)(items:Array af)(n:Nat)(dd:Option ak)(sl:Array<|bd)(k:Nat):∀i:Nat,items.size-i=k->i<=items.size->Meets (Builtin.«list.__eq__.loop» ⟨[.ref l,.ref l,rawInt i,rawInt 0],[]⟩)
  (λA R s=>s.heap.get? l=some { cls:=.type "list",dict:=dd,data:=.seq items n,slots:=sl }/\R (.ok<|.ret<|.bool false) s):=by
 induction k with
 | zero=>
  intro i p h1 prog w A R s h;obtain⟨q,g,d,t,j⟩:=s;obtain⟨f,h⟩:=h;have hv:false=decide (items.size<items.size):=(bz ()).symm;rw[hv]at h
  wp_walk using dg f
  have e1:items[((i:Nat):Int).toNat]?=none:=by simp;lia
  rw[e1]
  wp_walk using dg f
  exact h
 | succ k z=>
  intro i p h1 prog w A R s h;obtain⟨q,g,d,t,j⟩:=s;obtain⟨f,h⟩:=h;obtain⟨v,e1⟩:∃v,items[((i:Nat):Int).toNat]?=some v:=⟨items[i]'(),by rw[cU];exact dB ()⟩
  wp_walk using dg f
  rw[e1];refine aH<|SeqAt.EqAt.same v prog w _ _ ?_;have hc:((i:Int)+1)=((i+1:Nat):Int):=by push_cast;rfl
  wp_walk
  rw[hc];exact⟨iS plain_eq_loop _,fV entry_eq_loop (by
   rw[d9 plain_eq_loop _];exact z (i+1) () () prog w A R _ ⟨f,h⟩)⟩
def OQ(l b:ak)(items items2:Array af)(n n2:Nat)(dd dd2:Option ak)(sl sl2:Array<|bd)(u v:af)(e1:items[0]?=some u)(e2:items2[0]?=some v)(r:Bool) :
  Meets (Builtin.«list.__eq__.loop» ⟨[.ref l,.ref b,rawInt ((0:Nat):Int),rawInt 0],[]⟩)
   (λA R s=>s.heap.get? l=some { cls:=.type "list",dict:=dd,data:=.seq items n,slots:=sl }/\s.heap.get? b=some { cls:=.type "list",dict:=dd2,data:=.seq items2 n2,slots:=sl2 }/\SeqAt.EqAt A.in1 s u v false /\
    (∀(prog:aj) (w:ah) (E:af->aC->Prop) (Q:af->aC->Prop),Q (.bool r) s->wpAny (model prog w) A.in1 (richCompare .Lt u v) Q E s)/\R (.ok<|.ret<|.bool r) s):=by
 intro prog w A R s h;obtain⟨q,g,d,t,z⟩:=s;obtain⟨j,hb,p,k,h⟩:=h;have e1:items[((0:Nat):Int).toNat]?=some u:=e1;have e2:items2[((0:Nat):Int).toNat]?=some v:=e2
 wp_walk using dg j,dg hb
 rw[e1,e2];refine aH (p prog w _ _ ?_)
 wp_walk using dg j,dg hb
 rw[e1,e2];have f:=k prog w
 wp_walk using f
 exact h
def E4(l b:ak)(items items2:Array af)(n n2:Nat)(dd dd2:Option ak)(sl sl2:Array<|bd)(P:PySem.Spec)
  (hm:Meets (Builtin.«list.__eq__.loop» ⟨[.ref l,.ref b,rawInt ((0:Nat):Int),rawInt 0],[]⟩) P) :
  Meets (Builtin.«list.__lt__» ⟨[.ref l,.ref b],[]⟩)
   (λA R s=>s.heap.get? l=some { cls:=.type "list",dict:=dd,data:=.seq items n,slots:=sl }/\s.heap.get? b=some { cls:=.type "list",dict:=dd2,data:=.seq items2 n2,slots:=sl2 }/\P A R s):=by
 intro prog w A R s h;obtain⟨j,g,d,k,p⟩:=s;obtain⟨f,hb,h⟩:=h;have f3:=AutoSeq1.sub_list_list
 wp_walk using dg f,dg hb
 exact⟨iS plain_eq_loop _,fV entry_eq_loop (by
  rw[d9 plain_eq_loop _];exact hm prog w A R _ h)⟩
section
variable {prog:aj}{w:ah}{A:aA}{E:af->aC->Prop}{s:aC}
def ME{l k:ak}{r:Bool}{Q:Bool->aC->Prop}(hl:s.heap.IsList l xs)(hk:s.heap.IsList k ys)(hu:A.units<cLine)
  (hc:(l=k/\r=false)\/∃u v,xs[0]?=some u/\ys[0]?=some v/\∀B:aA,B.units<=A.units+4->SeqAt.EqAt B s u v false/\∀(prog:aj) (w:ah) (E:af->aC->Prop) (Q:af->aC->Prop),Q (.bool r) s->wpAny (model prog w) B (richCompare .Lt u v) Q E s)
  (h:Q r s):wpAny (model prog w) A (keyLt' oneType' (.ref l)<|.ref k) Q E s:=by
 rw[keyLt'_oneType,oneLt'_eq];dsimp[fq];obtain⟨⟨cls,z,data,C⟩,d,q,n,K⟩:=id hl;obtain⟨⟨L,g,J,f⟩,j,p,G,t⟩:=id hk;simp only at q K p t;subst q K p t;refine aH (wpAny_cRoomFor hu ?_)
 rcases hc with⟨rfl,rfl⟩|⟨u,v,e1,e2,hc⟩
 ·refine aH<|wpAny_callSpecialIfBound?_slot (T := "list") (id := "list.__lt__") ⟨_,d,rfl⟩ gv<|fQ gv ⟨_,d,rfl⟩ PySem.F.entry_list_lt (PySem.F.args_list_lt_2 _ _) (E4 l l xs ys n G z g C f _<|UQ l xs n z C _ 0 rfl<|bK _) ⟨d,j,d,?_⟩;exact cT h
 ·refine aH (wpAny_callSpecialIfBound?_slot (T := "list") (id := "list.__lt__") ⟨_,d,rfl⟩ gv<|fQ gv ⟨_,d,rfl⟩ PySem.F.entry_list_lt (PySem.F.args_list_lt_2 _ _) (E4 l k xs ys n G z g C f _<|OQ l k xs ys n G z g C f u v e1 e2 r) ⟨d,j,d,j,(hc _ ?_).1,(hc _ ?_).2,?_⟩)
  ·show A.units+_<=_;lia
  ·show A.units+_<=_;lia
  ·exact cT h
theorem ints_get:∀{xs:ba}{ns:ag},IntsAre xs ns->xs.length=ns.length/\∀j (h:j<xs.length),∃t,xs[j]=.int (ns.getD j 0) t
 | _,_,.nil=>⟨rfl,λj h=>absurd h<|eB _⟩
 | _,_,.cons n t h=>⟨by rw[bA,bA,(ints_get h).1],λj d=>by
  cases j with
  | zero=>exact⟨t,rfl⟩
  | succ j=>exact(ints_get h).2 j (by simpa using d)⟩
def abi:∀{ns ms:ag},ns≠ms->((List.range<|min ns.length ms.length).all (λj=>ns.getD j 0 == ms.getD j 0) && ns.length == ms.length)=false
 | ns,ms,h=>by
  cases e:((List.range<|min ns.length ms.length).all (λj=>ns.getD j 0 == ms.getD j 0) && ns.length == ms.length)with
  | false=>rfl
  | true=>
   rw[fH,fJ]at e;have d:ns.length=ms.length:=by simpa using e.2
   refine absurd (List.ext_getElem d λj h1 h2=>?_) h;have:=e.1 j<|cF.mpr ();rw[aK,aI h1,aK,aI h2]at this;simpa using this
def Ug{B:aA}{l:ak}{xs ys:ba}{ns:ag}(hl:IsTup s.heap l xs.toArray)(hb:IsTup s.heap b ys.toArray)(hi:IntsAre xs ns)(hj:IntsAre ys ms)(hu:B.units<cLine)(hn:ns≠ms)(hlb:l≠b):SeqAt.EqAt B s (.ref l) (.ref b) false:=by
 obtain⟨f,d⟩:=ints_get hi;obtain⟨g,k⟩:=ints_get hj;have:=SeqAt.RcAt.tuples (e:=λj=>ns.getD j 0 == ms.getD j 0) hl hb hu λj h1 h2=>by
  obtain⟨t,e1⟩:=d j (by simpa using h1);obtain⟨u,e2⟩:=k j (by simpa using h2);rw[List.getElem_toArray,List.getElem_toArray,e1,e2];exact SeqAt.EqAt.int_int _ t _ u
 rw[aZ,aZ,f,g,abi hn]at this;exact .of_refs hlb this
end
end Sx
namespace L2
open PySem PySem.Spec PyProof.Rows
section
variable {X:Cx}
def A9{s:aC}{H:Hp}{Q:VK}{h':aq}{tk:Nat}{rs:bb}{kss:List<|ag}(hu:X.A.units+64<cLine)(I1:Inv X pins σ H { s with heap:=h',toks:=tk })(ro:Sx.RO kss.length)(hlen:rs.length=kss.length)(hz:rs.length<=sizeLine)(hnd:kss.Nodup)
  (hT:∀(i:Nat) (r:ak) (ks:ag),rs[i]?=some r->kss[i]?=some ks->∃(t:ak) (vs:List V),qe X.K H r (.ref t::vs)/\nO X.K H t (ks.map V.int))
  (q:∀l g,H l=none->Sx.Cl g 0 kss.length->Sx.So (Sx.uO kss) g 0 kss.length->Q (.ref l) (upd H l<|.lst<|((List.range kss.length).map λi=>rs.getD (g i) 0).map V.ref)) :
  wpAny (model X.prog X.w) X.A.in1 (do
   let l <- newList (rs.map Value.ref)
   let _ <- holding [l] (call (Value.builtin "list.sort") [l] [])
   ret l) (λfin s'=>∃v,fin=Fin.done (Flow.ret v)/\EP X pins σ Q v s') X.xe { s with heap:=h',toks:=tk }:=by
 have L:(rs.map Value.ref).length=kss.length:=by rw[aG,hlen]
 refine aH<|jx ?_;have k:(h'.push<|seqObj "list" (rs.map Value.ref).toArray 0).get? h'.objs.size=some (seqObj "list" (rs.map Value.ref).toArray 0):=bw _ rfl;show wpAny _ _ _ _ _ { s with toks:=tk,heap:=h'.push<|seqObj "list" (rs.map Value.ref).toArray 0};have old:∀(r:ak) (o:Obj),h'.get? r=some o->(Sx.DY (h'.push<|seqObj "list" (rs.map Value.ref).toArray 0) h'.objs.size<|rs.map Value.ref).get? r=some o:=λr o F=>by
  have lt:r<h'.objs.size:=bq F;rw[Sx.IB (bD lt)<|by rw[c_];exact dQ lt];exact aS _ F
 have lst:∀(i:Nat) (r:ak) (ks:ag),rs[i]?=some r->kss[i]?=some ks->∃(t:ak) (xs:ba) (f:ba),nO X.K H t (ks.map V.int)/\IntsAre f ks/\IsTup (Sx.DY (h'.push<|seqObj "list" (rs.map Value.ref).toArray 0) h'.objs.size<|rs.map Value.ref) t f.toArray /\
   (Sx.DY (h'.push<|seqObj "list" (rs.map Value.ref).toArray 0) h'.objs.size<|rs.map Value.ref).IsList r (Value.ref t::xs).toArray:=λi r ks e1 e2=>by
  obtain⟨t,vs,h1,h2⟩:=hT i r ks e1 e2;obtain⟨us,rv,pl,_⟩:=I1.list h1;obtain⟨f,rt,⟨o,F,hc,n,hd⟩,_⟩:=I1.tuple h2;obtain⟨o2,O,P,n2,T⟩:=pl.isList
  cases rv with
  | cons a b=>
   have ea:_=Value.ref t:=a;subst ea;exact⟨t,_,f,h2,intsAre_of rt,⟨o,old _ _ F,hc,n,hd⟩,⟨o2,old _ _ O,P,n2,T⟩⟩
 refine aH (cZ<|cD slot_list_sort ⟨_,k,rfl⟩ entry_list_sort (Sx.yR (o:=Sx.uO kss) (kd:=oneType') k (by rw[L];lia) (by rw[L];exact ro) (λh2 Y M=>?_) (λh2 i j d J E' Y M=>?_) λg hc hs=>⟨_,rfl,?_⟩)<|args_list_sort _)
 ·refine Sx.G8 (λz=>by rw[z]at h2;simp at h2) (λv hv=>?_) M;obtain⟨i,d⟩:=iV hv;rw[aO]at d;obtain⟨r,W,rfl⟩:=aW.mp d;have lt:=(aJ.mp W).1;obtain⟨_,_,_,_,_,_,h3⟩:=lst i r _ W (aI<|show i<kss.length by lia);exact⟨r,_,rfl,h3⟩
 ·rw[L]at d J;have e1:rs[i]?=some (rs[i]'()):=aI _;have e2:rs[j]?=some (rs[j]'()):=aI _;have k1:kss[i]?=some kss[i]:=aI d;have k2:kss[j]?=some kss[j]:=aI J;obtain⟨t1,x1,s1,a1,Z,c1,d1⟩:=lst i _ _ e1 k1;obtain⟨t2,x2,s2,a2,b2,c2,d2⟩:=lst j _ _ e2 k2;have v1:(rs.map Value.ref).getD i .none=.ref (rs[i]'()):=by rw[aK,aO,e1];rfl
  have v2:(rs.map Value.ref).getD j .none=.ref (rs[j]'()):=by rw[aK,aO,e2];rfl
  show wpAny _ _ (keyLt' oneType' ((rs.map Value.ref).getD i .none)<|(rs.map Value.ref).getD j .none) Y E' _;rw[v1,v2];have f1:kss.getD i []=kss[i]:=by rw[aK,k1];rfl
  have f2:kss.getD j []=kss[j]:=by rw[aK,k2];rfl
  have lt:(Sx.uO kss).lt i j=HT.lexLt kss[i] kss[j]:=by show HT.lexLt _ _=_;rw[f1,f2]
  rw[lt]at M;have un:X.A.in1.units=X.A.units+1:=rfl;refine Sx.ME d1 d2 (by show X.A.units+1+1<_;lia) ?_ M;by_cases C:i=j
  ·subst C;exact .inl ⟨rfl,Sx.zL _⟩
  ·have p:kss[i]≠kss[j]:=(Nat.lt_or_gt_of_ne C).elim (λh=>b_.mp hnd i j d J h) λh z=>b_.mp hnd j i J d h z.symm;have U:t1≠t2:=λz=>by
    subst z;have:=I1.vX a1 a2;exact p<|List.map_inj_right (λa b h=>V.int.inj h) |>.mp this
   refine .inr ⟨_,_,rfl,rfl,λB G=>?_⟩;have G:B.units<cLine:=by have:B.units<=X.A.units+1+1+4:=G;lia
   exact⟨Sx.Ug c1 c2 Z b2 G p U,λprog w E Q h=>HT.G_ c1 c2 Z b2 G h⟩
 ·rw[L]at hc hs ⊢;obtain⟨e,he⟩:=sortedHeap_at (out:=((List.range kss.length).map λi=>(rs.map Value.ref).getD (g i) .none).toArray) k;have old:∀b ob,h'.get? b=some ob->(sortedHeap (h'.push<|seqObj "list" (rs.map Value.ref).toArray 0) h'.objs.size (rs.map Value.ref) ((List.range kss.length).map λi=>(rs.map Value.ref).getD (g i) .none).toArray).get? b=some ob:=λb ob N=>by
   rw[sortedHeap_old (bD<|bq N)<|by rw[c_];exact dQ<|bq N];exact aS _ N
  refine aN ⟨_,rfl,.ref h'.objs.size,_,I1.laid (t':=tk) (o:=.lst<|((List.range kss.length).map λi=>rs.getD (g i) 0).map V.ref) old (aM _) ?_,rfl,q _ g (I1.hok.fresh<|aM _) hc hs⟩;refine⟨by rw[aG,aG,bR];lia,((List.range kss.length).map λi=>rs.getD (g i) 0).map Value.ref,e,yo _,?_⟩;rw[he];congr 2;rw[bg];congr 1;refine bW λi d=>?_;have:=(hc i (bK _)<|cF.mp d).2;have lt:g i<rs.length:=()
  show(rs.map Value.ref).getD (g i) .none=Value.ref (rs.getD (g i) 0);rw[aK,aO,aI lt,aK,aI lt];rfl
def CC(hu:X.A.units+64<cLine):kP X (.builtin "sorted") (λxs H Q=>∃(p:ak) (rs:bb) (kss:List<|ag),xs=[.ref p]/\qe X.K H p (rs.map V.ref)/\Sx.RO kss.length/\rs.length=kss.length/\kss.Nodup /\
  (∀(i:Nat) (r:ak) (ks:ag),rs[i]?=some r->kss[i]?=some ks->∃(t:ak) (vs:List V),qe X.K H r (.ref t::vs)/\nO X.K H t (ks.map V.int)) /\
  ∀l g,H l=none->Sx.Cl g 0 kss.length->Sx.So (Sx.uO kss) g 0 kss.length->Q (.ref l) (upd H l<|.lst<|((List.range kss.length).map λi=>rs.getD (g i) 0).map V.ref)):=by
 fin2;obtain⟨p,rs,kss,rfl,hq,z,d,f,C,q⟩:=h;kcj_m
 cases rx
 obtain⟨N,L,pl,k⟩:=I.list hq;have G:=tQ L;subst G;obtain⟨o,B,j,n,F⟩:=pl.isList;rw[aG]at k;have J:(rs.map Value.ref).length=kss.length:=by rw[aG,d]
 refine dz iW iC iD (iE _) ?_;unfold Builtin.«sorted»;ksr_p;refine aH<|wpAny_collect_seq p (.inl rfl) B j F (λh' M=>A9 (s:=s) hu (I.kept (t':=s.toks) M) z d k f C q)<|by rw[aZ,J];lia
end
end L2
namespace Am
open PySem PySem.Spec PyProof.Rows L2
abbrev fsH:Option (ae)->Option (ag)
 | some (.tup ys::_)=>A.ints ys
 | _=>none
abbrev X9 (S:jU):ae->Option (List<|ag)
 | []=>some []
 | .ref n::r=>(fsH<|jS S n).bind λks=>(X9 S r).map λd=>ks::d
 | _=>none
def ZV{K:au}{H:Hp}(R:Rel K ρ H S){n:Nat}{a:ak}{ks:ag}(hp:ρ[n]?=some a)(e:fsH (jS S n)=some ks):∃(t:ak) (vs:List V),qe K H a (.ref t::vs)/\nO K H t (ks.map V.int):=by
 cases e1:jS S n with
 | none=>rw[e1]at e;cases e
 | some ys=>
  rw[e1]at e;obtain⟨us,h1,r⟩:=R.lst hp (j_ e1)
  cases r with
  | nil=>cases e
  | cons h t=>
   cases h with
   | tup d rx=>
    have:=rD rx e;subst this;exact⟨_,_,qe.of h1,nO.of d⟩
   | _=>cases e
theorem Qe{K:au}{H:Hp}(R:Rel K ρ H S):∀{xs:ae}{vs:List V}{kss:List<|ag},AVs K ρ H xs vs->X9 S xs=some kss ->
  ∃rs:bb,vs=rs.map V.ref/\rs.length=kss.length/\xs.length=kss.length/\(∀(i:Nat) (r:ak) (ks:ag),rs[i]?=some r->kss[i]?=some ks->∃(t:ak) (vs:List V),qe K H r (.ref t::vs)/\nO K H t (ks.map V.int))/\∀(i:Nat) (r:ak) (x:A),rs[i]?=some r->xs[i]?=some x->AV K ρ H x (.ref r)
 | [],_,_,.nil,e=>by cases e;exact⟨[],rfl,rfl,rfl,λi r ks h=>by simp at h,λi r x h=>by simp at h⟩
 | x::xs,_,kss,.cons h t,e=>by
  cases h with
  | ref p=>
   rename_i a n;have q:((fsH<|jS S n).bind λks=>(X9 S xs).map λrs=>ks::rs)=some kss:=e;obtain⟨ks,e3,C⟩:=cz.mp q;obtain⟨k,J,rfl⟩:=aW.mp C;obtain⟨rs,rfl,F,z,B,hv⟩:=Qe R t J;refine⟨a::rs,rfl,by rw[bA,bA,F],by rw[bA,bA,z],λi j g f d=>?_,λi j G f d=>?_⟩
   ·cases i with
    | zero=>
     cases f
     cases d
     exact ZV R p e3
    | succ i=>exact B i j g (by simpa using f)<|by simpa using d
   ·cases i with
    | zero=>
     cases f
     cases d
     exact .ref p
    | succ i=>exact hv i j G (by simpa using f)<|by simpa using d
  | _=>cases e
section
variable {X:Cx}
abbrev LB (xs:ae)(S:jU):R A:=opt (X9 S xs) λkss=>if kss.Nodup/\kss.length<64 then .ok (.ref S.length) (S++[.lst<|(M3 kss).map λi=>xs.getD i .non])else .no
abbrev GL (x:A)(S:jU):R A:=match x with
 | .ref n=>opt (jS S n) λxs=>LB xs S
 | _=>.no
def SE{xs:ae}{S:jU}{kss:List<|ag}(h:X9 S xs=some kss)(nd:kss.Nodup)(h64:kss.length<64):LB xs S=.ok (.ref S.length) (S++[.lst<|(M3 kss).map λi=>xs.getD i .non]):=by
 unfold LB;rw[h];exact aV ⟨nd,h64⟩
def JO{H H0:Hp}{Q:VK}(R:Rel X.K ρ H S)(r:AVs X.K ρ H xs vs)(e:Ext ρ0 ρ H0 H)(h:(LB xs S).post (zN X ρ0 H0 Q)<|XE X ρ0 H0) :
  ∃(rs:bb) (kss:List<|ag),vs=rs.map V.ref/\Sx.RO kss.length/\rs.length=kss.length/\kss.Nodup /\
  (∀(i:Nat) (r:ak) (ks:ag),rs[i]?=some r->kss[i]?=some ks->∃(t:ak) (vs:List V),qe X.K H r (.ref t::vs)/\nO X.K H t (ks.map V.int)) /\
  ∀l g,H l=none->Sx.Cl g 0 kss.length->Sx.So (Sx.uO kss) g 0 kss.length->Q (.ref l) (upd H l<|.lst<|((List.range kss.length).map λi=>rs.getD (g i) 0).map V.ref):=by
 obtain⟨kss,hb,h⟩:=jY h;by_cases nd:kss.Nodup/\kss.length<64
 ·rw[aV nd]at h;obtain⟨rs,rfl,p,q,j,hv⟩:=Qe R r hb;refine⟨rs,kss,rfl,Sx.Vf nd.2,p,nd.1,j,λl g d hc hs=>?_⟩;have k:AVs X.K ρ H ((M3 kss).map λi=>xs.getD i .non) (((List.range kss.length).map λi=>rs.getD (g i) 0).map V.ref):=by
   rw[<- aaU hc hs,bg,bg];refine Au λi f=>?_;have lt:=(hc i (bK _)<|cF.mp f).2;have e1:rs[g i]?=some (rs.getD (g i) 0):=by rw[aK,aI ()];rfl
   have e2:xs[g i]?=some (xs.getD (g i) .non):=by rw[aK,aI ()];rfl
   exact hv _ _ _ e1 e2
  exact o4 R k e h l d
 ·rw[aR nd]at h;exact h.elim
def S9(hu:X.A.units+64<cLine):kP X (.builtin "sorted") (rN X<|f1 GL):=kP.imp (CC hu) λz H Q h0=>by
 kd_p;clear h0
 cases hv with
 | ref k=>
  rename_i p n;kj_on;obtain⟨us,h1,r⟩:=R.lst k<|j_ hn;obtain⟨j,d,rfl,f,g,nd,t,q⟩:=JO R r .refl h;exact⟨p,j,d,rfl,qe.of h1,f,g,nd,t,q⟩
 | _=>exact h.elim
end
end Am
namespace L2
open PySem PySem.Spec PyProof.Rows
section
variable {P:aj}{w:ah}{A:aA}{E:af->aC->Prop}{s:aC}{it d:ak}{i ep:Nat}{es:Array DictEntry}{o:Obj}
def Xm{Q:bd->aC->Prop}(hi:s.heap.IsValIter it d i es.size ep)(ho:s.heap.get? d=some o)(hd:o.data=.dict es ep)(lt:i<es.size)
  (q:∀h',h'.IsValIter it d (i+1) es.size ep->Heap.SameBut it s.heap h'->Q (some es[i].val) { s with heap:=h' }):wpAny (model P w) A (pyNext<|.ref it) Q E s:=by
 have ty:=hi.typeIs;obtain⟨B,g,p,f⟩:=id hi;have own:Builtin.Dict_items.ownsTuple "dict_valueiterator" = false:=by decide
 have z:¬((Value.ref d == Value.none)=true):=bF;have t:¬((i:Int)<0):=()
 unfold pyNext;refine aH<|iT<|dO (name:=Str.ofString "__next__") ty cO<|cD cO ty gB ?_<|gw _;refine aH<|aN<|aH<|aH ?_;refine aH<|eg ty<|aN<|aH<|gr g f ?_;dsimp[own,cK,bI];show wpAny (model P w) _ (if (Value.ref d == Value.none)=true then _ else _) _ _ s;rw[aR z];refine aH<|aN<|aH<|fu ho hd ?_;rw[aR<|show ¬_ by simp];refine aH<|aN<|aH<|fX ho hd ?_;rw[aR<|show ¬_ by simp];refine aN ?_;dsimp[t,cK,cU,dB lt];refine aH<|aH<|eg ty<|aN<|aH<|iN ty ?_;show wpAny (model P w) _ (setField (.ref it) 1 (rawInt<|(i:Int)+1) >>= _) _ _ s;refine aH (gp g f (show _ by simp) ?_);have j:(s.heap.update it<|Obj.mapFields λfs=>fs.setIfInBounds 1<|rawInt<|(i:Int)+1).IsValIter it d (i+1) es.size ep:=
  ⟨_,f_ _ g<|iJ<|eU f _,(jq ..).trans p,by
   rw[eU f];simp[rawInt]⟩
 have k:Shared.TypeIs { s with heap:=s.heap.update it<|Obj.mapFields λfs=>fs.setIfInBounds 1<|rawInt<|(i:Int)+1} (.ref it) "dict_valueiterator" := Heap.IsValIter.typeIs (s:={ s with heap:=_ }) j;refine aH<|cZ<|aH<|iN k<|aH<|iN k ?_;show wpAny (model P w) _ (pure es[i].val) _ _ _;exact aN<|aN ⟨_,rfl,aN<|q _ j<|eG ..⟩
def TH{Q:bd->aC->Prop}(hh:A.handled=none)(hi:s.heap.IsValIter it d i es.size ep)(ho:s.heap.get? d=some o)(hd:o.data=.dict es ep)(ge:es.size<=i)
  (q:∀h',Heap.ExtBut it s.heap h'->Q none { s with heap:=h' }):wpAny (model P w) A (pyNext<|.ref it) Q E s:=by
 have ty:=hi.typeIs;obtain⟨t,g,j,f⟩:=id hi;have own:Builtin.Dict_items.ownsTuple "dict_valueiterator" = false:=by decide
 have p:¬((Value.ref d == Value.none)=true):=bF;have k:¬((i:Int)<0):=()
 unfold pyNext;refine aH<|iT<|dO (name:=Str.ofString "__next__") ty cO<|cD cO ty gB ?_<|gw _;refine aH<|aN<|aH<|aH ?_;refine aH<|eg ty<|aN<|aH<|gr g f ?_;dsimp[own,cK,bI];show wpAny (model P w) _ (if (Value.ref d == Value.none)=true then _ else _) _ _ s;rw[aR p];refine aH<|aN<|aH<|fu ho hd ?_;rw[aR<|show ¬_ by simp];refine aH<|aN<|aH<|fX ho hd ?_;rw[aR<|show ¬_ by simp];refine aN ?_;dsimp[k,cK,cU,dR ge];refine aH<|aH<|eg ty<|aN ?_;show wpAny (model P w) _ (setField (.ref it) 0 .none >>= _) _ _ s;refine aH (gp g f (show _ by simp) ?_);show wpAny (model P w) _ (newExc (.type "StopIteration") [] >>= _) _ _ _;refine aH ?_;dsimp[newExc,newTuple];refine aH (cE (aH (m:=firstArgMember _ _)<|wpAny_of_eq (a:=Value.none) (by first|rfl|(dsimp[firstArgMember];rfl))<|cE ?_<|by size_fits)<|by size_fits);dsimp[raiseNew];have hn:A.in1.handled=none:=hh;refine aH<|wpAny_handled<|?_;rw[hn];refine aH<|aN<|wpAny_throw<|?_;refine aH<|gA (b:=true) (T := "StopIteration") ⟨_,bw _ rfl,rfl⟩ isSubtype_stop<|aN<|q _<|((eG ..).extBut.push _).push _
def Gz{v:ak}{Q:af->aC->Prop}(hv:s.heap.IsValuesView v d)(ho:s.heap.get? d=some o)(hd:o.data=.dict es ep)
  (q:Q (.ref s.heap.objs.size) { s with heap:=s.heap.push { cls:=.type "dict_valueiterator",data:=.fields #[.ref d,.int 0 0,.int es.size 0,.int ep 0]}}):wpAny (model P w) A (pyIter<|.ref v) Q E s:=by
 obtain⟨k,g,j,f⟩:=id hv;refine wpAny_pyIter_slot hv.typeIs iX<|cD iX hv.typeIs PySem.F.entry_dict_values_iter ?_<|PySem.F.args_dict_values_iter_1 _;delta Builtin.«dict_values.__iter__»;refine aH<|aN<|aH ?_;delta Builtin.Dict_items.dictOf;refine aH<|jo g f (x:=.ref d) rfl<|aN<|aH ?_;delta Builtin.Dict_items.newIterator;refine aH<|fu ho hd<|aH<|fX ho hd ?_;have own:Builtin.Dict_items.ownsTuple "dict_valueiterator" = false:=by decide
 dsimp[own,bI,cK];refine cE<|aN ⟨_,rfl, "dict_valueiterator",_,⟨_,bw _ rfl,rfl⟩,cO.lookup,?_⟩;simpa[rawInt]using q
def GB{Q:af->aC->Prop}(ty:s.TypeIs (.ref d) "dict")(hd:(d == sysModules)=false)
  (q:Q (.ref s.heap.objs.size) { s with heap:=s.heap.push { cls:=.type "dict_values",data:=.fields #[.ref d]}}):wpAny (model P w) A (call (.builtin "dict.values") [.ref d]) Q E s:=by
 refine cD PySem.F.slot_dict_values ty PySem.F.entry_dict_values ?_<|PySem.F.args_dict_values_1 _;delta Builtin.«dict.values»;refine aH ?_;delta Builtin.Dict.noArgs;refine aH<|iM ty ?_;show wpAny (model P w) _ (pure d) _ _ s;refine aN ?_;show wpAny (model P w) _ (Builtin.Dict.showsAll d >>= _) _ _ s;delta Builtin.Dict.showsAll;have nd:¬((d == sysModules)=true):=by rw[hd];exact bF
 rw[aR nd];exact aH<|aN<|aH<|cE<|aN ⟨_,rfl,q⟩
end
section
variable {P:aj}{w:ah}
def L4{A:aA}(hh:A.handled=none)(it d:ak)(ne:d≠it){es:Array DictEntry}{o:Obj}(hd:o.data=.dict es ep) :
  Walks P w A it [it,d] [it] es.size (λi v=>(es[i]?).map (λe=>e.val)=some v) (λi h=>h.IsValIter it d i es.size ep/\h.get? d=some o) where
 sub:=λb hb=>by
  rw[aP.mp hb];exact aL ..
 frame:=λ_ _ _ st f=>⟨let⟨x,e,r⟩:=st.1;⟨x,f it (aL ..) x e,r⟩,f d (aQ _<|aL ..) o st.2⟩
 item:=λi s Q E lt st q=>Xm st.1 st.2 hd lt λh' j g=>q _ h' s.toks (by rw[dB lt];rfl) ⟨j,g.extBut d o ne st.2⟩ λb x nb e=>g.extBut b x (λz=>nb<|aP.mpr z) e
 done:=λs Q E st q=>TH hh st.1 st.2 hd (aM _) λh' k=>q h' s.toks λb x nb e=>k b x (λz=>nb<|aP.mpr z) e
 self:=λ_ _ _ _ st q=>wpAny_pyIter_valiter st.1 q
def Vp{r d:ak}{es:Array DictEntry}{o:Obj}(hd:o.data=.dict es ep) :
  PySem.W.KdlSrc P w "dict_values" r d es.size (λi v=>(es[i]?).map (λe=>e.val)=some v) (λh=>h.IsValuesView r d/\h.get? d=some o) where
 type:=λ_ f=>f.1.typeIs
 there:=λ_ f=>⟨let⟨_,ho,_⟩:=f.1;bq ho,bq f.2⟩
 keep:=λ_ _ f g=>⟨let⟨o,ho,x⟩:=f.1;⟨o,g r (.inl rfl) o ho,x⟩,g d (.inr rfl) o f.2⟩
 notList:=by decide
 notTuple:=by decide
 hint:=λ_ _ _ _ f hq=>PySem.W.kdl_hint_values f.1.typeIs hq
 iter:=λ_ s j f=>⟨_,_,(λ_ _ hq=>Gz f.1 f.2 hd hq),L4 j _ d (bD<|bq f.2) hd,⟨⟨_,bw _ rfl,rfl,rfl⟩,aS _ f.2⟩⟩
end
section
variable {X:Cx}
def Wm{H:Hp}{s:aC}{d:ak}{kvs:List<|List Key×V}(I:Inv X pins σ H s)(ed:H d=some (.dT kvs)) :
  ∃(ob:Obj) (es:Array DictEntry) (ep:Nat) (us:ba),s.heap.get? d=some ob/\ob.cls=.type "dict" /\ ob.dict=none/\ob.data=.dict es ep/\(d == sysModules)=false/\kvs.length<=sizeLine/\es.size=kvs.length/\Vals (kvs.map (·.2)) us/\∀i:Nat,(es[i]?).map (λe:DictEntry=>e.val)=us[i]?:=by
 obtain⟨z,F,xs,f,k⟩:=A3 I.hok ed;obtain⟨ob,es,ep,C,p,t,j,B,q⟩:=id k;have g:es.size=xs.length:=by have:=cV List.length j;simpa using this
 refine⟨ob,es,ep,xs.map (·.2.2),C,p.1,p.2.1,t,F,z,by rw[g,(kt_at f).1],?_,λi=>?_⟩
 ·clear j B q k g ed z
  induction f with
  | nil=>exact .nil
  | cons a _ G=>exact .cons a.2.2 G
 ·rw[<- cH,j,aO,aO,dJ]
  cases xs[i]?<;>rfl
abbrev tVw (to:TE):TE:=λσ H Q=>to σ H λx H1=>∃d kvs,x=.ref d/\H1 d=some (.dT kvs)/\∀(r:ak) (o:Obj),o.cls=.type "dict_values" -> o.data=.fields #[.ref d]->H1 r=none->Q (.ref r) (upd H1 r<|.frz o<|.own r)
def U7{apos cpos:Pos}{e:aE}{to:TE}(he:PE X e to)(hbase:attributeBase e "values" X.env (eval e X.env)=eval e X.env:=by rfl)(hline:(apos.endLine == cpos.line)=true:=by rfl) :
  PE X (.Call (.Attribute e "values" apos) [] [] cpos) (tVw to):=by
 gn_on;refine wpAny_Call_method0_late hbase hline<|nL (he pins s σ H _ I h) λv f h9=>?_;obtain⟨x,H1,j,r1,d,kvs,ex,p,t⟩:=h9;subst ex
 cases r1
 obtain⟨ob,es,ep,us,g,k,q,G,C,_⟩:=Wm j p;refine⟨"dict", "dict.values",gW,PySem.F.slot_dict_values,PySem.F.type_dict_values,⟨ob,g,k⟩,λa B=>?_,g_ rfl<|PySem.evalArgs_none<|GB ⟨ob,g,k⟩ C ?_⟩
 ·cases B
  exact⟨ob,g,q⟩
 have hn:(f.heap.push { cls:=.type "dict_values",data:=.fields #[.ref d]}).get? f.heap.objs.size=some { cls:=.type "dict_values",data:=.fields #[.ref d]}:=bw _ rfl;exact⟨.ref f.heap.objs.size,_,j.laid (o:=.frz { cls:=.type "dict_values",data:=.fields #[.ref d]} (.own f.heap.objs.size)) (t':=f.toks) (λb o z=>aS _ z) (aM _) ⟨hn,_,hn⟩,rfl,t _ _ rfl rfl j.fresh⟩
end
end L2
namespace Am
open PySem PySem.Spec PyProof.Rows L2
section
theorem NJ{K:au}{H:Hp}:∀{kvs:List<|ag×A}{ks:List<|List Key×V},DV K ρ H kvs ks->AVs K ρ H (kvs.map (·.2)) (ks.map (·.2))
 | [],[],_=>.nil
 | _::_,_::_,⟨z,t⟩=>.cons z.2<|NJ t
end
end Am
namespace L2
open PySem PySem.Spec PyProof.Rows
section
variable {X:Cx}
def CV(hc:X.calm=true)(hu:X.A.units+64<cLine):kP X (.builtin "sorted") (λxs H Q=>∃(r d:ak) (o:Obj) (u:HO) (kvs:List<|List Key×V) (rs:bb) (kss:List<|ag),xs=[.ref r]/\H r=some (.frz o u)/\o.cls=.type "dict_values" /\ o.data=.fields #[.ref d]/\H d=some (.dT kvs)/\kvs.map (·.2)=rs.map V.ref/\Sx.RO kss.length/\rs.length=kss.length/\kss.Nodup /\
  (∀(i:Nat) (r:ak) (ks:ag),rs[i]?=some r->kss[i]?=some ks->∃(t:ak) (vs:List V),qe X.K H r (.ref t::vs)/\nO X.K H t (ks.map V.int)) /\
  ∀l g,H l=none->Sx.Cl g 0 kss.length->Sx.So (Sx.uO kss) g 0 kss.length->Q (.ref l) (upd H l<|.lst<|((List.range kss.length).map λi=>rs.getD (g i) 0).map V.ref)):=by
 fin2;obtain⟨B,d,o,u,kvs,rs,kss,rfl,N,oc,Y,J,p,F,k,z,O,q⟩:=h;obtain⟨v,rfl,rx⟩:=vals1 r
 cases rx
 obtain⟨ob,es,ep,us,L,g2,g3,g4,g5,Z,T,C,M⟩:=Wm I J;have G:s.heap.get? B=some o:=(show lC _ _ H s.heap B (.frz o u)from I.hok B _ N).1;rw[p]at C;have U:=tQ C;have lk:kvs.length=rs.length:=by have:=cV List.length p;simpa using this
 refine dz iW iC iD (iE _) ?_;unfold Builtin.«sorted»;ksr_p;refine aH (gF (Vp g4) (show X.A.in1.handled=none from I.ok.hd hc) ⟨⟨o,G,oc,Y⟩,L⟩ (by rw[T];exact Z) λh' P acc hk f=>?_);have W:acc.toList=rs.map Value.ref:=by
  rw[<- U];refine dS λj=>?_;rw[cH,<- M j]
  cases e:acc[j]? with
  | some v=>exact(f.2 j v e).symm
  | none=>
   have:acc.size<=j:=gu.mp e;rw[dR<|by rw[<- f.1];exact this];rfl
 rw[W];exact A9 (s:=s) hu (I.kept (t':=P) hk) F k () z O q
end
end L2
namespace Am
open PySem PySem.Spec PyProof.Rows L2
section
variable {X:Cx}
abbrev X8 (a:A)(S:jU):R A:=match a with
 | .ref n=>opt (kc S n) λkvs=>LB (kvs.map (·.2)) S
 | _=>.no
abbrev eSV (c:Ex):Ex:=λτ S=>(c τ S).bind λa S1=>X8 a S1
def YN{c:Ex}:eSV c τ S=(c τ S).bind X8:=rfl
def RP{x:Str}{p apos cpos:Pos}{e:aE}{c:Ex}(hu:X.A.units+64<cLine)(hc:X.calm=true)(hm:X.mg x=none)(hv:bootBuiltins x=some (.builtin "sorted"))(ha:AE X e c)(hg:Gl X x:=by rfl)(hn:x ≠ "__name__" := by decide)(hdb:(x == ("__debug__" : Str))=false:=by decide)
  (hbase:attributeBase e "values" X.env (eval e X.env)=eval e X.env:=by rfl) (hline:(apos.endLine == cpos.line)=true:=by rfl)
  (he:starEach [.Call (.Attribute e "values" apos) [] [] cpos] X.env=(false,eval (.Call (.Attribute e "values" apos) [] [] cpos) X.env)::starEach [] X.env:=by rfl) (hpl:(backTo pos<|starEach [] X.env).any (·.1)=false:=by rfl) :
  AE X (.Call (.Name x p) [.Call (.Attribute e "values" apos) [] [] cpos] [] pos) (eSV c):=
 PE.imp (Fd (CV hc hu) hg hm hv (wg (U7 ha hbase hline) Ad he) hn hdb he hpl) λσ H Q h9=>by
  x_go;refine⟨ρ,S,τ,R,r,jX (j5 h) .refl λa S1 h1 ρ1 H1 v e1 R1 v1=>?_⟩
  cases v1 with
  | ref L=>
   rename_i t n;obtain⟨kvs,hn,h1⟩:=jY h1;obtain⟨ks,d,C⟩:=R1.dct L<|mh hn;refine⟨t,ks,rfl,d,λj o J G k=>?_⟩;obtain⟨ex,R2⟩:=R1.im (u:=.frz o<|.own j) k;obtain⟨B,f,g,z,K,nd,F,q⟩:=JO R2 ((NJ C).ext ex) (e1.trans ex) h1;exact⟨j,t,o,_,ks,B,f,rfl,kQ,J,G,by rw[j0<|kh d k];exact d,g,z,K,nd,F,q⟩
  | _=>exact h1.elim
end
section
variable {X:Cx}
abbrev xj (x:A)(S:jU):R A:=match x with
 | .ref n=>opt (jS S n) λxs=>opt (Yg xs) λd=>gd (d.length<64) (.ok (.ref S.length)<|S++[.lst<|(kR d).map λks=>.tup<|ks.map .int])
 | _=>.no
def Km:kP X (.builtin "sorted") (rN X<|f1 xj):=kP.imp Dt λF H Q h0=>by
 kd_p;clear h0
 cases hv with
 | ref B=>
  rename_i p n;kj_on;obtain⟨d,hb,h⟩:=jY h;obtain⟨k,h⟩:=kD h;obtain⟨us,h1,r⟩:=R.lst B<|j_ hn;obtain⟨f,rfl,z,q⟩:=VV r hb;refine⟨p,f,d,rfl,qe.of h1,Sx.Vf k,z,λi r ks e1 e2=>⟨(q i r ks e1 e2).1,(q i r ks e1 e2).2.1⟩,λl g j hc hs=>?_⟩;have t:AVs X.K ρ H ((kR d).map λks=>.tup<|ks.map .int) (((List.range d.length).map λi=>f.getD (g i) 0).map V.ref):=by
   rw[<- Qi hc hs,bg,bg];refine Au λi C=>?_;have lt:=(hc i (bK _)<|cF.mp C).2;have e1:f[g i]?=some (f.getD (g i) 0):=by rw[aK,aI ()];rfl
   have e2:d[g i]?=some (d.getD (g i) []):=by rw[aK,aI lt];rfl
   exact(q _ _ _ e1 e2).2.2
  exact o4 R t .refl h l j
 | _=>exact h.elim
abbrev ZD (kss:List<|ag):Bool:=kss.all (λks=>!ks.isEmpty) && decide (kss.length<64)
def Qa{kss:List<|ag}(h:∀k∈kss,k≠[])(h2:kss.length<64):ZD kss=true:=by
 unfold ZD;rw[bf h2,Bool.and_true];exact fJ.mpr λk d=>by
  cases k with
  | nil=>exact absurd rfl (h _ d)
  | cons _ _=>rfl
def KA{H:Hp}{S:jU}{kvs:List<|ag×A}{ks:List<|List Key×V}{Q:VK}(R:Rel X.K ρ H S)(dv:DV X.K ρ H kvs ks)(h:(gd (ZD (kvs.map Prod.fst)=true)<|Am.R.ok (A.ref S.length)<|S++[O.lst<|(kR<|kvs.map Prod.fst).map λks=>.tup<|ks.map .int]).post (zN X ρ H Q)<|XE X ρ H) :
  ks.map (λp=>p.1)=(kvs.map Prod.fst).map (λks=>ks.map Sum.inl)/\(∀k∈kvs.map Prod.fst,k≠[])/\Sx.RO (kvs.map Prod.fst).length /\
  ∀(rs:bb) l g,rs.length=(kvs.map Prod.fst).length->(∀(i:Nat) (r:ak) (ks:ag),rs[i]?=some r->(kvs.map Prod.fst)[i]?=some ks->H r=some (.tup<|ks.map V.int))->H l=none->Sx.Cl g 0 (kvs.map Prod.fst).length->Sx.So (Sx.uO<|kvs.map Prod.fst) g 0 (kvs.map Prod.fst).length ->
   Q (.ref l) (upd H l<|.lst<|((List.range (kvs.map Prod.fst).length).map λi=>rs.getD (g i) 0).map V.ref):=by
 obtain⟨hb,h⟩:=kD h;unfold ZD at hb;rw[fH]at hb;refine⟨JH dv,λk t z=>?_,Sx.Vf<|b8 hb.2,λrs l g B j d hc hs=>?_⟩
 ·have:=fJ.mp hb.1 k t;rw[z]at this
  cases this
 have q:AVs X.K ρ H ((kR<|kvs.map Prod.fst).map λks=>.tup<|ks.map .int) (((List.range (kvs.map Prod.fst).length).map λi=>rs.getD (g i) 0).map V.ref):=by
  rw[<- Qi hc hs,bg,bg];refine Au λi f=>?_;have lt:=(hc i (bK _)<|cF.mp f).2;have e1:rs[g i]?=some (rs.getD (g i) 0):=by rw[aK,aI ()];rfl
  have e2:(kvs.map Prod.fst)[g i]?=some ((kvs.map Prod.fst).getD (g i) []):=by rw[aK,aI lt];rfl
  exact .tup (j _ _ _ e1 e2)<|rY _
 exact o4 R q .refl h l d
abbrev zK (x:A)(S:jU):R A:=match x with
 | .ref n=>opt (kc S n) λkvs=>gd (ZD (kvs.map Prod.fst)=true) (.ok (.ref S.length)<|S++[.lst<|(kR<|kvs.map Prod.fst).map λks=>.tup<|ks.map .int])
 | _=>.no
def M6(hc:X.calm=true):kP X (.builtin "sorted") (rN X<|f1 zK):=kP.imp (CL hc) λk H Q h0=>by
 kd_p;clear h0
 cases hv with
 | ref g=>
  rename_i p n;kln_w;obtain⟨ks,f,j⟩:=R.dct g<|mh hn;obtain⟨a,b,c,d⟩:=KA R j h;exact⟨p,ks,kvs.map Prod.fst,rfl,f,a,b,c,d⟩
 | _=>exact h.elim
abbrev DB (x:A)(S:jU):R A:=match x with
 | .ref n=>opt (mz S n) λkvs=>gd (ZD (kvs.map Prod.fst)=true) (.ok (.ref S.length)<|S++[.lst<|(kR<|kvs.map Prod.fst).map λks=>.tup<|ks.map .int])
 | _=>.no
def NK(hc:X.calm=true):kP X (.builtin "sorted") (rN X<|f1 DB):=kP.imp (Dg hc) λk H Q h0=>by
 kd_p;clear h0
 cases hv with
 | ref g=>
  rename_i p n;kln_w;obtain⟨ks,f,j⟩:=Jy R g hn;obtain⟨a,b,c,d⟩:=KA R j h;exact⟨p,ks,kvs.map Prod.fst,rfl,f,a,b,c,d⟩
 | _=>exact h.elim
abbrev xB (x:A)(S:jU):R A:=match x with
 | .ref n=>opt (mY S n) λkvs=>gd (kvs.length<64) (.ok (.ref S.length)<|S++[.lst<|(sortI<|kvs.map Prod.fst).map .int])
 | _=>.no
def N3(hc:X.calm=true):kP X (.builtin "sorted") (rN X<|f1 xB):=kP.imp (Ed hc) λz H Q h0=>by
 kd_p;clear h0
 cases hv with
 | ref q=>
  rename_i p n;kln_w;obtain⟨f,h⟩:=kD h;obtain⟨ks,k,t⟩:=R.qQ q<|rj hn;refine⟨p,ks,kvs.map Prod.fst,rfl,k,by rw[t.keys,bg];rfl,Sx.Vf<|by rw[aG];exact f,λl g d hc hs=>?_⟩;have j:AVs X.K ρ H ((sortI<|kvs.map Prod.fst).map .int) ((List.range (kvs.map Prod.fst).length).map λi=>V.int<|(kvs.map Prod.fst).getD (g i) 0):=by
   rw[<- UO hc hs,bg];exact Au λi _=>.int _
  exact o4 R j .refl h l d
 | _=>exact h.elim
end
end Am
namespace K68
open PySem L2 Am
abbrev top (i:Nat):aF:=PySem.Challenge.pw_undercells_k68_hearths_of_both.main.body.getD i<|.Pass ⟨0,0,0,0⟩
meta abbrev xq:aF:=top 7
meta abbrev wW:ar:=["thing"]
meta abbrev uJ:ar:=["thing"]
abbrev wM:Sm:=
 mH (Nv (ku (f2 yw)<|jR (jQ 0)<|jR (eC<|.ty "int") jW)<|XT<|ku (f2 yw)<|jR (jQ 0)<|jR (eC<|.ty "bool") jW)
abbrev oU:ae->jU->R A:=l_ wW wM
meta abbrev vn:aF:=top 8
meta abbrev u5:ar:=["one", "other"]
meta abbrev vQ:ar:=["one", "other"]
abbrev vK:Sm:=
 zc (pR<|j4 (wo true) (ku (f1 qU)<|jR (jQ 0) jW)<|ku (f1 qU)<|jR (jQ 1) jW)
 (ZZ)
 r9
abbrev qw:ae->jU->R A:=l_ u5 vK
meta abbrev GV:aF:=top 9
meta abbrev GI:ar:=["order", "places", "at", "thing"]
meta abbrev GN:ar:=["order"]
abbrev NX:Ic:=
 Rv (jQ 0)
abbrev E5:Sm:=
 kM (j4 nV (jQ 2)<|eC<|.int 1) (Vn (jQ 1)<|j4 aSub (jQ 3)<|eC<|.int 1)
abbrev HP:Sm:=
 ki (kM (j4 yz (n8<|jR (eC<|.int 0) jW)<|ku (f1 qU)<|jR (jQ 0) jW)<|kB 1)
 (ki (mC NX (Bs 2<|tP (kB 2)<|tP (kB 3) Br)
 E5)
 (mH<|ku (f1 ue)<|jR (jQ 1) jW))
abbrev tO:ae->jU->R A:=l_ GI HP
meta abbrev tF:aF:=top 10
meta abbrev sU:ar:=["n", "thing"]
meta abbrev sZ:ar:=["n", "thing"]
abbrev tD:Sm:=
 mH (Nv (eFn oU<|jR (jQ 1) jW)<|ZE aLe WX (eC<|.int 1) (jQ 1)<|jQ 0)
abbrev oA:ae->jU->R A:=l_ sU tD
meta abbrev oM:aF:=top 11
meta abbrev oQ:ar:=["order", "i", "j", "things"]
meta abbrev oS:ar:=["order", "i", "j"]
abbrev oR:Sm:=
 ki (kM (ku (f1 zb)<|jR (jQ 0) jW)<|kB 3)
 (ki (kM (pP<|jR (j4 pS (jQ 3)<|j4 aSub (jQ 2)<|eC<|.int 1)<|jR (j4 pS (jQ 3)<|j4 aSub (jQ 1)<|eC<|.int 1) jW)<|Bs 2<|tP (Vn (jQ 3)<|j4 aSub (jQ 1)<|eC<|.int 1)<|tP (Vn (jQ 3)<|j4 aSub (jQ 2)<|eC<|.int 1) Br)
 (mH<|ku (f1 ue)<|jR (jQ 3) jW))
abbrev mG:ae->jU->R A:=l_ oQ oR
meta abbrev ve:aF:=top 12
meta abbrev vc:ar:=["order", "k"]
meta abbrev sM:ar:=["order", "k"]
abbrev u0:Sm:=
 ki (zc (Fe<|tB<|eFn oA<|jR (ku (f1 qU)<|jR (jQ 0) jW)<|jR (jQ 1) jW)
 (ZZ)
 r9)
 (mH<|eFn mG<|jR (jQ 0)<|jR (jQ 1)<|jR (j4 nV (jQ 1)<|eC<|.int 1) jW)
abbrev nN:ae->jU->R A:=l_ vc u0
meta abbrev DA:aF:=top 13
meta abbrev DO:ar:=["order"]
meta abbrev uL:ar:=["order"]
abbrev C2:Sm:=
 mH (kI [none,some 0] (wJ (eC<|.int 1)<|ku (f1 qU)<|jR (jQ 0) jW) (kB 0) (pR<|j4 MJ (j4 pS (jQ 1)<|j4 aSub (jQ 0)<|eC<|.int 1)<|j4 pS (jQ 1)<|jQ 0)<|jQ 0)
abbrev m8:ae->jU->R A:=l_ DO C2
meta abbrev vh:aF:=top 14
meta abbrev vO:ar:=["n", "many", "k"]
meta abbrev sP:ar:=["n"]
abbrev wG:Ic:=
 wJ (eC<|.int 2) (j4 nV (jQ 0)<|eC<|.int 1)
abbrev wI:Sm:=
 Q5 1 WZ (jQ 2)
abbrev vI:Sm:=
 ki (kM (eC<|.int 1)<|kB 1)
 (ki (mC wG (kB 2)
 wI)
 (mH<|jQ 1))
abbrev mS:ae->jU->R A:=l_ vO vI
meta abbrev wN:aF:=top 15
meta abbrev xr:ar:=["n", "number", "left", "things", "many"]
meta abbrev w_:ar:=["n", "number"]
abbrev uC:Te:=
 tB (jQ 2)
abbrev ud:Sm:=
 ki (kM (eFn mS<|jR (j4 aSub (ku (f1 qU)<|jR (jQ 2) jW)<|eC<|.int 1) jW)<|kB 4)
 (ki (ny<|Ek m5 (jQ 3)<|jR (Ek HF (jQ 2)<|jR (j4 AY (jQ 1)<|jQ 4) jW) jW)
 (kM (j4 aSub (jQ 1)<|j4 yz (j4 AY (jQ 1)<|jQ 4)<|jQ 4)<|kB 1))
abbrev xg:Sm:=
 ki (zc (XF (Fe<|tB<|eFn oU<|jR (jQ 1) jW)<|XF (pR<|j4 WX (jQ 1)<|eC<|.int 0)<|pR<|j4 aGe (jQ 1)<|eFn mS<|jR (jQ 0) jW)
 (ZZ)
 r9)
 (ki (kM (ku (f1 zb)<|jR (ku (f2 CI)<|jR (eC<|.int 1)<|jR (j4 nV (jQ 0)<|eC<|.int 1) jW) jW)<|kB 2)
 (ki (kM (n8 jW)<|kB 3)
 (ki (lR uC
 ud 1000000)
 (mH<|ku (f1 ue)<|jR (jQ 3) jW))))
abbrev oN:ae->jU->R A:=l_ xr xg
meta abbrev qF:aF:=top 17
meta abbrev qK:ar:=["numbers"]
meta abbrev oJ:ar:=["numbers"]
abbrev qJ:Sm:=
 mH (kI [none,some 0] (kY<|ku (f1 xB)<|jR (jQ 0) jW) (kB 0) (pR<|j4 (wo true) (j4 zZ (jQ 1)<|jQ 0)<|eC<|.int 0)<|pP<|jR (jQ 0)<|jR (j4 zZ (jQ 1)<|jQ 0) jW)
abbrev l8:ae->jU->R A:=l_ qK qJ
meta abbrev Gy:aF:=top 18
meta abbrev HN:ar:=["one", "other", "numbers", "power", "number"]
meta abbrev GS:ar:=["one", "other"]
abbrev xY:Ic:=
 kY (jQ 1)
abbrev FL:Sm:=
 kM (j4 nV (G2 xG (jQ 2)<|jR (jQ 3)<|jR (eC<|.int 0) jW)<|jQ 4) (LX (jQ 2)<|jQ 3)
abbrev GO:Sm:=
 ki (kM (ku (f1 DR)<|jR (jQ 0) jW)<|kB 2)
 (ki (mC xY (Bs 2<|tP (kB 3)<|tP (kB 4) Br)
 FL)
 (mH<|eFn l8<|jR (jQ 2) jW))
abbrev An:ae->jU->R A:=l_ HN GO
meta abbrev CQ:aF:=top 19
meta abbrev D9:ar:=["one", "other", "numbers", "power", "number", "high", "many"]
meta abbrev zC:ar:=["one", "other"]
abbrev LC:Ic:=
 kY (jQ 1)
abbrev Lg:Sm:=
 kM (j4 nV (G2 xG (jQ 2)<|jR (j4 nV (jQ 3)<|jQ 5)<|jR (eC<|.int 0) jW)<|j4 HY (jQ 4)<|jQ 6) (LX (jQ 2)<|j4 nV (jQ 3)<|jQ 5)
abbrev Ci:Ic:=
 kY (jQ 0)
abbrev Co:Sm:=
 mC LC (Bs 2<|tP (kB 5)<|tP (kB 6) Br)
 Lg
abbrev D6:Sm:=
 ki (kM GK<|kB 2)
 (ki (mC Ci (Bs 2<|tP (kB 3)<|tP (kB 4) Br)
 Co)
 (mH<|eFn l8<|jR (jQ 2) jW))
abbrev sO:ae->jU->R A:=l_ D9 D6
meta abbrev uy:aF:=top 22
meta abbrev uK:ar:=["found", "order", "poly"]
meta abbrev o_:ar:=["found", "order", "poly"]
abbrev uh:Sm:=
 kM (eFn An<|jR (UA RL (jQ 0)<|jR (jQ 1)<|jR (n8 jW) jW)<|jR (jQ 2) jW) (HH (jQ 0)<|jQ 1)
abbrev lO:ae->jU->R A:=l_ uK uh
meta abbrev Ar:aF:=top 23
meta abbrev Af:ar:=["found"]
meta abbrev vq:ar:=["found"]
abbrev Ac:Sm:=
 mH (kI [none,some 0] (kY<|ku (f1 zK)<|jR (jQ 0) jW) (kB 0) (tB<|j4 sS (jQ 1)<|jQ 0)<|pP<|jR (jQ 0)<|jR (j4 sS (jQ 1)<|jQ 0) jW)
abbrev pC:ae->jU->R A:=l_ Af Ac
meta abbrev vL:aF:=top 24
meta abbrev vB:ar:=["one", "other"]
meta abbrev u_:ar:=["one", "other"]
abbrev vg:Sm:=
 zc (zU (tB<|jQ 0)<|tB<|jQ 1)
 (ny<|eFn qw<|jR (j4 pS (j4 pS (jQ 0)<|eC<|.int 0)<|eC<|.int 0)<|jR (j4 pS (j4 pS (jQ 1)<|eC<|.int 0)<|eC<|.int 0) jW)
 r9
abbrev qx:ae->jU->R A:=l_ vB vg
meta abbrev CM:aF:=top 25
meta abbrev CU:ar:=["one", "other", "found", "order", "poly"]
meta abbrev DE:ar:=["one", "other"]
abbrev vU:Ic:=
 kY (j4 nV (jQ 0)<|jQ 1)
abbrev vY:Sm:=
 ny (eFn lO<|jR (jQ 2)<|jR (jQ 3)<|jR (jQ 4) jW)
abbrev DG:Sm:=
 ki (ny<|eFn qx<|jR (jQ 0)<|jR (jQ 1) jW)
 (ki (kM ze<|kB 2)
 (ki (mC vU (Bs 2<|tP (kB 3)<|tP (kB 4) Br)
 vY)
 (mH<|eFn pC<|jR (jQ 2) jW)))
abbrev uS:ae->jU->R A:=l_ CU DG
meta abbrev Ba:aF:=top 26
meta abbrev AO:ar:=["poly", "one", "found", "order", "many"]
meta abbrev AX:ar:=["poly", "one"]
abbrev uM:Ic:=
 kY (jQ 1)
abbrev uE:Sm:=
 ny (eFn lO<|jR (jQ 2)<|jR (jQ 3)<|jR (eFn sO<|jR (jQ 0)<|jR (jQ 4) jW) jW)
abbrev Aw:Sm:=
 ki (kM ze<|kB 2)
 (ki (mC uM (Bs 2<|tP (kB 3)<|tP (kB 4) Br)
 uE)
 (mH<|eFn pC<|jR (jQ 2) jW))
abbrev sD:ae->jU->R A:=l_ AO Aw
meta abbrev tK:aF:=top 27
meta abbrev sR:ar:=["one", "k", "found", "order", "poly"]
meta abbrev sX:ar:=["one", "k"]
abbrev oG:Ic:=
 kY (jQ 0)
abbrev nF:Sm:=
 ki (ny<|eFn lO<|jR (jQ 2)<|jR (eFn nN<|jR (jQ 3)<|jR (jQ 1) jW)<|jR (jQ 4) jW)
 (zc (pR<|j4 (Bu false) (jQ 1)<|eFn m8<|jR (jQ 3) jW)
 (ny<|eFn lO<|jR (jQ 2)<|jR (jQ 3)<|jR (eFn sO<|jR (ku (f1 zb)<|jR (eC<|.frz<|[((-1:Int),(1:Int)),((1:Int),(-1:Int))].map kA) jW)<|jR (jQ 4) jW) jW)
 r9)
abbrev s_:Sm:=
 ki (kM ze<|kB 2)
 (ki (mC oG (Bs 2<|tP (kB 3)<|tP (kB 4) Br)
 nF)
 (mH<|eFn pC<|jR (jQ 2) jW))
abbrev nI:ae->jU->R A:=l_ sR s_
meta abbrev qE:aF:=top 29
meta abbrev qG:ar:=["poly"]
meta abbrev oF:ar:=["poly"]
abbrev qP:Sm:=
 mH (G2 xG (ku (f1 DR)<|jR (jQ 0) jW)<|jR (eC<|.int 1)<|jR (eC<|.int 0) jW)
abbrev l7:ae->jU->R A:=l_ qG qP
meta abbrev rP:aF:=top 31
meta abbrev lY:ar:=["order", "k", "known", "less", "told", "lower", "poly", "number"]
meta abbrev nM:ar:=["order", "k", "known"]
abbrev p7 (Fs:ae->jU->R A):Ic:=
 kY (jQ 3)
abbrev nU (Fs:ae->jU->R A):Sm:=
 ki (kM (eFn l7<|jR (jQ 6) jW)<|kB 7)
 (zc (zU (pR<|j4 (wo true) (jQ 7)<|eC<|.int 0)<|pR<|j4 (Bu false) (jQ 1)<|eFn m8<|jR (jQ 5) jW)
 (kM (eFn uS<|jR (jQ 4)<|jR (eFn sD<|jR (n8<|jR (pP<|jR (eC<|.int 0)<|jR (eUn P1<|jQ 7) jW) jW)<|jR (eFn Fs<|jR (jQ 5)<|jR (jQ 2) jW) jW) jW)<|kB 4)
 r9)
abbrev lZ (Fs:ae->jU->R A):Sm:=
 ki (kM (eFn Fs<|jR (eFn nN<|jR (jQ 0)<|jR (jQ 1) jW)<|jR (jQ 2) jW)<|kB 3)
 (ki (kM (eFn uS<|jR (eFn nI<|jR (jQ 3)<|jR (jQ 1) jW)<|jR (eFn sD<|jR (n8<|jR (pP<|jR (eC<|.int 1)<|jR (eC<|.int 1) jW) jW)<|jR (jQ 3) jW) jW)<|kB 4)
 (ki (mC (p7 Fs) (Bs 2<|tP (kB 5)<|tP (kB 6) Br)
 (nU Fs))
 (mH<|jQ 4)))
meta abbrev q_:aF:=top 30
meta abbrev pH:ar:=["order", "known", "ends"]
meta abbrev mQ:ar:=["order", "known"]
abbrev pG (Fs:ae->jU->R A):Sm:=
 ki (zc (pR<|j4 (L8 true) (jQ 0)<|jQ 1)
 (ki (kM (eFn m8<|jR (jQ 0) jW)<|kB 2)
 (zc (tB<|jQ 2)
 (kM (eFn (l_ lY<|lZ Fs)<|jR (jQ 0)<|jR (j4 pS (jQ 2)<|eC<|.int 0)<|jR (jQ 1) jW)<|HH (jQ 1)<|jQ 0)
 (kM (n8<|jR (pP<|jR (jQ 0)<|jR (n8<|jR (pP<|jR (eC<|.int 0)<|jR (eC<|.int 1) jW) jW) jW) jW)<|HH (jQ 1)<|jQ 0)))
 r9)
 (mH<|j4 sS (jQ 1)<|jQ 0)
abbrev nH:Nat->ae->jU->R A
 | 0=>λ_ _=>.no
 | k+1=>l_ pH<|pG<|nH k
abbrev uR:ae->jU->R A:=nH 8
meta abbrev sY:aF:=top 32
meta abbrev tN:ar:=["orders", "known", "told", "upper", "lower", "poly", "number"]
meta abbrev tM:ar:=["orders"]
abbrev qB:Ic:=
 kY (eFn uR<|jR (jQ 3)<|jR (jQ 1) jW)
abbrev qL:Sm:=
 ki (kM (eFn l7<|jR (jQ 5) jW)<|kB 6)
 (zc (pR<|j4 (wo true) (jQ 6)<|eC<|.int 0)
 (ki (kM (jQ 6)<|SW (jQ 2)<|pP<|jR (jQ 4)<|jR (jQ 3) jW)
 (kM (jQ 6)<|SW (jQ 2)<|pP<|jR (jQ 3)<|jR (jQ 4) jW))
 r9)
abbrev qM:Ic:=
 kY (jQ 0)
abbrev oH:Sm:=
 mC qB (Bs 2<|tP (kB 4)<|tP (kB 5) Br)
 qL
abbrev tH:Sm:=
 ki (kM ze<|kB 1)
 (ki (kM (GR)<|kB 2)
 (ki (mC qM (kB 3)
 oH)
 (mH<|jQ 2)))
abbrev oB:ae->jU->R A:=l_ tN tH
meta abbrev t_:aF:=top 35
meta abbrev ur:ar:=["n"]
meta abbrev rB:ar:=["n"]
abbrev ug:Sm:=
 ki (zc (pR<|j4 MJ (jQ 0)<|eC<|.int 4)
 (ZZ)
 r9)
 (mH<|kI [none,some 0] (tR<|eFn mS<|jR (jQ 0) jW) (kB 0) oZ<|eFn oN<|jR (jQ 1)<|jR (jQ 0) jW)
abbrev mw:ae->jU->R A:=l_ ur ug
meta abbrev pX:aF:=top 36
meta abbrev qi:ar:=["one", "other"]
meta abbrev qf:ar:=["one", "other"]
abbrev qa:Sm:=
 mH (ku (f1 YQ)<|jR (kI [none,some 1] (kY<|eFn m8<|jR (jQ 0) jW) (kB 0) oZ<|j4 (Bu true) (jQ 0)<|eFn m8<|jR (jQ 1) jW) jW)
abbrev kH:ae->jU->R A:=l_ qi qa
meta abbrev rT:aF:=top 37
meta abbrev r6:ar:=["start", "next_ones", "reached", "waiting", "here", "order"]
meta abbrev sF:ar:=["start", "next_ones"]
abbrev nW:Ic:=
 kY (j4 OC (jQ 1)<|jQ 4)
abbrev qb:Sm:=
 zc (pR<|j4 (L8 true) (jQ 5)<|jQ 2)
 (ki (kM (eC<|.bl true)<|HH (jQ 2)<|jQ 5)
 (ny<|Ek m5 (jQ 3)<|jR (jQ 5) jW))
 r9
abbrev k_:Te:=
 tB (jQ 3)
abbrev lX:Sm:=
 ki (kM (ML YT<|jQ 3)<|kB 4)
 (mC nW (kB 5)
 qb)
abbrev su:Sm:=
 ki (kM (IP (jQ 0)<|eC<|.bl true)<|kB 2)
 (ki (kM (n8<|jR (jQ 0) jW)<|kB 3)
 (ki (lR k_
 lX 1000000)
 (mH<|jQ 2)))
abbrev mD:ae->jU->R A:=l_ r6 su
meta abbrev w4:aF:=top 38
meta abbrev xh:ar:=["next_ones", "reached", "told", "order", "hearth"]
meta abbrev uH:ar:=["next_ones"]
abbrev uf:Ic:=
 kY (ku (f1 DB)<|jR (jQ 0) jW)
abbrev pL:Sm:=
 ki (kM (ku (f1 xj)<|jR (kI [none,some 3,some 1] (EV<|j4 sS (jQ 1)<|jQ 3) (kB 0) (pR<|j4 (Lj false) (jQ 1)<|j4 sS (jQ 2)<|jQ 0)<|jQ 0) jW)<|kB 4)
 (zc (pR<|j4 (wo false) (j4 pS (jQ 4)<|eC<|.int 0)<|jQ 3)
 (ny<|Ek m5 (jQ 2)<|jR (jQ 4) jW)
 r9)
abbrev wY:Sm:=
 ki (kM (MI (.dct []) n9 [none,some 0] (EV<|jQ 0) (kB 0) oZ (jQ 0)<|eFn mD<|jR (jQ 0)<|jR (jQ 1) jW)<|kB 1)
 (ki (kM (n8 jW)<|kB 2)
 (ki (mC uf (kB 3)
 pL)
 (mH<|jQ 2)))
abbrev oK:ae->jU->R A:=l_ xh wY
meta abbrev qD:aF:=top 39
meta abbrev qN:ar:=["n", "orders", "leads"]
meta abbrev nA:ar:=["n"]
abbrev qH:Sm:=
 ki (kM (eFn mw<|jR (jQ 0) jW)<|kB 1)
 (ki (kM (eFn oB<|jR (jQ 1) jW)<|kB 2)
 (mH<|eFn oK<|jR (MI (.dct []) n9 [none,some 1,some 2] (kY<|jQ 1) (kB 0) oZ (jQ 0)<|kI [none,some 2,some 0] (kY<|jQ 1) (kB 0) (zU (pR<|j4 (BH false) (pP<|jR (jQ 2)<|jR (jQ 0) jW)<|jQ 1)<|tB<|eFn kH<|jR (jQ 0)<|jR (jQ 2) jW)<|jQ 0) jW))
abbrev kL:ae->jU->R A:=l_ qN qH
meta abbrev um:aF:=top 40
meta abbrev uw:ar:=["hearths"]
meta abbrev qV:ar:=["hearths"]
abbrev uU:Sm:=
 mH (ku (f1 GL)<|jR (kI [none] (kY<|jQ 0) (kB 0) oZ<|ku (f1 xj)<|jR (kI [none] (kY<|jQ 0) (kB 0) oZ<|eFn tO<|jR (jQ 0) jW) jW) jW)
abbrev nu:ae->jU->R A:=l_ uw uU
meta abbrev rO:aF:=top 41
meta abbrev rX:ar:=["n"]
meta abbrev rS:ar:=["n"]
abbrev rR:Sm:=
 mH (eFn nu<|jR (eFn kL<|jR (jQ 0) jW) jW)
abbrev mF:ae->jU->R A:=l_ rX rR
meta abbrev rJ:aF:=top 42
meta abbrev rZ:ar:=["n", "right", "next_ones", "hearth", "order"]
meta abbrev r8:ar:=["n"]
abbrev pW:Ic:=
 kY (jQ 3)
abbrev qd:Sm:=
 ny (Ek zA (j4 sS (jQ 2)<|jQ 4)<|jR (jQ 3) jW)
abbrev p9:Ic:=
 kY (j4 nV (jQ 1)<|eFn nu<|jR (jQ 1) jW)
abbrev p6:Sm:=
 mC pW (kB 4)
 qd
abbrev rL:Sm:=
 ki (kM (eFn kL<|jR (jQ 0) jW)<|kB 1)
 (ki (kM (MI (.dct []) n9 [none] (kY<|eFn mw<|jR (jQ 0) jW) (kB 0) oZ (jQ 0)<|n8 jW)<|kB 2)
 (ki (mC p9 (kB 3)
 p6)
 (mH<|eFn oK<|jR (jQ 2) jW)))
abbrev kX:ae->jU->R A:=l_ rZ rL
meta abbrev w6:aF:=top 44
meta abbrev wU:ar:=["_law_script", "_law_k"]
meta abbrev xw:ar:=["_law_script", "_law_k"]
abbrev wL:Sm:=
 ki (zc (pR<|j4 WX (jQ 1)<|ku (f1 qU)<|jR (jQ 0) jW)
 (mH<|j4 pS (jQ 0)<|jQ 1)
 r9)
 (mH<|eC<|.int 0)
abbrev rG:ae->jU->R A:=l_ wU wL
meta abbrev yM:aF:=top 45
meta abbrev yv:ar:=["_law_cell_here", "_law_place", "_law_far"]
meta abbrev yx:ar:=["_law_cell_here", "_law_place"]
abbrev yi:Sm:=
 ki (kM (ku (f1 X0)<|jR (jQ 0) jW)<|kB 2)
 (ki (zc (pR<|j4 WX (jQ 2)<|j4 Zc (eC<|.int 10)<|eC<|.int 18)
 (kM (eC<|.int 0)<|kB 2)
 r9)
 (mH<|n8<|jR (jQ 2)<|jR (j4 CP (j4 nV (j4 nV (j4 yz (j4 CP (jQ 0)<|eC<|.int 2147483647)<|eC<|.int 69621)<|j4 yz (eC<|.int 7919)<|jQ 1)<|eC<|.int 13)<|eC<|.int 2147483647) jW))
abbrev t7:ae->jU->R A:=l_ yv yi
meta abbrev vM:aF:=top 46
meta abbrev vm:ar:=["_law_bag_here"]
meta abbrev vJ:ar:=["_law_bag_here"]
abbrev vP:Sm:=
 ki (kM (j4 CP (j4 nV (j4 yz (j4 pS (jQ 0)<|eC<|.int 1)<|eC<|.int 48271)<|eC<|.int 11)<|eC<|.int 2147483647)<|Vn (jQ 0)<|eC<|.int 1)
 (mH<|j4 AY (j4 CP (j4 yz (j4 pS (jQ 0)<|eC<|.int 1)<|eC<|.int 16807)<|eC<|.int 2147483629)<|eC<|.int 8)
abbrev oW:ae->jU->R A:=l_ vm vP
meta abbrev vj:aF:=top 47
meta abbrev sL:ar:=["_law_bag_here", "_law_many", "_law_found", "_law_k"]
meta abbrev vF:ar:=["_law_bag_here", "_law_many"]
abbrev Bt:Ic:=
 tR (eC<|.int 7)
abbrev BD:Sm:=
 kM (j4 nV (j4 yz (jQ 2)<|eC<|.int 268435399)<|eFn oW<|jR (jQ 0) jW) (kB 2)
abbrev sN:Sm:=
 ki (zc (pR<|j4 MJ (j4 pS (jQ 0)<|eC<|.int 0)<|eC<|.int 0)
 (ki (kM (j4 CP (j4 pS (jQ 0)<|eC<|.int 0)<|jQ 1)<|kB 2)
 (ki (kM (j4 AY (j4 pS (jQ 0)<|eC<|.int 0)<|jQ 1)<|Vn (jQ 0)<|eC<|.int 0)
 (mH<|jQ 2)))
 r9)
 (ki (kM (eFn oW<|jR (jQ 0) jW)<|kB 2)
 (ki (zc (pR<|j4 MJ (jQ 1)<|eC<|.int 1000)
 (mC Bt (kB 3)
 BD)
 r9)
 (mH<|j4 CP (jQ 2)<|jQ 1)))
abbrev ng:ae->jU->R A:=l_ sL sN
meta abbrev uN:aF:=top 48
meta abbrev uA:ar:=["_law_row", "_law_first", "_law_second", "_law_number", "_law_letter", "_law_at", "_law_spots"]
meta abbrev uG:ar:=["_law_row"]
abbrev nQ:Te:=
 pR (j4 (Ho true) (jQ 4)<|eC .non)
abbrev pM:Sm:=
 ki (zc (pR<|j4 (wo false) (jQ 5)<|ku (f1 qU)<|jR (jQ 1) jW)
 (ki (ny<|Ek m5 (jQ 1)<|jR (n8 jW) jW)
 (ny<|Ek m5 (jQ 2)<|jR (n8 jW) jW))
 r9)
 (ki (kM (kI [none,some 4,some 1,some 5] (tR<|ku (f1 qU)<|jR (j4 pS (jQ 1)<|jQ 5) jW) (kB 0) (pR<|j4 MJ (j4 pS (j4 pS (jQ 2)<|jQ 3)<|jQ 0)<|jQ 1)<|jQ 0)<|kB 6)
 (zc (pR<|j4 (wo false) (jQ 6)<|n8 jW)
 (ki (ny<|Ek m5 (j4 pS (jQ 1)<|jQ 5)<|jR (jQ 4) jW)
 (ki (ny<|Ek m5 (j4 pS (jQ 2)<|jQ 5)<|jR (j4 nV (jQ 3)<|eC<|.int 1) jW)
 (kM (eC .non)<|kB 4)))
 (ki (kM (pP<|jR (j4 pS (j4 pS (jQ 1)<|jQ 5)<|j4 pS (jQ 6)<|eC<|.int 0)<|jR (jQ 4) jW)<|Bs 2<|tP (kB 4)<|tP (Vn (j4 pS (jQ 1)<|jQ 5)<|j4 pS (jQ 6)<|eC<|.int 0) Br)
 (kM (j4 nV (jQ 5)<|eC<|.int 1)<|kB 5))))
abbrev rV:Ic:=
 Rv (jQ 0)
abbrev sy:Sm:=
 ki (kM (eC<|.int 0)<|kB 5)
 (lR nQ
 pM 1000000)
abbrev uT:Sm:=
 ki (kM (n8 jW)<|kB 1)
 (ki (kM (n8 jW)<|kB 2)
 (ki (mC rV (Bs 2<|tP (kB 3)<|tP (kB 4) Br)
 sy)
 (mH<|pP<|jR (jQ 1)<|jR (jQ 2) jW)))
abbrev nj:ae->jU->R A:=l_ uA uT
meta abbrev yO:aF:=top 49
meta abbrev yH:ar:=["_law_n", "_law_found", "_law_place", "_law_more", "_law_some"]
meta abbrev yV:ar:=["_law_n"]
abbrev y_:Ic:=
 kY (jQ 1)
abbrev u9:Sm:=
 ny (Ek zA (jQ 3)<|jR (kI [none,some 4] (wJ (eC<|.int 1)<|j4 nV (jQ 0)<|eC<|.int 1) (kB 0) (pR<|j4 (Bu true) (jQ 0)<|jQ 1)<|j4 nV (jQ 1)<|pP<|jR (jQ 0) jW) jW)
abbrev y9:Ic:=
 tR (jQ 0)
abbrev za:Sm:=
 ki (kM (n8 jW)<|kB 3)
 (ki (mC y_ (kB 4)
 u9)
 (kM (jQ 3)<|kB 1))
abbrev yD:Sm:=
 ki (kM (n8<|jR (pP jW) jW)<|kB 1)
 (ki (mC y9 (kB 2)
 za)
 (mH<|jQ 1))
abbrev tY:ae->jU->R A:=l_ yH yD
meta abbrev qh:aF:=top 50
meta abbrev pY:ar:=["_law_found", "_law_due_here"]
meta abbrev qc:ar:=["_law_found", "_law_due_here"]
abbrev p_:Sm:=
 ki (zc (XF (Fe<|tB<|ku (f2 yw)<|jR (jQ 0)<|jR (eC<|.ty "list") jW)<|XF (Fe<|tB<|ku (f1 HC)<|jR (kI [none] (kY<|jQ 0) (kB 0) oZ<|ku (f2 yw)<|jR (jQ 0)<|jR (eC<|.ty "list") jW) jW)<|pR<|j4 (wo true) (jQ 0)<|jQ 1)
 (mH<|eC<|.bl false)
 r9)
 (mH<|ku (f1 HC)<|jR (kI [none] (kY<|jQ 0) (kB 0) oZ<|ku (f1 HC)<|jR (kI [none] (kY<|jQ 0) (kB 0) oZ<|ku (f2 yw)<|jR (jQ 0)<|jR (eC<|.ty "tuple") jW) jW) jW)
abbrev k9:ae->jU->R A:=l_ pY p_
meta abbrev yE:aF:=top 51
meta abbrev yy:ar:=["_law_n", "_law_found", "_law_one", "_law_form"]
meta abbrev yN:ar:=["_law_n"]
abbrev vC:Ic:=
 kY (eFn tY<|jR (jQ 0) jW)
abbrev vN:Sm:=
 ki (kM (ku (f1 ue)<|jR (kI [none] (kY<|j4 pS (eFn nj<|jR (jQ 2) jW)<|eC<|.int 0) (kB 0) oZ<|ku (f1 qU)<|jR (jQ 0) jW) jW)<|kB 3)
 (kM (j4 nV (UA RL (jQ 1)<|jR (jQ 3)<|jR (n8 jW) jW)<|n8<|jR (jQ 2) jW)<|HH (jQ 1)<|jQ 3)
abbrev yq:Sm:=
 ki (kM ze<|kB 1)
 (ki (mC vC (kB 2)
 vN)
 (mH<|eSV<|jQ 1))
abbrev rF:ae->jU->R A:=l_ yy yq
meta abbrev Ra:aF:=top 52
meta abbrev MW:ar:=["_law_script", "_law_n", "_law_due_here", "_law_found", "_law_hearth"]
meta abbrev VM:ar:=["_law_script"]
abbrev zy:Ic:=
 kY (j4 nV (eFn kL<|jR (jQ 1) jW)<|eFn mF<|jR (jQ 1) jW)
abbrev zP:Sm:=
 zc (pR<|j4 (wo true) (ku (f1 qU)<|jR (kI [none,some 4] (kY<|jQ 3) (kB 0) (pR<|j4 (wo false) (kI [none,some 0] (kY<|jQ 1) (kB 0) (pR<|j4 (Bu true) (jQ 0)<|jQ 1)<|jQ 0)<|n8 jW)<|jQ 0) jW)<|eC<|.int 1)
 (mH<|eC<|.bl false)
 r9
abbrev Qf:Sm:=
 ki (kM (j4 pS (n8<|jR (eC<|.int 4)<|jR (eC<|.int 3)<|jR (eC<|.int 4)<|jR (eC<|.int 2)<|jR (eC<|.int 1)<|jR (eC<|.int 4) jW)<|eFn ng<|jR (eFn t7<|jR (eFn rG<|jR (jQ 0)<|jR (eC<|.int 0) jW)<|jR (eC<|.int 1) jW)<|jR (eC<|.int 6) jW)<|kB 1)
 (ki (kM (eFn rF<|jR (jQ 1) jW)<|kB 2)
 (ki (kM (eFn kX<|jR (jQ 1) jW)<|kB 3)
 (ki (zc (Fe<|tB<|eFn k9<|jR (jQ 3)<|jR (jQ 2) jW)
 (mH<|eC<|.bl false)
 r9)
 (ki (mC zy (kB 4)
 zP)
 (ki (ny<|Ek m5 (j4 pS (jQ 3)<|eC<|.int 0)<|jR (pP jW) jW)
 (ki (ny<|ML xA<|jQ 3)
 (mH<|eFn k9<|jR (eFn kX<|jR (jQ 1) jW)<|jR (jQ 2) jW)))))))
abbrev Ca:ae->jU->R A:=l_ MW Qf
section
variable {P:aj}{w:ah}{K:au}{mg:Str->bd}{base:aq}{f:ak}{fd:FuncData}
def Gb:FnScope wW uJ (j8 xq):=uc rfl rfl rfl ∅
def Et(F:Fun K "is_whole" "is_whole" xq f fd)(aaZ:mg "isinstance" = none)(abP:mg "bool" = none)(abQ:mg "int" = none):FnOk P w K mg base qz 1 f fd uJ (rC K 1 oU):=uD (m:=wM) F Gb λg B d s H E j=>
 jZ (kG<|OA (kJ Gm aaZ ow<|jT (jP 0)<|jT (Fc abQ WS) j3)<|PZ<|YE<|kJ Gm aaZ ow<|jT (jP 0)<|jT (Fc abP TZ) j3)
def CW:FnScope u5 vQ (j8 vn):=uc rfl rfl rfl ∅
def DS(F:Fun K "need_pair" "need_pair" vn f fd)(aag:mg "len" = none):FnOk P w K mg base qz 1 f fd vQ (rC K 2 qw):=uD (m:=vK) F CW λg B d s H E j=>
 jZ (n_ (lV (Mf j.units) (kJ vG aag sA<|jT (jP 0) j3)<|kJ vG aag sA<|jT (jP 1) j3)
 (jZ<|Ja)
 mj)
def zM:FnScope GI GN (j8 GV):=uc rfl rfl rfl ∅
def TU(F:Fun K "back" "back" GV f fd)(aag:mg "len" = none)(abh:mg "enumerate" = none)(aaK:mg "tuple" = none):FnOk P w K mg base qz 1 f fd GN (rC K 1 tO):=uD (m:=HP) F zM λg B d s H E j=>
 jV (kj (i:=1) zM.nd<|ko z7 (mK<|jT j6 j3)<|kJ vG aag sA<|jT (jP 0) j3)
 (jV (mV bP rfl (Pk abh<|jP 0) (qI rfl<|kO (kg (i:=2) zM.nd)<|kO (kg (i:=3) zM.nd) oE)
 (jZ<|o8 (ko oV (jP 2) j6)<|yj (jP 1)<|ko zg (jP 3) j6))
 (jZ<|kG<|oq (zI rfl) aaK vd<|jT (jP 1) j3))
def z_:FnScope sU sZ (j8 tF):=uc rfl rfl rfl ∅
def z8(F:Fun K "is_exchange" "is_exchange" tF f fd)(aby:nY P w K mg base 1 "is_whole" uJ oU):FnOk P w K mg base qz 2 f fd sZ (rC K 2 oA):=uD (m:=tD) F z_ λj B d s H E g=>
 jZ (kG<|OA (wA aby g<|jP 1)<|PZ<|aad ab3 (Ub g.units) j6 (jP 1)<|jP 0)
def qS:FnScope oQ oS (j8 oM):=uc rfl rfl rfl ∅
def wC(F:Fun K "exchanged_places" "exchanged_places" oM f fd)(aaS:mg "list" = none)(aaK:mg "tuple" = none):FnOk P w K mg base qz 1 f fd oS (rC K 3 mG):=uD (m:=oR) F qS λg B d s H E j=>
 jV (kj (i:=3) qS.nd<|oq (Hx rfl) aaS xQ<|jT (jP 0) j3)
 (jV (o8 (oO<|jT (mU (jP 3)<|ko zg (jP 2) j6)<|jT (mU (jP 3)<|ko zg (jP 1) j6) j3)<|qI rfl<|kO (yj (jP 3)<|ko zg (jP 1) j6)<|kO (yj (jP 3)<|ko zg (jP 2) j6) oE)
 (jZ<|kG<|oq (zI rfl) aaK vd<|jT (jP 3) j3))
def CB:FnScope vc sM (j8 ve):=uc rfl rfl rfl ∅
def DJ(F:Fun K "exchanged" "exchanged" ve f fd)(aag:mg "len" = none)(abR:nY P w K mg base 2 "is_exchange" sZ oA)(abU:nY P w K mg base 1 "exchanged_places" oS mG):FnOk P w K mg base qz 3 f fd sM (rC K 2 nN):=uD (m:=u0) F CB λj B d s H E g=>
 jV (n_ (Bg<|qC<|Gp abR g (kJ vG aag sA<|jT (jP 0) j3)<|jP 1)
 (jZ<|Ja)
 mj)
 (jZ<|kG<|fn3 abU g (jP 0) (jP 1)<|ko oV (jP 1) j6)
def QS:FnScope DO uL (j8 DA):=uc rfl rfl rfl ∅
def OE(F:Fun K "falls" "falls" DA f fd)(aap:mg "range" = none)(aag:mg "len" = none):FnOk P w K mg base qz 1 f fd uL (rC K 1 m8):=uD (m:=C2) F QS λg B d s H E j=>
 jZ (kG<|mZ (N:=["k", "order"]) (cap:=[none,some 0]) rfl (oX ["order"] rfl ∅ ∅ ∅ ∅ ∅ (bO.mpr ⟨by first|exact Or.inl rfl|exact Or.inr rfl,(nofun)⟩) ⟨rfl,by decide +kernel,trivial⟩) (yJ aap j6<|kJ vG aag sA<|jT (jP 0) j3) (λ_ _ _ _=>kg (i:=0) (show(["k", "order"]:ar).Nodup by decide +kernel) rfl (Or.inl rfl)<|.inr rfl) (λ_ _ _ _=>qZ<|lV (Nt j.units) (mU (jP 1)<|ko zg (jP 0) j6)<|mU (jP 1)<|jP 0) λ_ _ _ _=>jP 0)
def qY:FnScope vO sP (j8 vh):=uc rfl rfl rfl ∅
def C_(F:Fun K "factorial" "factorial" vh f fd)(aap:mg "range" = none):FnOk P w K mg base qz 1 f fd sP (rC K 1 mS):=uD (m:=vI) F qY λg B d s H E j=>
 jV (kj (i:=1) qY.nd j6)
 (jV (mV bP rfl (yJ aap j6<|ko oV (jP 0) j6) (kg (i:=2) qY.nd)
 (jZ<|Zd (i:=1) qY.nd (jP 2) SY))
 (jZ<|kG<|jP 1))
def qt:FnScope xr w_ (j8 wN):=uc rfl rfl rfl ∅
def F3(F:Fun K "numbered" "numbered" wN f fd)(aaS:mg "list" = none)(aap:mg "range" = none)(aag:mg "len" = none)(aaK:mg "tuple" = none)(abd:nY P w K mg base 1 "factorial" sP mS)(aby:nY P w K mg base 1 "is_whole" uJ oU):FnOk P w K mg base qz 2 f fd w_ (rC K 2 oN):=uD (m:=xg) F qt λj B g s H E d=>
 jV (n_ (AW.at<|HW (Bg<|qC<|wA aby d<|jP 1)<|HW (lV (Ub d.units) (jP 1) j6)<|Om<|lV adp (jP 1)<|wA abd d<|jP 0)
 (jZ<|Ja)
 mj)
 (jV (kj (i:=2) qt.nd<|oq (Hx rfl) aaS xQ<|jT (oq Nc aap OX<|jT j6<|jT (ko oV (jP 0) j6) j3) j3)
 (jV (kj (i:=3) qt.nd<|mK j3)
 (jV (A2 1000000 bP (qC<|jP 2)
 (jV (kj (i:=4) qt.nd<|wA abd d<|ko zg (kJ vG aag sA<|jT (jP 2) j3) j6)
 (jV (mT<|u7 cM cN qv (jP 3)<|jT (u7 PySem.F.slot_list_pop PySem.F.type_list_pop Vu (jP 2)<|jT (ko D8 (jP 1)<|jP 4) j3) j3)
 (jZ<|kj (i:=1) qt.nd<|ko zg (jP 1)<|ko z7 (ko D8 (jP 1)<|jP 4)<|jP 4))))
 (jZ<|kG<|oq (zI rfl) aaK vd<|jT (jP 3) j3))))
def yu:FnScope qK oJ (j8 qF):=uc rfl rfl rfl ∅
def yU(F:Fun K "as_polynomial" "as_polynomial" qF f fd)(aar:mg "sorted" = none):FnOk P w K mg base qz 1 f fd oJ (rC K 1 l8):=uD (m:=qJ) F yu λj B d s H E g=>
 jZ (kG<|mZ (N:=["power", "numbers"]) (cap:=[none,some 0]) rfl (oX ["numbers"] rfl ∅ ∅ ∅ ∅ ∅ (bO.mpr ⟨by first|exact Or.inl rfl|exact Or.inr rfl,(nofun)⟩) ⟨rfl,by decide +kernel,trivial⟩) (lB<|kJ (N3 rfl) aar p8<|jT (jP 0) j3) (λ_ _ _ _=>kg (i:=0) (show(["power", "numbers"]:ar).Nodup by decide +kernel) rfl (Or.inl rfl)<|.inr rfl) (λ_ _ _ _=>qZ<|lV (Mf g.units) (MS g.units (jP 1)<|jP 0) j6) λ_ _ _ _=>oO<|jT (jP 0)<|jT (MS g.units (jP 1)<|jP 0) j3)
def zH:FnScope HN GS (j8 Gy):=uc rfl rfl rfl ∅
def UG(F:Fun K "plus" "plus" Gy f fd)(abz:mg "dict" = none)(abA:nY P w K mg base 1 "as_polynomial" oJ l8):FnOk P w K mg base qz 2 f fd GS (rC K 2 An):=uD (m:=GO) F zH λj B d s H E g=>
 jV (kj (i:=2) zH.nd<|oq (Js rfl) abz ID<|jT (jP 0) j3)
 (jV (mV bP rfl (lB<|jP 1) (qI rfl<|kO (kg (i:=3) zH.nd)<|kO (kg (i:=4) zH.nd) oE)
 (jZ<|o8 (ko oV (GW c8 e_ (Hq g.units) (jP 2)<|jT (jP 3)<|jT j6 j3)<|jP 4)<|IF g.units (jP 2)<|jP 3))
 (jZ<|kG<|wA abA g<|jP 2))
def tW:FnScope D9 zC (j8 CQ):=uc rfl rfl rfl ∅
def PX(F:Fun K "times" "times" CQ f fd)(abA:nY P w K mg base 1 "as_polynomial" oJ l8):FnOk P w K mg base qz 2 f fd zC (rC K 2 sO):=uD (m:=D6) F tW λj B d s H E g=>
 jV (kj (i:=2) tW.nd MP)
 (jV (mV bP rfl (lB<|jP 0) (qI rfl<|kO (kg (i:=3) tW.nd)<|kO (kg (i:=4) tW.nd) oE)
 (jZ (mV bP rfl (lB<|jP 1) (qI rfl<|kO (kg (i:=5) tW.nd)<|kO (kg (i:=6) tW.nd) oE)
 (jZ<|o8 (ko oV (GW c8 e_ (Hq g.units) (jP 2)<|jT (ko oV (jP 3)<|jP 5)<|jT j6 j3)<|ko XU (jP 4)<|jP 6)<|IF g.units (jP 2)<|ko oV (jP 3)<|jP 5))))
 (jZ<|kG<|wA abA g<|jP 2))
def BJ:FnScope uK o_ (j8 uy):=uc rfl rfl rfl ∅
def BK(F:Fun K "put_before" "put_before" uy f fd)(abX:nY P w K mg base 2 "plus" GS An):FnOk P w K mg base qz 3 f fd o_ (rC K 3 lO):=uD (m:=uh) F BJ λj B d s H E g=>
 jZ (o8 (Gp abX g (Nd c8 e_ (VZ g.units) (jP 0)<|jT (jP 1)<|jT (mK j3) j3)<|jP 2)<|xM g.units (jP 0)<|jP 1)
def L_:FnScope Af vq (j8 Ar):=uc rfl rfl rfl ∅
def Ls(F:Fun K "as_sum" "as_sum" Ar f fd)(aar:mg "sorted" = none):FnOk P w K mg base qz 1 f fd vq (rC K 1 pC):=uD (m:=Ac) F L_ λj B d s H E g=>
 jZ (kG<|mZ (N:=["order", "found"]) (cap:=[none,some 0]) rfl (oX ["found"] rfl ∅ ∅ ∅ ∅ ∅ (bO.mpr ⟨by first|exact Or.inl rfl|exact Or.inr rfl,(nofun)⟩) ⟨rfl,by decide +kernel,trivial⟩) (lB<|kJ (M6 rfl) aar p8<|jT (jP 0) j3) (λ_ _ _ _=>kg (i:=0) (show(["order", "found"]:ar).Nodup by decide +kernel) rfl (Or.inl rfl)<|.inr rfl) (λ_ _ _ _=>qZ<|qC<|ym g.units (jP 1)<|jP 0) λ_ _ _ _=>oO<|jT (jP 0)<|jT (ym g.units (jP 1)<|jP 0) j3)
def DX:FnScope vB u_ (j8 vL):=uc rfl rfl rfl ∅
def CF(F:Fun K "need_like" "need_like" vL f fd)(abZ:nY P w K mg base 1 "need_pair" vQ qw):FnOk P w K mg base qz 2 f fd u_ (rC K 2 qx):=uD (m:=vg) F DX λg B d s H E j=>
 jZ (n_ (AW.at<|HL (qC<|jP 0)<|C4<|qC<|jP 1)
 (jZ<|mT<|Gp abZ j (mU (mU (jP 0) j6) j6)<|mU (mU (jP 1) j6) j6)
 mj)
def xF:FnScope CU DE (j8 CM):=uc rfl rfl rfl ∅
def Oe(F:Fun K "added" "added" CM f fd)(ab0:nY P w K mg base 2 "need_like" u_ qx)(aaT:nY P w K mg base 3 "put_before" o_ lO)(abb:nY P w K mg base 1 "as_sum" vq pC):FnOk P w K mg base qz 4 f fd DE (rC K 2 uS):=uD (m:=DG) F xF λj B d s H E g=>
 jV (mT<|Gp ab0 g (jP 0)<|jP 1)
 (jV (kj (i:=2) xF.nd ye)
 (jV (mV bP rfl (lB<|ko oV (jP 0)<|jP 1) (qI rfl<|kO (kg (i:=3) xF.nd)<|kO (kg (i:=4) xF.nd) oE)
 (jZ<|mT<|fn3 aaT g (jP 2) (jP 3)<|jP 4))
 (jZ<|kG<|wA abb g<|jP 2)))
def wj:FnScope AO AX (j8 Ba):=uc rfl rfl rfl ∅
def Mm(F:Fun K "scaled" "scaled" Ba f fd)(aaT:nY P w K mg base 3 "put_before" o_ lO)(abC:nY P w K mg base 2 "times" zC sO)(abb:nY P w K mg base 1 "as_sum" vq pC):FnOk P w K mg base qz 4 f fd AX (rC K 2 sD):=uD (m:=Aw) F wj λj B d s H E g=>
 jV (kj (i:=2) wj.nd ye)
 (jV (mV bP rfl (lB<|jP 1) (qI rfl<|kO (kg (i:=3) wj.nd)<|kO (kg (i:=4) wj.nd) oE)
 (jZ<|mT<|fn3 aaT g (jP 2) (jP 3)<|Gp abC g (jP 0)<|jP 4))
 (jZ<|kG<|wA abb g<|jP 2))
def o9:FnScope sR sX (j8 tK):=uc rfl rfl rfl ∅
def Ae(F:Fun K "by_exchange" "by_exchange" tK f fd)(aaS:mg "list" = none)(h_AT_A_FALL:∃a,mg "AT_A_FALL" = some (.ref a)/\ZF K a=some [((-1:Int),(1:Int)),((1:Int),(-1:Int))])(aaT:nY P w K mg base 3 "put_before" o_ lO)(abD:nY P w K mg base 3 "exchanged" sM nN)(aau:nY P w K mg base 1 "falls" uL m8)(abC:nY P w K mg base 2 "times" zC sO)(abb:nY P w K mg base 1 "as_sum" vq pC):FnOk P w K mg base qz 4 f fd sX (rC K 2 nI):=uD (m:=s_) F o9 λj B g s H E d=>
 jV (kj (i:=2) o9.nd ye)
 (jV (mV bP rfl (lB<|jP 0) (qI rfl<|kO (kg (i:=3) o9.nd)<|kO (kg (i:=4) o9.nd) oE)
 (jV (mT<|fn3 aaT d (jP 2) (Gp abD d (jP 3)<|jP 1)<|jP 4)
 (jZ (n_ (lV (aac d.units) (jP 1)<|wA aau d<|jP 3)
 (jZ<|mT<|fn3 aaT d (jP 2) (jP 3)<|Gp abC d (oq (Hx rfl) aaS xQ<|jT (NO h_AT_A_FALL.choose_spec.1 h_AT_A_FALL.choose_spec.2) j3)<|jP 4)
 mj))))
 (jZ<|kG<|wA abb d<|jP 2))
def yX:FnScope qG oF (j8 qE):=uc rfl rfl rfl ∅
def yr(F:Fun K "number_at_one" "number_at_one" qE f fd)(abz:mg "dict" = none):FnOk P w K mg base qz 1 f fd oF (rC K 1 l7):=uD (m:=qP) F yX λg B d s H E j=>
 jZ (kG<|GW c8 e_ (Hq j.units) (oq (Js rfl) abz ID<|jT (jP 0) j3)<|jT j6<|jT j6 j3)
def l9:FnScope lY nM (j8 rP):=uc rfl rfl rfl ∅
def zl{Fs:ae->jU->R A}(F:Fun K "kept_by_fall" "kept_by_fall" rP f fd)(abD:nY P w K mg base 3 "exchanged" sM nN)(abJ:nY P w K mg base 4 "added" DE uS)(abK:nY P w K mg base 4 "scaled" AX sD)(ab2:nY P w K mg base 4 "by_exchange" sX nI)(abE:nY P w K mg base 1 "number_at_one" oF l7)(aau:nY P w K mg base 1 "falls" uL m8)(acI:nY P w K mg base (5+2 * kr) "found_kept" mQ Fs):FnOk P w K mg base qz (5+2 * kr+1) f fd nM (rC K 3<|l_ lY<|lZ Fs):=uD (m:=lZ Fs) F l9 λj B g s H E d=>
 jV (kj (i:=3) l9.nd<|sq acI (d.mono ()) (jT (sq abD (d.mono ()) (jT (jP 0)<|jT (jP 1) j3)<|kF<|kF nh)<|jT (jP 2) j3)<|kF<|kF nh)
 (jV (kj (i:=4) l9.nd<|sq abJ (d.mono ()) (jT (sq ab2 (d.mono ()) (jT (jP 3)<|jT (jP 1) j3)<|kF<|kF nh)<|jT (sq abK (d.mono ()) (jT (mK<|jT (oO<|jT j6<|jT j6 j3) j3)<|jT (jP 3) j3)<|kF<|kF nh) j3)<|kF<|kF nh)
 (jV (mV bP rfl (lB<|jP 3) (qI rfl<|kO (kg (i:=5) l9.nd)<|kO (kg (i:=6) l9.nd) oE)
 (jV (kj (i:=7) l9.nd<|sq abE (d.mono ()) (jT (jP 6) j3)<|kF nh)
 (jZ (n_ (AW.at<|HL (lV (Mf d.units) (jP 7) j6)<|C4<|lV (aac d.units) (jP 1)<|sq aau (d.mono ()) (jT (jP 5) j3)<|kF nh)
 (jZ<|kj (i:=4) l9.nd<|sq abJ (d.mono ()) (jT (jP 4)<|jT (sq abK (d.mono ()) (jT (mK<|jT (oO<|jT j6<|jT (Yn<|jP 7) j3) j3)<|jT (sq acI (d.mono ()) (jT (jP 5)<|jT (jP 2) j3)<|kF<|kF nh) j3)<|kF<|kF nh) j3)<|kF<|kF nh)
 mj))))
 (jZ<|kG<|jP 4)))
def wK:FnScope pH mQ (j8 q_):=uc rfl rfl rfl ∅
def BI{Fs:ae->jU->R A}(F:Fun K "found_kept" "found_kept" q_ f fd)(aau:nY P w K mg base 1 "falls" uL m8)(acK:nY P w K mg base (5+2 * kr+1) "kept_by_fall" nM<|l_ lY<|lZ Fs):FnOk P w K mg base qz (5+2 * kr+2) f fd mQ (rC K 2<|l_ pH<|pG Fs):=uD (m:=pG Fs) F wK λj B g s H E d=>
 jV (n_ (lV (F4 d.units) (jP 0)<|jP 1)
 (jV (kj (i:=2) wK.nd<|sq aau (d.mono ()) (jT (jP 0) j3)<|kF nh)
 (jZ (n_ (qC<|jP 2)
 (jZ<|o8 (sq acK (d.mono ()) (jT (jP 0)<|jT (mU (jP 2) j6)<|jT (jP 1) j3)<|kF<|kF<|kF nh)<|xM d.units (jP 1)<|jP 0)
 (jZ<|o8 (mK<|jT (oO<|jT (jP 0)<|jT (mK<|jT (oO<|jT j6<|jT j6 j3) j3) j3) j3)<|xM d.units (jP 1)<|jP 0))))
 mj)
 (jZ<|kG<|ym d.units (jP 1)<|jP 0)
theorem vp(F:Fun K "found_kept" "found_kept" q_ f fd)(aau:nY P w K mg base 1 "falls" uL m8)(M_kept_by_fall:∀{Fs:ae->jU->R A} {kr:Nat},nY P w K mg base (5+2 * kr) "found_kept" mQ Fs->nY P w K mg base (5+2 * kr+1) "kept_by_fall" nM (l_ lY<|lZ Fs))(hm:mg "found_kept" = some (.ref f))(hk:PySem.W.keepIn K (.ref f)=true)(hb:Binds K fd mQ []):∀kr,FnOk P w K mg base qz (5+2 * kr) f fd mQ (rC K 2<|nH kr)
 | 0=>W5 rfl
 | kr+1=>BI F aau<|M_kept_by_fall ⟨f,fd,vp F aau M_kept_by_fall hm hk hb kr,hm,hk,hb⟩
def mE:FnScope tN tM (j8 sY):=uc rfl rfl rfl ∅
def Az(F:Fun K "leads_among" "leads_among" sY f fd)(ab6:nY P w K mg base 21 "found_kept" mQ uR)(abE:nY P w K mg base 1 "number_at_one" oF l7):FnOk P w K mg base qz 22 f fd tM (rC K 1 oB):=uD (m:=tH) F mE λj B g s H E d=>
 jV (kj (i:=1) mE.nd ye)
 (jV (kj (i:=2) mE.nd<|PK)
 (jV (mV bP rfl (lB<|jP 0) (kg (i:=3) mE.nd)
 (jZ (mV bP rfl (lB<|Gp ab6 d (jP 3)<|jP 1) (qI rfl<|kO (kg (i:=4) mE.nd)<|kO (kg (i:=5) mE.nd) oE)
 (jV (kj (i:=6) mE.nd<|wA abE d<|jP 5)
 (jZ (n_ (lV (Mf d.units) (jP 6) j6)
 (jV (o8 (jP 6)<|Ik d.units (jP 2)<|oO<|jT (jP 4)<|jT (jP 3) j3)
 (jZ<|o8 (jP 6)<|Ik d.units (jP 2)<|oO<|jT (jP 3)<|jT (jP 4) j3))
 mj))))))
 (jZ<|kG<|jP 2)))
def BB:FnScope ur rB (j8 t_):=uc rfl rfl rfl ∅
def By(F:Fun K "all_orders" "all_orders" t_ f fd)(aap:mg "range" = none)(ab7:∃t,mg "MOST_THINGS" = some (.int 4 t))(abd:nY P w K mg base 1 "factorial" sP mS)(acd:nY P w K mg base 2 "numbered" w_ oN):FnOk P w K mg base qz 3 f fd rB (rC K 1 mw):=uD (m:=ug) F BB λj B d s H E g=>
 jV (n_ (lV (Nt g.units) (jP 0)<|Rh ab7.choose_spec)
 (jZ<|Ja)
 mj)
 (jZ<|kG<|mZ (N:=["number", "n"]) (cap:=[none,some 0]) rfl (oX ["n"] rfl ∅ ∅ ∅ ∅ ∅ (bO.mpr ⟨by first|exact Or.inl rfl|exact Or.inr rfl,(nofun)⟩) ⟨rfl,by decide +kernel,trivial⟩) (v9 aap<|wA abd g<|jP 0) (λ_ _ _ _=>kg (i:=0) (show(["number", "n"]:ar).Nodup by decide +kernel) rfl (Or.inl rfl)<|.inr rfl) (λ_ _ _ _=>o5) λ_ _ _ _=>Gp acd g (jP 1)<|jP 0)
def yc:FnScope qi qf (j8 pX):=uc rfl rfl rfl ∅
def xZ(F:Fun K "has_other_fall" "has_other_fall" pX f fd)(ace:mg "any" = none)(aau:nY P w K mg base 1 "falls" uL m8):FnOk P w K mg base qz 2 f fd qf (rC K 2 kH):=uD (m:=qa) F yc λj B d s H E g=>
 jZ (kG<|kJ (Z1 rfl) ace WV<|jT (mZ (N:=["k", "other"]) (cap:=[none,some 1]) rfl (oX ["other"] rfl ∅ ∅ ∅ ∅ ∅ (bO.mpr ⟨by first|exact Or.inl rfl|exact Or.inr rfl,(nofun)⟩) ⟨rfl,by decide +kernel,trivial⟩) (lB<|wA aau g<|jP 0) (λ_ _ _ _=>kg (i:=0) (show(["k", "other"]:ar).Nodup by decide +kernel) rfl (Or.inl rfl)<|.inr rfl) (λ_ _ _ _=>o5) λ_ _ _ _=>Xr (Cy g.units) (jP 0)<|wA aau g<|jP 1) j3)
def nE:FnScope r6 sF (j8 rT):=uc rfl rfl rfl ∅
def zq(F:Fun K "reached_from" "reached_from" rT f fd):FnOk P w K mg base qz 1 f fd sF (rC K 2 mD):=uD (m:=su) F nE λj B g s H E d=>
 jV (kj (i:=2) nE.nd<|UJ d.units (jP 0) ET)
 (jV (kj (i:=3) nE.nd<|mK<|jT (jP 0) j3)
 (jV (A2 1000000 bP (qC<|jP 3)
 (jV (kj (i:=4) nE.nd<|O3 PySem.F.slot_list_pop PySem.F.type_list_pop aay<|jP 3)
 (jZ (mV bP rfl (lB<|WT d.units (jP 1)<|jP 4) (kg (i:=5) nE.nd)
 (jZ (n_ (lV (F4 d.units) (jP 5)<|jP 2)
 (jV (o8 ET<|xM d.units (jP 2)<|jP 5)
 (jZ<|mT<|u7 cM cN qv (jP 3)<|jT (jP 5) j3))
 mj))))))
 (jZ<|kG<|jP 2)))
def qp:FnScope xh uH (j8 w4):=uc rfl rfl rfl ∅
def F0(F:Fun K "gathered" "gathered" w4 f fd)(aar:mg "sorted" = none)(acf:nY P w K mg base 1 "reached_from" sF mD):FnOk P w K mg base qz 2 f fd uH (rC K 1 oK):=uD (m:=wY) F qp λj B g s H E d=>
 jV (kj (i:=1) qp.nd<|V9 (λ_=>P0) d.units (N:=["order", "next_ones"]) (cap:=[none,some 0]) rfl (oX ["next_ones"] rfl ∅ ∅ ∅ ∅ ∅ (bO.mpr ⟨by first|exact Or.inl rfl|exact Or.inr rfl,(nofun)⟩) ⟨rfl,by decide +kernel,trivial⟩) (Gg<|jP 0) (λ_ _ _ _=>kg (i:=0) (show(["order", "next_ones"]:ar).Nodup by decide +kernel) rfl (Or.inl rfl)<|.inr rfl) (λ_ _ _ _=>o5) (λ_ _ _ _=>jP 0) λ_ _ _ _=>Gp acf d (jP 0)<|jP 1)
 (jV (kj (i:=2) qp.nd<|mK j3)
 (jV (mV bP rfl (lB<|kJ (NK rfl) aar p8<|jT (jP 0) j3) (kg (i:=3) qp.nd)
 (jV (kj (i:=4) qp.nd<|kJ Km aar p8<|jT (mZ (N:=["other", "order", "reached"]) (cap:=[none,some 3,some 1]) rfl (oX ["order", "reached"] rfl ∅ ∅ ∅ ∅ ∅ (bO.mpr ⟨by first|exact Or.inl rfl|exact Or.inr rfl,(bO.mpr ⟨by first|exact Or.inl rfl|exact Or.inr rfl,(nofun)⟩)⟩) ⟨rfl,by decide +kernel,⟨rfl,by decide +kernel,trivial⟩⟩) (Gg<|ym d.units (jP 1)<|jP 3) (λ_ _ _ _=>kg (i:=0) (show(["other", "order", "reached"]:ar).Nodup by decide +kernel) rfl (Or.inl rfl)<|.inr rfl) (λ_ _ _ _=>qZ<|lV (ZL d.units) (jP 1)<|ym d.units (jP 2)<|jP 0) λ_ _ _ _=>jP 0) j3)
 (jZ (n_ (lV (Ud d.units) (mU (jP 4) j6)<|jP 3)
 (jZ<|mT<|u7 cM cN qv (jP 2)<|jT (jP 4) j3)
 mj))))
 (jZ<|kG<|jP 2)))
def qg:FnScope qN nA (j8 qD):=uc rfl rfl rfl ∅
def yF(F:Fun K "right_hearths" "right_hearths" qD f fd)(abF:nY P w K mg base 3 "all_orders" rB mw)(ack:nY P w K mg base 22 "leads_among" tM oB)(abG:nY P w K mg base 2 "gathered" uH oK)(acq:nY P w K mg base 2 "has_other_fall" qf kH):FnOk P w K mg base qz 23 f fd nA (rC K 1 kL):=uD (m:=qH) F qg λj B g s H E d=>
 jV (kj (i:=1) qg.nd<|wA abF d<|jP 0)
 (jV (kj (i:=2) qg.nd<|wA ack d<|jP 1)
 (jZ<|kG<|wA abG d<|V9 (λ_=>P0) d.units (N:=["one", "orders", "leads"]) (cap:=[none,some 1,some 2]) rfl (oX ["orders", "leads"] rfl ∅ ∅ ∅ ∅ ∅ (bO.mpr ⟨by first|exact Or.inl rfl|exact Or.inr rfl,(bO.mpr ⟨by first|exact Or.inl rfl|exact Or.inr rfl,(nofun)⟩)⟩) ⟨rfl,by decide +kernel,⟨rfl,by decide +kernel,trivial⟩⟩) (lB<|jP 1) (λ_ _ _ _=>kg (i:=0) (show(["one", "orders", "leads"]:ar).Nodup by decide +kernel) rfl (Or.inr rfl)<|.inl rfl) (λ_ _ _ _=>o5) (λ_ _ _ _=>jP 0) λ_ _ _ _=>mZ (N:=["other", "leads", "one"]) (cap:=[none,some 2,some 0]) rfl (oX ["leads", "one"] rfl ∅ ∅ ∅ ∅ ∅ (bO.mpr ⟨by first|exact Or.inl rfl|exact Or.inr rfl,(bO.mpr ⟨by first|exact Or.inl rfl|exact Or.inr rfl,(nofun)⟩)⟩) ⟨rfl,by decide +kernel,⟨rfl,by decide +kernel,trivial⟩⟩) (lB<|jP 1) (λ_ _ _ _=>kg (i:=0) (show(["other", "leads", "one"]:ar).Nodup by decide +kernel) rfl (Or.inl rfl)<|.inr rfl) (λ_ _ _ _=>qZ<|AW.at<|HL (lV (aaC d.units) (oO<|jT (jP 2)<|jT (jP 0) j3)<|jP 1)<|C4<|qC<|Gp acq d (jP 0)<|jP 2) λ_ _ _ _=>jP 0))
def BL:FnScope uw qV (j8 um):=uc rfl rfl rfl ∅
def Bw(F:Fun K "with_backs" "with_backs" um f fd)(aar:mg "sorted" = none)(acr:nY P w K mg base 1 "back" GN tO):FnOk P w K mg base qz 2 f fd qV (rC K 1 nu):=uD (m:=uU) F BL λj B d s H E g=>
 jZ (kG<|kJ (S9 g.units) aar p8<|jT (mZ (N:=["hearth"]) (cap:=[none]) rfl (oX [] rfl ∅ ∅ ∅ ∅ ∅ (nofun) trivial) (lB<|jP 0) (λ_ _ _ _=>kg (i:=0) (show(["hearth"]:ar).Nodup by decide +kernel) rfl (Or.inl rfl)<|.inr rfl) (λ_ _ _ _=>o5) λ_ _ _ _=>kJ Km aar p8<|jT (mZ (N:=["order"]) (cap:=[none]) rfl (oX [] rfl ∅ ∅ ∅ ∅ ∅ (nofun) trivial) (lB<|jP 0) (λ_ _ _ _=>kg (i:=0) (show(["order"]:ar).Nodup by decide +kernel) rfl (Or.inl rfl)<|.inr rfl) (λ_ _ _ _=>o5) λ_ _ _ _=>wA acr g<|jP 0) j3) j3)
def zm:FnScope rX rS (j8 rO):=uc rfl rfl rfl ∅
def zx(F:Fun K "left_hearths" "left_hearths" rO f fd)(abH:nY P w K mg base 2 "with_backs" qV nu)(abc:nY P w K mg base 23 "right_hearths" nA kL):FnOk P w K mg base qz 24 f fd rS (rC K 1 mF):=uD (m:=rR) F zm λj B d s H E g=>
 jZ (kG<|wA abH g<|wA abc g<|jP 0)
def nv:FnScope rZ r8 (j8 rJ):=uc rfl rfl rfl ∅
def zp(F:Fun K "both_hearths" "both_hearths" rJ f fd)(abc:nY P w K mg base 23 "right_hearths" nA kL)(abF:nY P w K mg base 3 "all_orders" rB mw)(abH:nY P w K mg base 2 "with_backs" qV nu)(abG:nY P w K mg base 2 "gathered" uH oK):FnOk P w K mg base qz 24 f fd r8 (rC K 1 kX):=uD (m:=rL) F nv λj B g s H E d=>
 jV (kj (i:=1) nv.nd<|wA abc d<|jP 0)
 (jV (Ql (λ_=>P0) d.units (i:=2) (N:=["order"]) (cap:=[none]) nv.nd rfl (oX [] rfl ∅ ∅ ∅ ∅ ∅ (nofun) trivial) (lB<|wA abF d<|jP 0) (λ_ _ _ _=>kg (i:=0) (show(["order"]:ar).Nodup by decide +kernel) rfl (Or.inl rfl)<|.inr rfl) (λ_ _ _ _=>o5) (λ_ _ _ _=>jP 0) λ_ _ _ _=>mK j3)
 (jV (mV bP rfl (lB<|ko oV (jP 1)<|wA abH d<|jP 1) (kg (i:=3) nv.nd)
 (jZ (mV bP rfl (lB<|jP 3) (kg (i:=4) nv.nd)
 (jZ<|mT<|u7 PySem.F.slot_list_extend PySem.F.type_list_extend F8 (ym d.units (jP 2)<|jP 4)<|jT (jP 3) j3))))
 (jZ<|kG<|wA abG d<|jP 2)))
def Gh:FnScope wU xw (j8 w6):=uc rfl rfl rfl ∅
def FJ(F:Fun K "_law_cell" "_law_cell" w6 f fd)(aag:mg "len" = none):FnOk P w K mg base qz 1 f fd xw (rC K 2 rG):=uD (m:=wL) F Gh λg B d s H E j=>
 jV (n_ (lV (Ub j.units) (jP 1)<|kJ vG aag sA<|jT (jP 0) j3)
 (jZ<|kG<|mU (jP 0)<|jP 1)
 mj)
 (jZ<|kG j6)
def wR:FnScope yv yx (j8 yM):=uc rfl rfl rfl ∅
def HQ(F:Fun K "_law_bag" "_law_bag" yM f fd)(acu:mg "abs" = none):FnOk P w K mg base qz 1 f fd yx (rC K 2 t7):=uD (m:=yi) F wR λg B d s H E j=>
 jV (kj (i:=2) wR.nd<|kJ ZY acu YJ<|jT (jP 0) j3)
 (jV (n_ (lV (Ub j.units) (jP 2)<|ko abq j6 j6)
 (jZ<|kj (i:=2) wR.nd j6)
 mj)
 (jZ<|kG<|mK<|jT (jP 2)<|jT (ko B9 (ko oV (ko oV (ko z7 (ko B9 (jP 0) j6) j6)<|ko z7 j6<|jP 1) j6) j6) j3))
def DF:FnScope vm vJ (j8 vM):=uc rfl rfl rfl ∅
def Dj(F:Fun K "_law_mixed" "_law_mixed" vM f fd):FnOk P w K mg base qz 1 f fd vJ (rC K 1 oW):=uD (m:=vP) F DF λg B d s H E j=>
 jV (o8 (ko B9 (ko oV (ko z7 (mU (jP 0) j6) j6) j6) j6)<|yj (jP 0) j6)
 (jZ<|kG<|ko D8 (ko B9 (ko z7 (mU (jP 0) j6) j6) j6) j6)
def pK:FnScope sL vF (j8 vj):=uc rfl rfl rfl ∅
def CA(F:Fun K "_law_digit" "_law_digit" vj f fd)(aap:mg "range" = none)(abL:nY P w K mg base 1 "_law_mixed" vJ oW):FnOk P w K mg base qz 2 f fd vF (rC K 2 ng):=uD (m:=sN) F pK λj B g s H E d=>
 jV (n_ (lV (Nt d.units) (mU (jP 0) j6) j6)
 (jV (kj (i:=2) pK.nd<|ko B9 (mU (jP 0) j6)<|jP 1)
 (jV (o8 (ko D8 (mU (jP 0) j6)<|jP 1)<|yj (jP 0) j6)
 (jZ<|kG<|jP 2)))
 mj)
 (jV (kj (i:=2) pK.nd<|wA abL d<|jP 0)
 (jV (n_ (lV (Nt d.units) (jP 1) j6)
 (jZ (mV bP rfl (v9 aap j6) (kg (i:=3) pK.nd)
 (jZ<|kj (i:=2) pK.nd<|ko oV (ko z7 (jP 2) j6)<|wA abL d<|jP 0)))
 mj)
 (jZ<|kG<|ko B9 (jP 2)<|jP 1)))
def lI:FnScope uA uG (j8 uN):=uc rfl rfl rfl ∅
def BA(F:Fun K "_law_tables" "_law_tables" uN f fd)(abh:mg "enumerate" = none)(aag:mg "len" = none)(aap:mg "range" = none):FnOk P w K mg base qz 1 f fd uG (rC K 1 nj):=uD (m:=uT) F lI λj B d s H E g=>
 jV (kj (i:=1) lI.nd<|mK j3)
 (jV (kj (i:=2) lI.nd<|mK j3)
 (jV (mV bP rfl (Pk abh<|jP 0) (qI rfl<|kO (kg (i:=3) lI.nd)<|kO (kg (i:=4) lI.nd) oE)
 (jV (kj (i:=5) lI.nd j6)
 (jZ (A2 1000000 bP (lV U_ (jP 4)<|OU)
 (jV (n_ (lV (Ud g.units) (jP 5)<|kJ vG aag sA<|jT (jP 1) j3)
 (jV (mT<|u7 cM cN qv (jP 1)<|jT (mK j3) j3)
 (jZ<|mT<|u7 cM cN qv (jP 2)<|jT (mK j3) j3))
 mj)
 (jV (Uc (i:=6) (N:=["_law_k", "_law_letter", "_law_first", "_law_at"]) (cap:=[none,some 4,some 1,some 5]) lI.nd rfl (oX ["_law_letter", "_law_first", "_law_at"] rfl ∅ ∅ ∅ ∅ ∅ (bO.mpr ⟨by first|exact Or.inl rfl|exact Or.inr rfl,(bO.mpr ⟨by first|exact Or.inl rfl|exact Or.inr rfl,(bO.mpr ⟨by first|exact Or.inl rfl|exact Or.inr rfl,(nofun)⟩)⟩)⟩) ⟨rfl,by decide +kernel,⟨rfl,by decide +kernel,⟨rfl,by decide +kernel,trivial⟩⟩⟩) (v9 aap<|kJ vG aag sA<|jT (mU (jP 1)<|jP 5) j3) (λ_ _ _ _=>kg (i:=0) (show(["_law_k", "_law_letter", "_law_first", "_law_at"]:ar).Nodup by decide +kernel) rfl (Or.inl rfl)<|.inr rfl) (λ_ _ _ _=>qZ<|lV (Nt g.units) (mU (mU (jP 2)<|jP 3)<|jP 0)<|jP 1) λ_ _ _ _=>jP 0)
 (jZ (n_ (lV (Ud g.units) (jP 6)<|mK j3)
 (jV (mT<|u7 cM cN qv (mU (jP 1)<|jP 5)<|jT (jP 4) j3)
 (jV (mT<|u7 cM cN qv (mU (jP 2)<|jP 5)<|jT (ko oV (jP 3) j6) j3)
 (jZ<|kj (i:=4) lI.nd<|OU)))
 (jV (o8 (oO<|jT (mU (mU (jP 1)<|jP 5)<|mU (jP 6) j6)<|jT (jP 4) j3)<|qI rfl<|kO (kg (i:=4) lI.nd)<|kO (yj (mU (jP 1)<|jP 5)<|mU (jP 6) j6) oE)
 (jZ<|kj (i:=5) lI.nd<|ko oV (jP 5) j6))))))))))
 (jZ<|kG<|oO<|jT (jP 1)<|jT (jP 2) j3)))
def pZ:FnScope yH yV (j8 yO):=uc rfl rfl rfl ∅
def G4(F:Fun K "_law_all" "_law_all" yO f fd)(aap:mg "range" = none):FnOk P w K mg base qz 1 f fd yV (rC K 1 tY):=uD (m:=yD) F pZ λg B d s H E j=>
 jV (kj (i:=1) pZ.nd<|mK<|jT (oO j3) j3)
 (jV (mV bP rfl (v9 aap<|jP 0) (kg (i:=2) pZ.nd)
 (jV (kj (i:=3) pZ.nd<|mK j3)
 (jV (mV bP rfl (lB<|jP 1) (kg (i:=4) pZ.nd)
 (jZ<|mT<|u7 PySem.F.slot_list_extend PySem.F.type_list_extend F8 (jP 3)<|jT (mZ (N:=["_law_thing", "_law_some"]) (cap:=[none,some 4]) rfl (oX ["_law_some"] rfl ∅ ∅ ∅ ∅ ∅ (bO.mpr ⟨by first|exact Or.inl rfl|exact Or.inr rfl,(nofun)⟩) ⟨rfl,by decide +kernel,trivial⟩) (yJ aap j6<|ko oV (jP 0) j6) (λ_ _ _ _=>kg (i:=0) (show(["_law_thing", "_law_some"]:ar).Nodup by decide +kernel) rfl (Or.inl rfl)<|.inr rfl) (λ_ _ _ _=>qZ<|lV (Cy j.units) (jP 0)<|jP 1) λ_ _ _ _=>ko oV (jP 1)<|oO<|jT (jP 0) j3) j3))
 (jZ<|kj (i:=1) pZ.nd<|jP 3))))
 (jZ<|kG<|jP 1))
def xS:FnScope pY qc (j8 qh):=uc rfl rfl rfl ∅
def x_(F:Fun K "_law_is_hearths" "_law_is_hearths" qh f fd)(abI:mg "all" = none)(aaZ:mg "isinstance" = none)(aaS:mg "list" = none)(aaK:mg "tuple" = none):FnOk P w K mg base qz 1 f fd qc (rC K 2 k9):=uD (m:=p_) F xS λg B d s H E j=>
 jV (n_ (AW.at<|HW (Bg<|qC<|kJ Gm aaZ ow<|jT (jP 0)<|jT (Fc aaS xQ) j3)<|HW (Bg<|qC<|kJ (OZ rfl) abI GF<|jT (mZ (N:=["_law_hearth"]) (cap:=[none]) rfl (oX [] rfl ∅ ∅ ∅ ∅ ∅ (nofun) trivial) (lB<|jP 0) (λ_ _ _ _=>kg (i:=0) (show(["_law_hearth"]:ar).Nodup by decide +kernel) rfl (Or.inl rfl)<|.inr rfl) (λ_ _ _ _=>o5) λ_ _ _ _=>kJ Gm aaZ ow<|jT (jP 0)<|jT (Fc aaS xQ) j3) j3)<|Om<|lV (Mf j.units) (jP 0)<|jP 1)
 (jZ<|kG ET)
 mj)
 (jZ<|kG<|kJ (OZ rfl) abI GF<|jT (mZ (N:=["_law_hearth"]) (cap:=[none]) rfl (oX [] rfl ∅ ∅ ∅ ∅ ∅ (nofun) trivial) (lB<|jP 0) (λ_ _ _ _=>kg (i:=0) (show(["_law_hearth"]:ar).Nodup by decide +kernel) rfl (Or.inl rfl)<|.inr rfl) (λ_ _ _ _=>o5) λ_ _ _ _=>kJ (OZ rfl) abI GF<|jT (mZ (N:=["_law_order"]) (cap:=[none]) rfl (oX [] rfl ∅ ∅ ∅ ∅ ∅ (nofun) trivial) (lB<|jP 0) (λ_ _ _ _=>kg (i:=0) (show(["_law_order"]:ar).Nodup by decide +kernel) rfl (Or.inl rfl)<|.inr rfl) (λ_ _ _ _=>o5) λ_ _ _ _=>kJ Gm aaZ ow<|jT (jP 0)<|jT (Fc aaK vd) j3) j3) j3)
def uB:FnScope yy yN (j8 yE):=uc rfl rfl rfl ∅
def Gw(F:Fun K "_law_due" "_law_due" yE f fd)(aaK:mg "tuple" = none)(aag:mg "len" = none)(aar:mg "sorted" = none)(acw:nY P w K mg base 1 "_law_all" yV tY)(acz:nY P w K mg base 1 "_law_tables" uG nj):FnOk P w K mg base qz 2 f fd yN (rC K 1 rF):=uD (m:=yq) F uB λj B g s H E d=>
 jV (kj (i:=1) uB.nd ye)
 (jV (mV bP rfl (lB<|wA acw d<|jP 0) (kg (i:=2) uB.nd)
 (jV (kj (i:=3) uB.nd<|oq (zI rfl) aaK vd<|jT (mZ (N:=["_law_row"]) (cap:=[none]) rfl (oX [] rfl ∅ ∅ ∅ ∅ ∅ (nofun) trivial) (lB<|mU (wA acz d<|jP 2) j6) (λ_ _ _ _=>kg (i:=0) (show(["_law_row"]:ar).Nodup by decide +kernel) rfl (Or.inl rfl)<|.inr rfl) (λ_ _ _ _=>o5) λ_ _ _ _=>kJ vG aag sA<|jT (jP 0) j3) j3)
 (jZ<|o8 (ko oV (Nd c8 e_ (VZ d.units) (jP 1)<|jT (jP 3)<|jT (mK j3) j3)<|mK<|jT (jP 2) j3)<|xM d.units (jP 1)<|jP 3)))
 (jZ<|kG<|RP d.units rfl aar p8<|jP 1))
def AJ:FnScope MW VM (j8 Ra):=uc rfl rfl rfl ∅
set_option smartUnfolding false in
theorem Xp(F:Fun K "law" "law" Ra f fd)(aag:mg "len" = none)(acA:nY P w K mg base 2 "_law_digit" vF ng)(acD:nY P w K mg base 1 "_law_bag" yx t7)(acE:nY P w K mg base 1 "_law_cell" xw rG)(acF:nY P w K mg base 2 "_law_due" yN rF)(abN:nY P w K mg base 24 "both_hearths" r8 kX)(abO:nY P w K mg base 1 "_law_is_hearths" qc k9)(abc:nY P w K mg base 23 "right_hearths" nA kL)(acG:nY P w K mg base 24 "left_hearths" rS mF):FnOk P w K mg base qz 25 f fd VM (rC K 1 Ca):=uD (m:=Qf) F AJ λj B g s H E d=>
 jV (kj (i:=1) AJ.nd<|mU (mK<|jT j6<|jT j6<|jT j6<|jT j6<|jT j6<|jT j6 j3)<|Gp acA d (Gp acD d (Gp acE d (jP 0) j6) j6) j6)
 (jV (kj (i:=2) AJ.nd<|wA acF d<|jP 1)
 (jV (kj (i:=3) AJ.nd<|wA abN d<|jP 1)
 (jV (n_ (Bg<|qC<|Gp abO d (jP 3)<|jP 2)
 (jZ<|kG ET)
 mj)
 (jV (mV bP rfl (lB<|ko oV (wA abc d<|jP 1)<|wA acG d<|jP 1) (kg (i:=4) AJ.nd)
 (jZ (n_ (lV (Mf d.units) (kJ vG aag sA<|jT (mZ (N:=["_law_whole", "_law_hearth"]) (cap:=[none,some 4]) rfl (oX ["_law_hearth"] rfl ∅ ∅ ∅ ∅ ∅ (bO.mpr ⟨by first|exact Or.inl rfl|exact Or.inr rfl,(nofun)⟩) ⟨rfl,by decide +kernel,trivial⟩) (lB<|jP 3) (λ_ _ _ _=>kg (i:=0) (show(["_law_whole", "_law_hearth"]:ar).Nodup by decide +kernel) rfl (Or.inr rfl)<|.inl rfl) (λ_ _ _ _=>qZ<|lV (Ud d.units) (mZ (N:=["_law_one", "_law_whole"]) (cap:=[none,some 0]) rfl (oX ["_law_whole"] rfl ∅ ∅ ∅ ∅ ∅ (bO.mpr ⟨by first|exact Or.inl rfl|exact Or.inr rfl,(nofun)⟩) ⟨rfl,by decide +kernel,trivial⟩) (lB<|jP 1) (λ_ _ _ _=>kg (i:=0) (show(["_law_one", "_law_whole"]:ar).Nodup by decide +kernel) rfl (Or.inl rfl)<|.inr rfl) (λ_ _ _ _=>qZ<|lV (Cy d.units) (jP 0)<|jP 1) λ_ _ _ _=>jP 0)<|mK j3) λ_ _ _ _=>jP 0) j3) j6)
 (jZ<|kG ET)
 mj)))
 (jV (mT<|u7 cM cN qv (mU (jP 3) j6)<|jT (oO j3) j3)
 (jV (mT<|O3 PySem.F.slot_list_reverse PySem.F.type_list_reverse Ml<|jP 3)
 (jZ<|kG<|Gp abO d (wA abN d<|jP 1)<|jP 2)))))))
end
end K68
namespace Po
open Am
meta abbrev Pl:=List<|Int×Int
abbrev val (d:Pl)(k:Int):Int:=((d.find? λp=>decide<|p.1=k).map (·.2)).getD 0
abbrev has (d:Pl)(k:Int):Bool:=d.any λp=>decide<|p.1=k
abbrev put (d:Pl)(k v:Int):Pl:=if has d k=true then d.map (λp=>if p.1=k then(p.1,v)else p)else d++[(k,v)]
abbrev acc (d:Pl)(k v:Int):Pl:=put d k<|val d k+v
abbrev cf:Pl->Int->Int
 | [],_=>0
 | p::l,k=>(if p.1=k then p.2 else 0)+cf l k
def qu{p:Int×Int}{d:Pl}{k:Int}:val (p::d) k=if p.1=k then p.2 else val d k:=by
 unfold val;rw[cj];by_cases h:p.1=k
 ·rw[bf h,aV h];rfl
 ·rw[bz h,aR h]
def AM{p:Int×Int}{d:Pl}{k:Int}:has (p::d) k=(decide (p.1=k) || has d k):=rfl
def yd{d:Pl}{k:Int}:has d k=true ↔ k∈d.map Prod.fst:=by
 unfold has;rw[gC,aY];constructor
 ·rintro⟨p,h1,h2⟩;exact⟨p,h1,b8 h2⟩
 ·rintro⟨p,h1,h2⟩;exact⟨p,h1,bf h2⟩
def Np{d:Pl}{k:Int}(h:has d k=false):val d k=0:=by
 induction d with
 | nil=>rfl
 | cons p d f=>
  rw[AM,iY]at h;rw[qu,aR<|eW h.1,f h.2]
def SX{d:Pl}{k v j:Int}(h:has d k=false):val (d++[(k,v)]) j=if j=k then v else val d j:=by
 induction d with
 | nil=>
  show val [(k,v)] j=_;rw[qu];by_cases c:k=j
  ·rw[aV c,aV c.symm]
  ·rw[aR c,aR λz=>c z.symm]
 | cons p d f=>
  rw[AM,iY]at h;have:=eW h.1;rw[iP,qu,qu,f h.2];by_cases c:p.1=j
  ·rw[aV c,aV c,aR λz=>this<|c.trans z]
  ·rw[aR c,aR c]
def Uj{d:Pl}{k v j:Int}:val (d.map λp=>if p.1=k then(p.1,v)else p) j=if j=k/\has d k=true then v else val d j:=by
 induction d with
 | nil=>
  rw[aR λz=>by cases z.2];rfl
 | cons p d f=>
  rw[bC,qu,qu,f,AM];by_cases c:p.1=k
  ·rw[aV c,bf c,Bool.true_or];by_cases e:j=k
   ·rw[aV<|show p.1=j by lia,aV ⟨e,rfl⟩]
   ·rw[aR<|show ¬p.1=j by lia,aR λz=>e z.1,aR λz=>e z.1,aR<|show ¬p.1=j by lia]
  ·rw[aR c,bz c,f9];by_cases e:p.1=j
   ·rw[aV e,aV e,aR λz=>c<|e.trans z.1]
   ·rw[aR e,aR e]
def T_{d:Pl}{k v j:Int}:val (put d k v) j=if j=k then v else val d j:=by
 unfold put
 cases h:has d k with
 | true=>
  rw[aV rfl,Uj,h];by_cases c:j=k
  ·rw[aV ⟨c,rfl⟩,aV c]
  ·rw[aR λz=>c z.1,aR c]
 | false=>rw[aR<|by simp,SX h]
def Ue{d:Pl}{k v j:Int}:val (acc d k v) j=val d j+if k=j then v else 0:=by
 unfold acc;rw[T_];by_cases c:j=k
 ·subst c;rw[aV rfl,aV rfl]
 ·rw[aR c,aR λz=>c z.symm,fR]
def EJ{d:Pl}{k v:Int}:(put d k v).map Prod.fst=if has d k=true then d.map Prod.fst else d.map Prod.fst++[k]:=by
 unfold put;split
 ·rw[bg];apply bW;intro p _;show(if p.1=k then(p.1,v)else p).1=p.1;split<;>rfl
 ·rw[bu];rfl
def Xj{d:Pl}{k v:Int}(h:(d.map Prod.fst).Nodup):((put d k v).map Prod.fst).Nodup:=by
 rw[EJ];split
 ·exact h
 ·rename_i c;rw[cy];refine⟨h,cP _ _,λa ha b hb z=>c ?_⟩;rw[aP]at hb;rw[yd,<- hb,<- z];exact ha
def SI{d:Pl}{k v:Int}:(put d k v).length<=d.length+1:=by
 unfold put;split
 ·rw[aG];lia
 ·rw[aX];exact aM _
abbrev Bd (c:Nat)(d:Pl):Prop:=∀p∈d,p.2.natAbs<=c
theorem Bd.val{c:Nat}{d:Pl}(h:Bd c d)(k:Int):(val d k).natAbs<=c:=by
 induction d with
 | nil=>exact bK _
 | cons p d f=>
  rw[qu];split
  ·exact h p (aL ..)
  ·exact f λq hq=>h q<|aQ _ hq
abbrev sG (d ps:Pl):Pl:=ps.foldl (λd p=>acc d p.1 p.2) d
def QZ(d:Pl):sG d []=d:=rfl
def AZ(d ps qs:Pl):sG d (ps++qs)=sG (sG d ps) qs:=by unfold sG;rw[dU]
def xN(ps:Pl):∀(d:Pl) (k:Int),val (sG d ps) k=val d k+cf ps k:=by
 induction ps with
 | nil=>intro d k;rw[QZ];show _=_+0;rw[fR]
 | cons p ps f=>
  intro d k;show val (sG (acc d p.1 p.2) ps) k=_;rw[f,Ue];show _=_+(_+_);rw[iU]
def wk(ps:Pl):∀{d:Pl},(d.map Prod.fst).Nodup->((sG d ps).map Prod.fst).Nodup:=by
 induction ps with
 | nil=>intro d h;exact h
 | cons p ps f=>intro d h;exact f<|Xj h
def vf(ps:Pl):∀(d:Pl),(sG d ps).length<=d.length+ps.length:=by
 induction ps with
 | nil=>intro d;exact aM _
 | cons p ps f=>
  intro d;have h1:=f<|acc d p.1 p.2;have h2:(acc d p.1 p.2).length<=d.length+1:=SI;show(sG (acc d p.1 p.2) ps).length<=_;rw[bA]
  lia
structure Ok (l:Pl):Prop where
 up:l.Pairwise λp q=>p.1<q.1
 nz:∀p∈l,p.2≠0
def Ok.tail{p:Int×Int}{l:Pl}(h:Ok (p::l)):Ok l:=⟨(b9.mp h.up).2,λq hq=>h.nz q<|aQ _ hq⟩
def EW{l:Pl}{k:Int}(h:∀p∈l,k<p.1):cf l k=0:=by
 induction l with
 | nil=>rfl
 | cons p l d=>
  show(if p.1=k then p.2 else 0)+cf l k=0;have:=h p<|aL ..;rw[aR (),d λq hq=>h q<|aQ _ hq];rfl
def Ok.head{p:Int×Int}{l:Pl}(h:Ok (p::l)):cf (p::l) p.1=p.2:=by
 show(if p.1=p.1 then p.2 else 0)+cf l p.1=p.2;rw[aV rfl,EW (b9.mp h.up).1,fR]
def Ok.low{p:Int×Int}{l:Pl}(h:Ok (p::l)){k:Int}(hk:k<p.1):cf (p::l) k=0:=EW λq hq=>by
 rcases bH.mp hq with rfl|z
 ·exact hk
 ·have:=(b9.mp h.up).1 q z;lia
theorem uniq:∀{l m:Pl},Ok l->Ok m->(∀k,cf l k=cf m k)->l=m
 | [],[],_,_,_=>rfl
 | [],q::m,_,h,e=>by
  have:=e q.1;rw[h.head]at this;exact absurd this.symm<|h.nz q<|aL ..
 | p::l,[],h,_,e=>by
  have:=e p.1;rw[h.head]at this;exact absurd this<|h.nz p<|aL ..
 | p::l,q::m,h,h',e=>by
  have f:=h.nz p<|aL ..;have d:=h'.nz q<|aL ..;have e1:p.1=q.1:=by
   rcases Int.lt_trichotomy p.1 q.1 with c|c|c
   ·have:=e p.1;rw[h.head,h'.low c]at this;exact absurd this f
   ·exact c
   ·have:=e q.1;rw[h'.head,h.low c]at this;exact absurd this.symm d
  have e2:p.2=q.2:=by
   have:=e p.1;rw[h.head,e1,h'.head]at this;exact this
  have e3:p=q:=Prod.ext e1 e2;subst e3;rw[uniq h.tail h'.tail λk=>by
   have:(if p.1=k then p.2 else 0)+cf l k=(if p.1=k then p.2 else 0)+cf m k:=e k
   lia]
abbrev Lm (d:Pl):Pl:=((sortI<|d.map Prod.fst).filter λk=>val d k != 0).map λk=>(k,val d k)
def SA{ks:ag}(h:ks.Nodup):(sortI ks).Pairwise (· < ·):=by
 have p:=AR ks;have n:(sortI ks).Nodup:=(sortI_perm ks).nodup_iff.mpr h;have:(sortI ks).Pairwise λa b=>a<=b/\a≠b:=p.and n;exact this.imp λ⟨a,b⟩=>()
def DT{d:Pl}(h:(d.map Prod.fst).Nodup):Ok (Lm d):=by
 refine⟨?_,λp g=>?_⟩
 ·unfold Lm;rw[cL];exact(SA h).filter _
 ·obtain⟨k,f,rfl⟩:=aY.mp g;have:=(cA.mp f).2;simpa using this
theorem P7{d:Pl}{k:Int}:∀{ks:ag},ks.Nodup->cf (ks.map λj=>(j,val d j)) k=if k∈ks then val d k else 0
 | [],_=>by rw[aR<|by simp];rfl
 | j::ks,h=>by
  obtain⟨h1,h2⟩:=bX.mp h;show(if j=k then val d j else 0)+cf (ks.map λj=>(j,val d j)) k=_;rw[P7 h2];by_cases c:j=k
  ·subst c;rw[aV rfl,aR h1,aV<|aL ..,fR]
  ·rw[aR c,dm];by_cases e:k∈ks
   ·rw[aV e,aV<|aQ _ e]
   ·rw[aR e,aR λz=>(bH.mp z).elim (λz=>c z.symm) e]
def DQ{d:Pl}(h:(d.map Prod.fst).Nodup)(k:Int):cf (Lm d) k=val d k:=by
 unfold Lm;rw[P7<|((sortI_perm _).nodup_iff.mpr h).filter _];split
 ·rfl
 ·rename_i c
  cases e:has d k with
  | false=>exact(Np e).symm
  | true=>
   by_cases z:val d k=0
   ·exact z.symm
   ·exact absurd (cA.mpr ⟨(sortI_perm _).mem_iff.mpr<|yd.mp e,by simpa using z⟩) c
def Yx{d e:Pl}(h:(d.map Prod.fst).Nodup)(h':(e.map Prod.fst).Nodup)(hv:∀k,val d k=val e k):Lm d=Lm e:=
 uniq (DT h) (DT h') λk=>by rw[DQ h,DQ h',hv]
def Ok.nd{l:Pl}(h:Ok l):(l.map Prod.fst).Nodup:=by
 unfold List.Nodup;rw[cL];exact h.up.imp λa=>()
def RI{l:Pl}(h:(l.map Prod.fst).Nodup)(k:Int):val l k=cf l k:=by
 induction l with
 | nil=>rfl
 | cons p l d=>
  obtain⟨h1,h2⟩:=bX.mp h;rw[qu];show _=(if p.1=k then p.2 else 0)+cf l k;rw[<- d h2];by_cases c:p.1=k
  ·have:has l k=false:=by
    cases e:has l k with
    | false=>rfl
    | true=>exact absurd (yd.mp e)<|by rw[<- c];exact h1
   rw[aV c,aV c,Np this,fR]
  ·rw[aR c,aR c,dm]
abbrev QE (d ps:Pl):Pl:=ps.foldl (λd p=>put d p.1 p.2) d
theorem HU:∀(ps d:Pl),((d++ps).map Prod.fst).Nodup->QE d ps=d++ps
 | [],d,_=>by rw[bZ];rfl
 | p::ps,d,h=>by
  have hn:has d p.1=false:=by
   cases e:has d p.1 with
   | false=>rfl
   | true=>
    rw[bu,cy]at h;exact absurd rfl<|h.2.2 _ (yd.mp e) p.1<|cu<|aL ..
  have e:put d p.1 p.2=d++[p]:=by unfold put;rw[hn];rfl
  show QE (put d p.1 p.2) ps=_;rw[e,HU ps (d++[p])<|by rw[cJ];exact h,cJ];rfl
def JI{l:Pl}(h:Ok l):QE [] l=l:=HU l [] h.nd
abbrev plus (a b:Pl):Pl:=Lm<|sG a b
abbrev rH (a b:Pl):Pl:=Lm<|sG []<|a++b
def Uy{a:Pl}(h:Ok a):plus a b=rH a b:=by
 refine Yx (wk _ h.nd) (wk _ cY) λk=>?_;rw[xN,xN,RI h.nd];have:∀(a b:Pl),cf (a++b) k=cf a k+cf b k:=λa b=>by
  induction a with
  | nil=>exact(dm _).symm
  | cons p a d=>
   show _+cf (a++b) k=_+_+_;rw[d,iU]
 rw[this];show _=0+_;rw[dm]
def AA(a b:Pl):Ok (rH a b):=DT<|wk _ cY
abbrev Ka (a b:Pl):Pl:=a.flatMap λp=>b.map λq=>(p.1+q.1,p.2 * q.2)
abbrev times (a b:Pl):Pl:=Lm<|sG []<|Ka a b
def AH(a b:Pl):Ok (times a b):=DT<|wk _ cY
def O7(a:Pl)(p:Int×Int)(b:Pl):Ka (a++[p]) b=Ka a b++b.map λq=>(p.1+q.1,p.2 * q.2):=by
 unfold Ka;rw[gG,gf,jz,bZ]
def Jl(a b:Pl):(Ka a b).length=a.length * b.length:=by
 induction a with
 | nil=>simp[Ka]
 | cons p a d=>
  show((b.map _)++Ka a b).length=_;rw[aX,aG,d,bA,jd]
  lia
abbrev turn (a:Pl):Pl:=a.reverse.map λp=>(-p.1,p.2)
abbrev iv (d:Pl):List (Int×A):=d.map λp=>(p.1,.int p.2)
abbrev pA (p:Int×Int):A:=.tup [.int p.1,.int p.2]
abbrev pl (l:Pl):ae:=l.map pA
def DL(d:Pl)(k:Int):oz (iv d) k=(d.find? λp=>decide<|p.1=k).map λp=>.int p.2:=by
 unfold oz iv;rw[fK,dJ];rfl
def HB(d:Pl)(k:Int):(oz (iv d) k).getD (.int 0)=.int (val d k):=by
 rw[DL];unfold val
 cases d.find? λp=>decide (p.1=k)<;>rfl
def EO{d:Pl}{k:Int}(h:k∈d.map Prod.fst):oz (iv d) k=some (.int<|val d k):=by
 have:=yd.mpr h;unfold has at this;rw[DL];unfold val
 cases e:d.find? λp=>decide (p.1=k)with
 | some p=>rfl
 | none=>
  obtain⟨p,f,g⟩:=gC.mp this;exact absurd g<|fS.mp e p f
def Hw(d:Pl)(k v:Int):yh (iv d) k (.int v)=iv (put d k v):=by
 have e:(oz (iv d) k).isSome=has d k:=by
  rw[DL,dG];unfold has;rw[Bool.eq_iff_iff,jt,gC]
 unfold yh put;rw[e];unfold iv;split
 ·rw[bg,bg];apply bW;intro p _;show(if p.1=k then(p.1,A.int v)else(p.1,.int p.2))=_;show _=((if p.1=k then(p.1,v)else p).1,A.int (if p.1=k then(p.1,v)else p).2);split<;>rfl
 ·rw[bu];rfl
def TF(d:Pl):(iv d).map Prod.fst=d.map Prod.fst:=by
 unfold iv;rw[bg];rfl
theorem RN:∀l:Pl,S_ (pl l)=some (iv l)
 | []=>rfl
 | p::l=>by
  show(S_<|pl l).map _=_;rw[RN l];rfl
def Lf(l:Pl):U3 (iv l)=iv (QE [] l):=by
 have:∀(l d:Pl),(iv l).foldl (λacc p=>yh acc p.1 p.2) (iv d)=iv (QE d l):=by
  intro l
  induction l with
  | nil=>intro d;rfl
  | cons p l f=>
   intro d;show(iv l).foldl _ (yh (iv d) p.1<|.int p.2)=_;rw[Hw,f];rfl
 exact this l []
end Po
namespace Tb
abbrev fg (r:ag)(x:Int):Nat:=r.findIdx λy=>decide<|x<y
abbrev put:List (ag)->Int->List (ag)
 | [],x=>[[x]]
 | r::rs,x=>if fg r x=r.length then(r++[x])::rs else r.set (fg r x) x::put rs (r.getD (fg r x) 0)
abbrev row:List (ag)->Int->Nat
 | [],_=>0
 | r::rs,x=>if fg r x=r.length then 0 else row rs (r.getD (fg r x) 0)+1
def Tr{r:ag}{x:Int}(h:fg r x=r.length):put (r::rs) x=(r++[x])::rs:=aV h
def Xs{r:ag}{x:Int}(h:fg r x≠r.length):put (r::rs) x=r.set (fg r x) x::put rs (r.getD (fg r x) 0):=aR h
def Ih{r:ag}{x:Int}(h:fg r x=r.length):row (r::rs) x=0:=aV h
def Qd{r:ag}{x:Int}(h:fg r x≠r.length):row (r::rs) x=row rs (r.getD (fg r x) 0)+1:=aR h
theorem N4:∀(T:List<|ag) (x:Int),row T x<=T.length
 | [],_=>aM _
 | r::rs,x=>by
  by_cases h:fg r x=r.length
  ·rw[Ih h];exact bK _
  ·rw[Qd h,bA];exact Nat.succ_le_succ<|N4 rs _
abbrev bump:am->Nat->am
 | [],_=>[1]
 | n::ns,0=>(n+1)::ns
 | n::ns,i+1=>n::bump ns i
theorem Cf:∀(T:List<|ag) (x:Int),(put T x).map List.length=bump (T.map List.length) (row T x)
 | [],_=>rfl
 | r::rs,x=>by
  by_cases h:fg r x=r.length
  ·rw[Tr h,Ih h,bC,bC,aX];rfl
  ·rw[Xs h,Qd h,bC,bC,bU,Cf rs];rfl
theorem Fb:∀(ns:am) (i:Nat),i<=ns.length->(bump ns i).length=if i=ns.length then ns.length+1 else ns.length
 | [],i,h=>by
  have:i=0:=by simpa using h
  subst this;rfl
 | n::ns,0,_=>by rw[aR<|by simp];rfl
 | n::ns,i+1,h=>by
  have h':i<=ns.length:=Nat.le_of_succ_le_succ h;show(bump ns i).length+1=_;rw[Fb ns i h'];by_cases e:i=ns.length
  ·rw[aV e,aV<|by rw[bA,e]];rfl
  ·rw[aR e,aR<|by rw[bA];lia];rfl
def KO(T:List<|ag)(x:Int):(put T x).length=if row T x=T.length then T.length+1 else T.length:=by
 have:=cV List.length<|Cf T x;rw[aG,Fb _ _<|by rw[aG];exact N4 T x,aG]at this;exact this
abbrev add:List (ag)->Nat->Int->List (ag)
 | [],_,k=>[[k]]
 | q::qs,0,k=>(q++[k])::qs
 | q::qs,i+1,k=>q::add qs i k
abbrev gs (r:ag)(x:Int):am:=(List.range r.length).filter λk=>decide<|x<r.getD k 0
end Tb
namespace Am
open PySem L2
abbrev Rows (S:jU):am->List (ag)->Prop
 | [],[]=>True
 | r::rs,x::T=>jS S r=some (x.map .int)/\Rows S rs T
 | _,_=>False
theorem Rows.len:∀{rs:am}{T:List<|ag},Rows S rs T->rs.length=T.length
 | [],[],_=>rfl
 | _::_,_::_,h=>cV (·+1) (Rows.len h.2)
 | [],_::_,h=>h.elim
 | _::_,[],h=>h.elim
theorem Rows.get:∀{rs:am}{T:List<|ag}{i:Nat}{r:Nat},Rows S rs T->rs[i]?=some r->i<T.length/\jS S r=some ((T.getD i []).map .int)
 | [],[],_,_,_,e=>by simp at e
 | r::rs,x::T,0,_,h,e=>by simp at e;subst e;exact⟨Nat.zero_lt_succ _,h.1⟩
 | r::rs,x::T,i+1,q,h,e=>by
  obtain⟨h1,h2⟩:=Rows.get (i:=i) (r:=q) h.2 (by simpa using e);exact⟨Nat.succ_lt_succ h1,by simpa using h2⟩
 | [],_::_,_,_,h,_=>h.elim
 | _::_,[],_,_,h,_=>h.elim
theorem Rows.mono:∀{rs:am}{T:List<|ag},Rows S rs T->(∀r∈rs,∀xs,jS S r=some xs->jS S' r=some xs)->Rows S' rs T
 | [],[],_,_=>trivial
 | r::rs,x::T,h,k=>⟨k r (aL ..) _ h.1,Rows.mono h.2 λq hq=>k q<|aQ _ hq⟩
 | [],_::_,h,_=>h.elim
 | _::_,[],h,_=>h.elim
theorem Rows.set{S:jU}{ys:ag}:∀{rs:am}{T:List<|ag}{i:Nat}{r:Nat},Rows S rs T->rs.Nodup->rs[i]?=some r->Rows (S.set r<|.lst<|ys.map .int) rs (T.set i ys)
 | [],[],_,_,_,_,e=>by simp at e
 | r::rs,x::T,0,q,h,nd,e=>by
  simp at e;subst e;refine⟨pB<|lJ h.1,Rows.mono h.2 λq hq xs e=>?_⟩;rw[nk<|show r≠q from λz=>(bX.mp nd).1<|by rw[z];exact hq];exact e
 | r::rs,x::T,i+1,q,h,nd,e=>by
  have d:rs[i]?=some q:=by simpa using e
  refine⟨?_,Rows.set h.2 (bX.mp nd).2 d⟩;rw[nk<|show q≠r from λz=>(bX.mp nd).1<|by rw[<- z];exact a_ d];exact h.1
 | [],_::_,_,_,h,_,_=>h.elim
 | _::_,[],_,_,h,_,_=>h.elim
theorem Rows.app:∀{rs rs':am}{T T':List<|ag},Rows S rs T->Rows S rs' T'->Rows S (rs++rs') (T++T')
 | [],_,[],_,_,h=>h
 | r::rs,_,x::T,_,h,h'=>⟨h.1,Rows.app h.2 h'⟩
 | [],_,_::_,_,h,_=>h.elim
 | _::_,_,[],_,h,_=>h.elim
structure Tab (S:jU)(n:Nat)(rs:am)(T:List (ag)):Prop where
 top:jS S n=some (rs.map .ref)
 rows:Rows S rs T
 nd:(n::rs).Nodup
def Tab.len{n:Nat}{rs:am}{T:List<|ag}(h:Tab S n rs T):rs.length=T.length:=h.rows.len
def Tab.kp{n:Nat}{c:Nat->Prop}(h:Tab S n rs T)(k:Kp c S S')(hc:∀r∈n::rs,¬c r):Tab S' n rs T:=
 ⟨k.lst _ _ (hc n<|aL ..) h.top,h.rows.mono λr d xs e=>k.lst r xs (hc r<|aQ _ d) e,h.nd⟩
def Tab.wm{n:Nat}(h:Tab S n rs T)(k:kZ S S'):Tab S' n rs T:=h.kp k λ_ _ z=>z
def Rows.lt{S:jU}{rs:am}(h:Rows S rs T):∀r∈rs,r<S.length:=λr d=>by
 obtain⟨i,f,e⟩:=bQ.mp d;exact lJ (h.get<|by rw[aI f,e]).2
def Tab.lt{S:jU}{n:Nat}(h:Tab S n rs T):∀r∈n::rs,r<S.length:=λr d=>by
 rcases bH.mp d with z|z
 ·rw[z];exact lJ h.top
 ·exact h.rows.lt r z
def Tab.set{S:jU}{n:Nat}{T:List<|ag}{i r:Nat}{ys:ag}(h:Tab S n rs T)(hi:rs[i]?=some r):Tab (S.set r<|.lst<|ys.map .int) n rs (T.set i ys):=
 ⟨by rw[nk<|show r≠n from λz=>(bX.mp h.nd).1<|by rw[<- z];exact a_ hi];exact h.top,h.rows.set (bX.mp h.nd).2 hi,h.nd⟩
def Tab.push{S:jU}{n:Nat}{ys:ag}(h:Tab S n rs T):Tab ((S++[O.lst<|ys.map .int]).set n<|.lst<|(rs++[S.length]).map .ref) n (rs++[S.length]) (T++[ys]):=by
 have hn:n<S.length:=h.lt n<|aL ..;have f:∀r∈rs,n≠r:=λr d z=>(bX.mp h.nd).1<|z ▸ d;refine⟨pB<|by rw[aX];simp;lia,Rows.app (h.rows.mono λr d xs e=>?_) ⟨?_,trivial⟩,?_⟩
 ·rw[nk<|f r d];exact lA e
 ·rw[nk ()];exact j9
 ·rw[bX,cy];refine⟨λz=>?_,(bX.mp h.nd).2,by simp,λa ha b hb z=>?_⟩
  ·rcases bG.mp z with z|z
   ·exact f n z rfl
   ·have:n=S.length:=by simpa using z
    lia
  ·have g:b=S.length:=by simpa using hb
   have:=h.rows.lt a ha
   lia
def Tab.nil{n:Nat}(h:jS S n=some []):Tab S n [] []:=⟨h,trivial,by simp⟩
def eq_nil{a:Nat}{xs:ae}(h:jS S a=some xs)(h':jS S b=some []):yg S 12 (.ref a) (.ref b)=some xs.isEmpty:=by
 show(jS S a).bind (λxs=>(jS S b).bind λys=>tV (yg S 11) xs ys)=_;rw[h,dw,h',dw]
 cases xs<;>rfl
def OM{a:A}{k:Bool}(h:yg S 12 a b=some k):wo false a b S=.ok (.bl k) S:=by unfold wo;rw[h];rfl
def YD{a:A}{k:Bool}(h:yg S 12 a b=some k):wo true a b S=.ok (.bl<|!k) S:=by unfold wo;rw[h];rfl
def N2{xs:ae}{n:Nat}{src:Ic}{t:Te}{e:Ex}{S:jU}(hs:src τ S=.ok (lU n xs.length) S)(hx:jS S n=some xs)(p:A->Bool)(f:A->A)
  (ht:∀x∈xs,t (x::lG cap τ) S=.ok (p x) S) (he:∀x∈xs,p x=true->e (x::lG cap τ) S=.ok (f x) S) (hl:xs.length<=16777216) :
  kI (none::cap) src (kB 0) t e τ S=.ok (.ref S.length) (S++[.lst<|(xs.filter p).map f]):=by
 have g:∀i,i<xs.length->xs.getD i .unb∈xs:=λi d=>by
  rw[aK,aI d];exact di d
 rw[yp hs (λi=>xs.getD i .unb) (λi=>p<|xs.getD i .unb) (λi=>f<|xs.getD i .unb) (λi d=>by
  have d:i<xs.length:=d;show(jS S n).bind _=_;rw[hx,dw,aK,aI d];rfl) (by
   show(match jS S n with
    | some ys=>decide (ys.length<=xs.length)
    | none=>false)=true
   rw[hx];simp) (λi d=>ht _<|g i d) (λi d=>he _<|g i d) hl]
 have:=nS xs p f .unb;show R.ok _ (S++[O.lst<|((List.range xs.length).filter _).map _])=_;rw[this]
def getD_at{r:ag}{k:Nat}(h:k<r.length):r[k]?=some (r.getD k 0):=by rw[aK,aI h];rfl
def M_{r:ag}{i:Int}{k:Nat}(h:i=k)(hk:k<r.length):uY (r.map A.int) i=some (.int<|r.getD k 0):=Eh h<|getD_at hk
end Am
namespace Am
open PySem L2 Po
def PR(l:Pl):(pl l).length=l.length:=aG ..
def Mb{xs:ae}{n:Nat}{src:Ic}{t:Te}{e:Ex}{S1:jU}(hs:src τ S=.ok (lU n xs.length) S1)(hx:jS S1 n=some xs)(p:A->Bool)(f:A->A)
  (ht:∀x∈xs,t (x::lG cap τ) S1=.ok (p x) S1) (he:∀x∈xs,p x=true->e (x::lG cap τ) S1=.ok (f x) S1) (hl:xs.length<=16777216) :
  kI (none::cap) src (kB 0) t e τ S=.ok (.ref S1.length) (S1++[.lst<|(xs.filter p).map f]):=by
 have:=N2 (S:=S1) (src:=λ_ _=>.ok (lU n xs.length) S1) (τ:=τ) rfl hx p f ht he hl;unfold kI at this ⊢;rw[hs];exact this
def Hz{S:jU}{d:List<|Int×A}:mY (S++[.qQ d]) S.length=some d:=C9 CG
def XH{o:O}{n:Nat}{d:List<|Int×A}(h:mY S n=some d):mY (S++[o]) n=some d:=by
 have h':=rj h;exact C9<|by rw[bB (aJ.mp h').1];exact h'
def Wl{S:jU}{n:Nat}{d:List<|Int×A}(h:mY S n=some d):n<S.length:=(aJ.mp<|rj h).1
def Ni{S:jU}{n:Nat}{d:List<|Int×A}(h:n<S.length):mY (S.set n<|.qQ d) n=some d:=C9<|bE h
def IK{n:Nat}{d:List<|Int×A}(h:mY S n=some d)(h':jS S m=some xs):n≠m:=λz=>by
 subst z;have e1:=rj h;rw[j_ h']at e1
 cases e1
def DC{f:A->ae->jU->R A}{co:Ex}{d:sW}:G2 f co d τ S=(co τ S).bind λx S1=>opt (dk? x S1) λ_=>(d τ S1).bind λas S2=>f x as S2:=rfl
def G0{n:Nat}:dk? (.ref n) S=(mY S n).map λ_=>Unit.unit:=rfl
def Bm{n:Nat}{k:Int}:xG (.ref n) [.int k,y] S=opt (mY S n) λkvs=>.ok ((oz kvs k).getD y) S:=rfl
def Im{co ci:Ex}{a:A}:LX co ci a τ S=(co τ S).bind λo S1=>(ci τ S1).bind λi S2=>(B3 o i a S2).bind λ_ S3=>.ok τ S3:=rfl
def FP{n:Nat}{k:Int}{v:A}{S:jU}:B3 (.ref n) (.int k) v S=opt (mY S n) λkvs=>gd (kvs.length<sizeLine) (.ok Unit.unit<|S.set n<|.qQ<|yh kvs k v):=rfl
def KZ{n:Nat}{k:Int}:zZ (.ref n) (.int k) S=opt (mY S n) λkvs=>opt (oz kvs k) λv=>.ok v S:=rfl
def Mv{S:jU}:GK τ S=.ok (.ref S.length) (S++[.qQ []]):=rfl
def B7{n:Nat}{S:jU}:DR (.ref n) S=opt (jS S n) λxs=>opt (S_ xs) λps=>.ok (.ref S.length) (S++[.qQ<|U3 ps]):=rfl
def acS{i j:Int}(h:i.natAbs<big)(h':j.natAbs<big):HY (.int i) (.int j) S=.ok (.int<|i * j) S:=o6 ⟨h,h'⟩
def Pr(d:Pl):(iv d).length=d.length:=aG ..
meta abbrev Ye:Sm:=kM (j4 nV (G2 xG (jQ 2)<|jR (jQ 3)<|jR (eC<|.int 0)<|jW)<|jQ 4)<|LX (jQ 2)<|jQ 3
def acc_step{S:jU}{d:Nat}{D:Pl}{k v:Int}(hd:mY S d=some (iv D))(hl:D.length<16777216):Ye [x0,x1,.ref d,.int k,.int v] S=.nx [x0,x1,.ref d,.int k,.int v] (S.set d<|.qQ<|iv<|acc D k v):=by
 unfold Ye;dsimp[kC,bools,DC,G0,hd,fY,Bm,HB,Im,FP,pJ<|show(iv D).length<16777216 by rw[Pr];exact hl,Hw];rfl
meta abbrev Sj:Tg:=Bs 2<|tP (kB 3)<|tP (kB 4) Br
def U8{d n:Nat}{D l:Pl}{src:Ic}(hs:src [x0,x1,.ref d,x3,x4] S=.ok (lU n (pl l).length) S1)(hn:jS S1 n=some (pl l))(hd:mY S1 d=some (iv D))(hl:D.length+l.length<16777216) :
  ∃y3 y4 S',mC src Sj Ye [x0,x1,.ref d,x3,x4] S=.nx [x0,x1,.ref d,y3,y4] S'/\mY S' d=some (iv<|sG D l)/\Kp (·=d) S1 S':=by
 have nd:=IK hd hn;refine nK (n:=n) (xs:=pl l) hs (λi τ T=>(∃y3 y4,τ=[x0,x1,.ref d,y3,y4])/\mY T d=some (iv<|sG D<|l.take i)/\Kp (·=d) S1 T)
  (λr=>∃y3 y4 S',r=.nx [x0,x1,.ref d,y3,y4] S'/\mY S' d=some (iv<|sG D l)/\Kp (·=d) S1 S') ⟨⟨_,_,rfl⟩,hd,Kp.refl⟩ (λi τ T h=>h.2.2.lst _ _ (cR nd) hn) ?_ ?_
 ·rintro i z τ T j ⟨⟨y3,y4,rfl⟩,f,kp⟩;unfold pl at j;rw[aO]at j;obtain⟨p,k,rfl⟩:=aW.mp j;refine⟨[x0,x1,.ref d,.int p.1,.int p.2],T,rfl,.inl ?_⟩;have g:=vf (l.take i) D;have q:=(aJ.mp k).1;rw[bY]at g;refine⟨_,_,acc_step f<|by omega,⟨_,_,rfl⟩,?_,kp.pT<|.inl rfl⟩;rw[Ni<|Wl f,bN,k,AZ];rfl
 ·rintro τ T ⟨⟨y3,y4,rfl⟩,f,kp⟩;rw[PR,bT]at f;exact⟨y3,y4,T,rfl,f,kp⟩
meta abbrev Ur:Sm:=kM (j4 nV (G2 xG (jQ 2)<|jR (j4 nV (jQ 3)<|jQ 5)<|jR (eC<|.int 0)<|jW)<|j4 HY (jQ 4)<|jQ 6)<|LX (jQ 2)<|j4 nV (jQ 3)<|jQ 5
meta abbrev g56:Tg:=Bs 2<|tP (kB 5)<|tP (kB 6) Br
def Qt{S:jU}{d:Nat}{D:Pl}{k v j u:Int}(hd:mY S d=some (iv D))(hl:D.length<16777216)(hv:v.natAbs<big)(hu:u.natAbs<big):Ur [x0,x1,.ref d,.int k,.int v,.int j,.int u] S=.nx [x0,x1,.ref d,.int k,.int v,.int j,.int u] (S.set d<|.qQ<|iv<|acc D (k+j)<|v * u):=by
 unfold Ur;dsimp[kC,bools,DC,G0,hd,fY,Bm,HB,acS hv hu,Im,FP,pJ<|show(iv D).length<16777216 by rw[Pr];exact hl,Hw];rfl
def UR{d n:Nat}{D l:Pl}{k v:Int}(hn:jS S n=some (pl l))(hd:mY S d=some (iv D))(hl:D.length+l.length<16777216)(hv:v.natAbs<big)(hu:∀p∈l,p.2.natAbs<big) :
  ∃y5 y6 S',mC (kY<|jQ 1) g56 Ur [x0,.ref n,.ref d,.int k,.int v,x5,x6] S=.nx [x0,.ref n,.ref d,.int k,.int v,y5,y6] S'/\mY S' d=some (iv<|sG D<|l.map λq=>(k+q.1,v * q.2))/\Kp (·=d) S S':=by
 have nd:=IK hd hn;refine nK (n:=n) (xs:=pl l) (S1:=S) (lN (by dsimp[kC,bools]) hn) (λi τ T=>(∃y5 y6,τ=[x0,.ref n,.ref d,.int k,.int v,y5,y6])/\mY T d=some (iv<|sG D<|(l.take i).map λq=>(k+q.1,v * q.2))/\Kp (·=d) S T)
  (λr=>∃y5 y6 S',r=.nx [x0,.ref n,.ref d,.int k,.int v,y5,y6] S'/\mY S' d=some (iv<|sG D<|l.map λq=>(k+q.1,v * q.2))/\Kp (·=d) S S') ⟨⟨_,_,rfl⟩,hd,Kp.refl⟩ (λi τ T h=>h.2.2.lst _ _ (cR nd) hn) ?_ ?_
 ·rintro i z τ T j ⟨⟨y5,y6,rfl⟩,g,kp⟩;unfold pl at j;rw[aO]at j;obtain⟨p,t,rfl⟩:=aW.mp j;refine⟨[x0,.ref n,.ref d,.int k,.int v,.int p.1,.int p.2],T,rfl,.inl ?_⟩;have f:=vf ((l.take i).map λq=>(k+q.1,v * q.2)) D;have B:=(aJ.mp t).1;rw[aG,bY]at f;refine⟨_,_,Qt g (by omega) hv<|hu p<|a_ t,⟨_,_,rfl⟩,?_,kp.pT<|.inl rfl⟩;rw[Ni<|Wl g,bN,t,bu,AZ];rfl
 ·rintro τ T ⟨⟨y5,y6,rfl⟩,g,kp⟩;rw[PR,bT]at g;exact⟨y5,y6,T,rfl,g,kp⟩
meta abbrev Xa:Sm:=mC (kY<|jQ 1) g56 Ur
def G7(f:Int×Int->A)(hf:∀p τ S,Sj (f p) τ S=Sj (pA p) τ S){d n:Nat}{a b:Pl}(hn:jS S n=some (a.map f))(hm:jS S m=some (pl b))(hd:mY S d=some [])(hl:a.length * b.length<16777216)(ha:∀p∈a,p.2.natAbs<big)(hb:∀p∈b,p.2.natAbs<big) :
  ∃y3 y4 y5 y6 S',mC (kY<|jQ 0) Sj Xa [.ref n,.ref m,.ref d,x3,x4,x5,x6] S=.nx [.ref n,.ref m,.ref d,y3,y4,y5,y6] S'/\mY S' d=some (iv<|sG []<|Ka a b)/\Kp (·=d) S S':=by
 have nd:=IK hd hn;have J:=IK hd hm;refine nK (n:=n) (xs:=a.map f) (S1:=S) (lN (by dsimp[kC,bools]) hn) (λi τ T=>(∃y3 y4 y5 y6,τ=[.ref n,.ref m,.ref d,y3,y4,y5,y6])/\mY T d=some (iv<|sG []<|Ka (a.take i) b)/\Kp (·=d) S T)
  (λr=>∃y3 y4 y5 y6 S',r=.nx [.ref n,.ref m,.ref d,y3,y4,y5,y6] S'/\mY S' d=some (iv<|sG []<|Ka a b)/\Kp (·=d) S S') ⟨⟨_,_,_,_,rfl⟩,hd,Kp.refl⟩ (λi τ T h=>h.2.2.lst _ _ (cR nd) hn) ?_ ?_
 ·rintro i z τ T C ⟨⟨y3,y4,y5,y6,rfl⟩,j,kp⟩;rw[aO]at C;obtain⟨p,B,rfl⟩:=aW.mp C;refine⟨[.ref n,.ref m,.ref d,.int p.1,.int p.2,y5,y6],T,hf _ _ _,.inl ?_⟩;have g:=vf (Ka (a.take i) b) [];have F:=(aJ.mp B).1;rw[Jl,bY,Nat.min_eq_left<|dZ F,ez,cC]at g;have G:i * b.length+b.length<=a.length * b.length:=by rw[<- jd];exact iZ _ F
  obtain⟨K,L,M,e,t,q⟩:=UR (x0:=.ref n) (x5:=y5) (x6:=y6) (k:=p.1) (v:=p.2) (kp.lst _ _ (cR J) hm) j () (ha p<|a_ B) hb;refine⟨_,_,e,⟨_,_,_,_,rfl⟩,?_,kp.trans q⟩;rw[t,bN,B,Option.toList_some,O7,AZ]
 ·rintro τ T ⟨⟨y3,y4,y5,y6,rfl⟩,j,kp⟩;rw[aG,bT]at j;exact⟨y3,y4,y5,y6,T,rfl,j,kp⟩
end Am
namespace Su
open Am Po PySem L2
meta abbrev En:=ag×Nat×Pl
meta abbrev Es:=List En
abbrev ent (e:En):A:=.tup [.tup<|e.1.map .int,.ref e.2.1]
abbrev kv (e:En):ag×A:=(e.1,.ref e.2.1)
abbrev At (S:jU)(es:Es):Prop:=∀e∈es,jS S e.2.1=some (pl e.2.2)
meta abbrev Ps:=List<|ag×Pl
abbrev sm (es:Es):Ps:=es.map λe=>(e.1,e.2.2)
def Bj(es:Es):(sm es).length=es.length:=aG ..
def GA(a b:Es):sm (a++b)=sm a++sm b:=bu
abbrev vS (D:Ps)(o:ag):Pl:=((D.find? λe=>decide<|e.1=o).map (·.2)).getD []
abbrev hS (D:Ps)(o:ag):Bool:=D.any λe=>decide<|e.1=o
abbrev A4 (D:Ps)(o:ag)(p:Pl):Ps:=if hS D o=true then D.map (λe=>if e.1=o then(e.1,p)else e)else D++[(o,p)]
abbrev Aa (D:Ps)(o:ag)(p:Pl):Ps:=A4 D o<|rH (vS D o) p
abbrev adds (D l:Ps):Ps:=l.foldl (λD e=>Aa D e.1 e.2) D
def Ri(D a b:Ps):adds D (a++b)=adds (adds D a) b:=by unfold adds;rw[dU]
abbrev toS (D:Ps):Ps:=((kR<|D.map Prod.fst).filter λo=>!(vS D o).isEmpty).map λo=>(o,vS D o)
abbrev fE (D:Es)(o:ag):Option En:=D.find? λe=>decide<|e.1=o
abbrev sH (D:Es)(o:ag)(r:Nat)(p:Pl):Es:=if (fE D o).isSome=true then D.map (λe=>if e.1=o then(e.1,r,p)else e)else D++[(o,r,p)]
def Sy(D:Es)(o:ag):(sm D).find? (λe=>decide<|e.1=o)=(fE D o).map λe=>(e.1,e.2.2):=by
 unfold sm fE;rw[fK];rfl
def My(D:Es)(o:ag):vS (sm D) o=((fE D o).map λe=>e.2.2).getD []:=by
 unfold vS;rw[Sy,dJ];rfl
def abS(D:Es)(o:ag):hS (sm D) o=(fE D o).isSome:=by
 unfold hS sm fE;rw[any_map,Bool.eq_iff_iff,jt,gC];rfl
def Qk(D:Es)(o:ag)(r:Nat)(p:Pl):sm (sH D o r p)=A4 (sm D) o p:=by
 unfold sH A4;rw[abS];unfold sm;split
 ·rw[bg,bg];apply bW;intro e _;show((if e.1=o then(e.1,r,p)else e).1,(if e.1=o then(e.1,r,p)else e).2.2)=if e.1=o then(e.1,p)else(e.1,e.2.2)
  split<;>rfl
 ·rw[bu];rfl
def wc(D:Es)(o:ag):kW (D.map kv) o=(fE D o).map λe=>.ref e.2.1:=by
 unfold kW fE;rw[fK,dJ];rfl
def QW(D:Es)(o:ag)(r:Nat)(p:Pl):putD (D.map kv) o (.ref r)=(sH D o r p).map kv:=by
 unfold putD sH;rw[wc,dG];split
 ·rw[bg,bg];apply bW;intro e _;show(if e.1=o then(e.1,A.ref r)else(e.1,.ref e.2.1))=kv (if e.1=o then(e.1,r,p)else e);split<;>rfl
 ·rw[bu];rfl
def uP{D:Es}{r:Nat}{p:Pl}{e:En}(h:e∈sH D o r p):e∈D\/e=(o,r,p):=by
 unfold sH at h;split at h
 ·obtain⟨d,h1,rfl⟩:=aY.mp h;split
  ·rename_i c;exact .inr (by rw[c])
  ·exact .inl h1
 ·rcases bG.mp h with z|z
  ·exact .inl z
  ·exact .inr<|aP.mp z
def KO{D:Es}{r:Nat}{p:Pl}:(sH D o r p).length<=D.length+1:=by
 unfold sH;split
 ·rw[aG];lia
 ·rw[aX];exact aM _
def uI{D:Es}{e:En}(h:fE D o=some e):e∈D/\e.1=o:=⟨cI h,by
 unfold fE at h;have:=fZ h;simpa using this⟩
def At.put{D:Es}{r:Nat}{p:Pl}(h:At S D)(hr:jS S r=some (pl p)):At S (sH D o r p):=λe d=>by
 rcases uP d with z|z
 ·exact h e z
 ·rw[z];exact hr
def At.kp{D:Es}{b:Nat->Prop}(h:At S D)(k:Kp b S S')(hb:∀e∈D,¬b e.2.1):At S' D:=λe d=>k.lst _ _ (hb e d)<|h e d
def At.wm{D:Es}(h:At S D)(k:kZ S S'):At S' D:=h.kp k λ_ _ z=>z
def At.app{a:Es}(h:At S a)(h':At S b):At S (a++b):=λe d=>(bG.mp d).elim (h e)<|h' e
def mW{n:Nat}{d:List<|ag×A}(h:kc S n=some d)(h':jS S m=some xs):n≠m:=λz=>by
 subst z;have e1:=mh h;rw[j_ h']at e1
 cases e1
def At.Ms{D:Es}{d:Nat}(h:At S D)(k:Kp (·=d) S S')(hd:kc S d=some kvs):At S' D:=h.kp k λe f z=>mW hd (h e f) z.symm
abbrev Vl (k b:Nat)(D:Es):Prop:=∀e∈D,Ok e.2.2/\e.2.2.length<=k/\b<=e.2.1
def Vl.v{k:Nat}{D:Es}(h:Vl k b D)(o:ag):Ok (vS (sm D) o)/\(vS (sm D) o).length<=k:=by
 rw[My]
 cases e:fE D o with
 | none=>exact⟨⟨List.Pairwise.nil,nofun⟩,bK _⟩
 | some d=>exact⟨(h d (uI e).1).1,(h d (uI e).1).2.1⟩
def nX{S:jU}:kc (S++[.dct xs]) S.length=some xs:=qo CG
def C5{o:O}{n:Nat}(h:kc S n=some xs):kc (S++[o]) n=some xs:=by
 have h':=mh h;exact qo<|by rw[bB (aJ.mp h').1];exact h'
def sC{S:jU}{n:Nat}(h:kc S n=some xs):n<S.length:=(aJ.mp<|mh h).1
def DK{S:jU}{n:Nat}(h:n<S.length):kc (S.set n<|.dct ys) n=some ys:=qo<|bE h
def JK{f:A->ae->jU->R A}{co:Ex}{d:sW}:UA f co d τ S=(co τ S).bind λx S1=>opt (dct? x S1) λ_=>(d τ S1).bind λas S2=>f x as S2:=rfl
def KH{n:Nat}:dct? (.ref n) S=(kc S n).map λ_=>Unit.unit:=rfl
def xK{S:jU}:ze τ S=.ok (.ref S.length) (S++[.dct []]):=rfl
def xW{co ci:Ex}{a:A}:HH co ci a τ S=(co τ S).bind λo S1=>(ci τ S1).bind λi S2=>(n9 o i a S2).bind λ_ S3=>.ok τ S3:=rfl
def Jc{n:Nat}{o:ag}:RL (.ref n) [.tup<|o.map .int,y] S=opt (kc S n) λkvs=>.ok ((kW kvs o).getD y) S:=by
 show opt (kc S n) (λkvs=>opt (A.ints<|o.map .int) λk=>.ok ((kW kvs k).getD y) S)=_;rw[ints_map];rfl
def rK{n:Nat}{o:ag}{v:A}{S:jU}:n9 (.ref n) (.tup<|o.map .int) v S=opt (kc S n) λkvs=>gd (kvs.length<sizeLine) (.ok Unit.unit<|S.set n<|.dct<|putD kvs o v):=by
 show opt (kc S n) (λkvs=>opt (A.ints<|o.map .int) λns=>gd (kvs.length<sizeLine)<|.ok Unit.unit<|S.set n<|.dct<|putD kvs ns v)=_;rw[ints_map];rfl
def zF{n:Nat}{o:ag}:sS (.ref n) (.tup<|o.map .int) S=opt (kc S n) λkvs=>opt (kW kvs o) λv=>.ok v S:=by
 show opt (kc S n) (λkvs=>opt (A.ints<|o.map .int) λns=>opt (kW kvs ns) λv=>.ok v S)=_;rw[ints_map];rfl
def get_or{S:jU}{d:Nat}{D:Es}(hd:kc S d=some (D.map kv))(hA:At S D):∃x:Nat,(kW (D.map kv) o).getD (.ref S.length)=.ref x/\jS (S++[.lst []]) x=some (pl<|vS (sm D) o):=by
 rw[wc,My]
 cases e:fE D o with
 | none=>exact⟨S.length,rfl,j9⟩
 | some f=>exact⟨f.2.1,rfl,lA<|hA f (uI e).1⟩
def zO{α:Type}{xs:List α}(g:α->A){n:Nat}{src:Ic}{t:Te}{e:Ex}(hs:src τ S=.ok (lU n (xs.map g).length) S1)(hx:jS S1 n=some (xs.map g))(d:α)(p:α->Bool)(f:α->A)
  (step:∀x∈xs,∀T,kZ S1 T->∃T1,t (g x::lG cap τ) T=.ok (p x) T1/\kZ S1 T1/\(p x=true->∃T2,e (g x::lG cap τ) T1=.ok (f x) T2/\kZ S1 T2)) (hl:xs.length<=16777216) :
  ∃S',kI (none::cap) src (kB 0) t e τ S=.ok (.ref S'.length) (S'++[.lst<|(xs.filter p).map f])/\kZ S1 S':=by
 have q:∀i,i<xs.length->xs.getD i d∈xs:=λi j=>by
  rw[aK,aI j];exact di j
 have B:(xs.map g).length=xs.length:=aG ..;obtain⟨S',h1,h2⟩:=ya (s:=lU n (xs.map g).length) (g:=kB 0) (t:=t) (e:=e) (P:=λT=>kZ S1 T) (T:=λk=>∃y,k=y::lG cap τ) (λi=>g<|xs.getD i d) (λi=>p<|xs.getD i d) (λi=>f<|xs.getD i d) (λi T j h=>by
   have j:i<(xs.map g).length:=j;show(jS T n).bind _=_;rw[h.lst _ _ (λz=>z) hx,dw,aO,aI (),aK,aI ()];rfl) (λT h=>by
   show(match jS T n with
    | some ys=>decide (ys.length<=(xs.map g).length)
    | none=>false)=true
   rw[h.lst _ _ (λz=>z) hx];simp)
  (λi k T j ⟨y,hy⟩ h=>by
   have j:i<(xs.map g).length:=j;subst hy;obtain⟨T1,e1,C,e2⟩:=step _ (q i ()) T h;exact⟨g (xs.getD i d)::lG cap τ,T,T1,rfl,e1,⟨_,rfl⟩,λ_=>C,e2⟩) (xs.map g).length 0 (lG (none::cap) τ) S1 rfl ⟨_,rfl⟩ Kp.refl
 refine⟨S',?_,h2⟩;unfold kI;rw[hs,R.m9];show(mX (lU n (xs.map g).length) (kB 0) t e (xs.map g).length 0 (lG (none::cap) τ) S1).nJ _=_;rw[h1,R.kK,<- gh,B,nS xs p f d];refine mR ?_;rw[aG];exact bJ (c9 _ _) hl
def IQ{D:Es}{o:ag}(h:o∈D.map Prod.fst):∃e,fE D o=some e:=by
 unfold fE
 cases e:D.find? λe=>decide (e.1=o)with
 | some x=>exact⟨x,rfl⟩
 | none=>
  obtain⟨x,d,rfl⟩:=aY.mp h;exact absurd (bf rfl)<|fS.mp e x d
abbrev BE (k:ag):A:=.tup<|k.map .int
abbrev wO (D:Es)(p:Pl->Bool):Es:=((kR<|D.map Prod.fst).filter λo=>p<|vS (sm D) o).map λo=>(o,((fE D o).map λe=>e.2.1).getD 0,vS (sm D) o)
def C1(D:Es):sm (wO D λp=>!p.isEmpty)=toS (sm D):=by
 unfold wO toS sm;rw[bg,bg];rfl
def D5{D:Es}{p:Pl->Bool}{e:En}(h:e∈wO D p):e∈D/\p e.2.2=true:=by
 obtain⟨o,f,rfl⟩:=aY.mp h;obtain⟨h1,h2⟩:=cA.mp f;obtain⟨e,d⟩:=IQ<|(kN _).mem_iff.mp h1;rw[My,d]at h2;rw[My,d];obtain⟨m,rfl⟩:=uI d;exact⟨m,h2⟩
def Py{S:jU}{d:Nat}{D:Es}{src:Ic}{t:Te}{e:Ex}(hd:kc S d=some (D.map kv))(hA:At S D)(hs:src τ S=.ok (lU S.length ((kR<|D.map Prod.fst).map BE).length) (S++[.lst<|(kR<|D.map Prod.fst).map BE]))(p:Pl->Bool)
  (ht:∀(o:ag) (r:Nat) (q:Pl) (T:jU),kc T d=some (D.map kv)->kW (D.map kv) o=some (.ref r)->jS T r=some (pl q)->∃T1,t (BE o::lG cap τ) T=.ok (p q) T1/\kZ T T1)
  (he:∀(o:ag) (r:Nat) (T:jU),kc T d=some (D.map kv)->kW (D.map kv) o=some (.ref r)->e (BE o::lG cap τ) T=.ok (.tup [BE o,.ref r]) T) (hl:D.length<=16777216) :
  ∃(n:Nat) (S':jU),kI (none::cap) src (kB 0) t e τ S=.ok (.ref n) S'/\jS S' n=some ((wO D p).map ent)/\At S' (wO D p)/\S.length<n/\kZ S S':=by
 have B:kZ S (S++[.lst<|(kR<|D.map Prod.fst).map BE]):=Kp.refl.lay;obtain⟨S',e1,F⟩:=zO BE (t:=t) (e:=e) (cap:=cap) hs j9 [] (λo=>p<|vS (sm D) o) (λo=>ent (o,((fE D o).map λe=>e.2.1).getD 0,vS (sm D) o)) (λo J T k=>by
  obtain⟨g,f⟩:=IQ<|(kN _).mem_iff.mp J;have C:kW (D.map kv) o=some (.ref g.2.1):=by rw[wc,f];rfl
  have j:=B.trans k;have dT:=j.dct _ _ (λz=>z) hd;have K:=j.lst _ _ (λz=>z)<|hA g (uI f).1;obtain⟨T1,h1,h2⟩:=ht o g.2.1 g.2.2 T dT C K;rw[My,f];exact⟨T1,h1,k.trans h2,λ_=>⟨T1,he o g.2.1 T1 (h2.dct _ _ (λz=>z) dT) C,k.trans h2⟩⟩) (by
  rw[(kN _).length_eq,aG];exact hl)
 have G:=B.trans F;refine⟨S'.length,_,e1,?_,(?_:At S'<|wO D p).wm Kp.refl.lay,?_,G.lay⟩
 ·rw[j9];unfold wO;rw[bg];rfl
 ·exact λe h=>G.lst _ _ (λz=>z) (hA e (D5 h).1)
 ·have:=F.len;rw[aX]at this;exact this
abbrev Ap (D:Es):Prop:=D.Pairwise λe f=>e.1≠f.1/\e.2.1≠f.2.1
def Ap.put{D:Es}{r:Nat}{p:Pl}(h:Ap D)(hr:∀e∈D,e.2.1≠r):Ap (sH D o r p):=by
 unfold sH;split
 ·unfold Ap;rw[cL];refine List.Pairwise.imp_of_mem (λ{e f} d hf z=>?_) h;by_cases c1:e.1=o
  ·have c2:¬f.1=o:=λg=>z.1<|c1.trans g.symm;rw[aV c1,aR c2];exact⟨z.1,λy=>hr f hf y.symm⟩
  ·rw[aR c1];by_cases c2:f.1=o
   ·rw[aV c2];exact⟨z.1,hr e d⟩
   ·rw[aR c2];exact z
 ·rename_i c;unfold Ap;rw[List.pairwise_append];refine⟨h,cP _ _,λe d f hf=>?_⟩;rw[aP.mp hf];refine⟨λz=>c ?_,hr e d⟩;unfold fE;rw[jt];exact⟨e,d,bf z⟩
theorem Ap.at{D:Es}(h:Ap D):∀e∈D,∀f∈D,e.1≠f.1->e.2.1≠f.2.1:=by
 unfold Ap at h
 induction h with
 | nil=>exact λe d=>nomatch d
 | @cons a D ha _ g=>
  intro e d f hf z
  rcases bH.mp d with h1|h1<;>rcases bH.mp hf with h2|h2
  ·exact absurd (by rw[h1,h2]) z
  ·rw[h1];exact(ha f h2).2
  ·rw[h2];exact(ha e h1).2.symm
  ·exact g e h1 f h2 z
def Ap.nd{D:Es}(h:Ap D):(D.map Prod.fst).Nodup:=by
 unfold List.Nodup;rw[cL];exact h.imp λz=>z.1
def Ap.out{D:Es}(h:Ap D)(p:Pl->Bool):Ap (wO D p):=by
 unfold Ap wO;rw[cL];have n:(kR<|D.map Prod.fst).Pairwise (·≠·):=(kN _).nodup_iff.mpr h.nd;refine List.Pairwise.imp_of_mem (λ{a b} ha hb z=>?_)<|n.filter _;obtain⟨e,d⟩:=IQ<|(kN _).mem_iff.mp (cA.mp ha).1;obtain⟨f,hf⟩:=IQ<|(kN _).mem_iff.mp (cA.mp hb).1;obtain⟨g,e1⟩:=uI d;obtain⟨j,e2⟩:=uI hf;refine⟨z,?_⟩;rw[d,hf];exact h.at e g f j<|by rw[e1,e2];exact z
structure Fil (T:jU)(d b i j:Nat)(P:Ps)(D:Es):Prop where
 dd:kc T d=some (D.map kv)
 aa:At T D
 ss:sm D=P
 vv:Vl (i * j) b D
 kk:∀e∈D,e.1≠[]
 ll:D.length<=i
 pw:Ap D
def LD(P:Ps)(es:Es):es.foldl (λQ e=>Aa Q e.1 e.2.2) P=adds P (sm es):=by
 unfold adds sm;rw[jN]
def Mp(q:Pl)(P:Ps)(es:Es):es.foldl (λQ e=>Aa Q e.1<|times q e.2.2) P=adds P ((sm es).map λe=>(e.1,times q e.2)):=by
 unfold adds sm;rw[jN,jN]
end Su
namespace Bl
open L2
abbrev cnt:ag->Int->Int
 | [],_=>0
 | x::l,j=>(if j<=x then 1 else 0)+cnt l j
abbrev Below (xs ys:ag):Prop:=∀(i:Nat) (j:Int),cnt (xs.take i) j<=cnt (ys.take i) j
def cnt_append(a b:ag)(j:Int):cnt (a++b) j=cnt a j+cnt b j:=by
 induction a with
 | nil=>simp[cnt]
 | cons x a d=>rw[iP,cnt,cnt,d];lia
def take_snoc{l:ag}{i:Nat}(h:i<l.length):l.take (i+1)=l.take i++[l[i]]:=by
 rw[List.take_succ,aI h];rfl
def abt{l:ag}{i:Nat}(h:i<l.length)(j:Int):cnt (l.take<|i+1) j=cnt (l.take i) j+(if j<=l[i]then 1 else 0):=by
 rw[take_snoc h,cnt_append,cnt,cnt];lia
def zS{l:ag}{p:Nat}(h:p<l.length)(v:Int)(i:Nat)(j:Int) :
  cnt ((l.set p v).take i) j=cnt (l.take i) j+(if p<i then(if j<=v then 1 else 0)-(if j<=l[p]then 1 else 0)else 0):=by
 induction l generalizing p i with
 | nil=>cases h
 | cons x l f=>
  cases i with
  | zero=>simp[cnt]
  | succ i=>
   cases p with
   | zero=>
    show(if j<=v then 1 else 0)+cnt (l.take i) j=(if j<=x then 1 else 0)+cnt (l.take i) j+_;rw[aV<|succ_pos _];show _=(if j<=x then 1 else 0)+cnt (l.take i) j+((if j<=v then 1 else 0)-(if j<=x then 1 else 0))
    lia
   | succ p=>
    show(if j<=x then 1 else 0)+cnt ((l.set p v).take i) j=(if j<=x then 1 else 0)+cnt (l.take i) j+_;have d:p<l.length:=Nat.lt_of_succ_lt_succ h;rw[f d];by_cases z:p<i
    ·rw[aV z,aV<|Nat.succ_lt_succ z];show _=(if j<=x then 1 else 0)+cnt (l.take i) j+((if j<=v then 1 else 0)-(if j<=l[p]then 1 else 0))
     lia
    ·rw[aR z,aR λy=>z<|Nat.lt_of_succ_lt_succ y]
     lia
def EA{l:ag}{p q:Nat}(hp:p<l.length)(hq:q<l.length)(hpq:p<q)(h:l[p]<l[q]):Below l ((l.set p l[q]).set q l[p]):=by
 intro i j;have d:q<(l.set p l[q]).length:=by rw[bU];exact hq
 rw[zS d,zS hp];have e:(l.set p l[q])[q]=l[q]:=by rw[List.getElem_set_ne<|bD hpq]
 rw[e]
 (repeat' split)<;>lia
abbrev Dm (a b:ag):Prop:=a.length=b.length/\∀(p:Nat) (h:p<a.length),b[(a[p]-1).toNat]?=some ((p:Int)+1)
end Bl
namespace Wd
open Bl L2
abbrev ex (l:ag)(k:Nat):ag:=(l.set (k-1)<|l.getD k 0).set k<|l.getD (k-1) 0
abbrev led (l:ag)(w:am):ag:=w.foldl ex l
def v_{l:ag}{k:Nat}(h:k<l.length):l.getD k 0=l[k]:=by rw[aK,aI h];rfl
def Ke{l:ag}{k:Nat}(h0:1<=k)(h:k<l.length):ex l k=(l.set (k-1) l[k]).set k (l[k-1]'()):=by
 unfold ex;rw[v_ h,v_<|show k-1<l.length by lia]
def Dz(l:ag)(k:Nat):(ex l k).length=l.length:=by unfold ex;rw[bU,bU]
def T9{l:ag}{k:Nat}(h0:1<=k)(h:k<l.length):(ex l k).Perm l:=by
 rw[Ke h0 h];exact List.set_set_perm () h
def abM(a b:am)(l:ag):led l (a++b)=led (led l a) b:=dU
def XQ{l:ag}{k:Nat}(h0:1<=k)(h:k<l.length)(i:Nat)(j:Int) :
  cnt ((ex l k).take i) j=cnt (l.take i) j+(if i=k then(if j<=l[k]then 1 else 0)-(if j<=l[k-1]'()then 1 else 0)else 0):=by
 rw[Ke h0 h];have d:k<(l.set (k-1) l[k]).length:=by rw[bU];exact h
 rw[zS d,zS<|show k-1<l.length by lia];have e:(l.set (k-1) l[k])[k]=l[k]:=by rw[List.getElem_set_ne ()]
 rw[e];by_cases h1:i=k
 ·rw[aV h1,aV<|show k-1<i by lia,aR<|show ¬k<i by lia];lia
 ·by_cases h2:k<i
  ·rw[aR h1,aV<|show k-1<i by lia,aV h2];lia
  ·rw[aR h1,aR<|show ¬k-1<i by lia,aR h2];lia
def up{l:ag}{k:Nat}(h0:1<=k)(h:k<l.length)(hr:l[k-1]'()<l[k]):Below l (ex l k):=by
 rw[Ke h0 h];exact EA () h () hr
abbrev yT:ag->am->Prop
 | _,[]=>True
 | l,k::w=>1<=k/\k<l.length/\l.getD (k-1) 0<l.getD k 0/\yT (ex l k) w
theorem yT.snoc:∀{w:am}{l:ag}{k:Nat},yT l w->1<=k->k<l.length->(led l w).getD (k-1) 0<(led l w).getD k 0->yT l (w++[k])
 | [],l,k,_,h0,h1,h2=>⟨h0,h1,h2,trivial⟩
 | m::w,l,k,h,h0,h1,h2=>⟨h.1,h.2.1,h.2.2.1,yT.snoc h.2.2.2 h0 (by rw[Dz];exact h1) h2⟩
abbrev sw (k:Nat)(x:Int):Int:=if x=k then(k:Int)+1 else if x=(k:Int)+1 then k else x
def Ti{n p:Nat}(h:p<n):(mJ 1<|(n:Int)+1)[p]?=some ((p:Int)+1):=by
 unfold mJ;rw[aO,eK ()];simp;lia
def mO(n:Nat):(mJ 1<|(n:Int)+1).length=n:=by rw[tU];lia
def xm{l:ag}{k:Nat}(h0:1<=k)(h:k<l.length)(p:Nat):(ex l k)[p]?=if p=k then l[k-1]? else if p=k-1 then l[k]? else l[p]?:=by
 rw[Ke h0 h,List.getElem?_set];by_cases h1:k=p
 ·rw[aV h1,aV h1.symm,aV<|by rw[bU];lia,aI]
 ·rw[aR h1,aR λz=>h1 z.symm,List.getElem?_set];by_cases h2:k-1=p
  ·rw[aV h2,aV h2.symm,aV (),aI]
  ·rw[aR h2,aR λz=>h2 z.symm]
end Wd
namespace Iv
open L2 Bl
abbrev inv:ag->Nat
 | []=>0
 | x::l=>l.countP (λy=>decide<|y<x)+inv l
abbrev pF (a b:ag):Nat:=(a.map λx=>b.countP λy=>decide<|y<x).sum
def wQ(x:Int)(a b:ag):pF (x::a) b=b.countP (λy=>decide<|y<x)+pF a b:=rfl
theorem ni:∀(a b:ag),inv (a++b)=inv a+inv b+pF a b
 | [],b=>by show inv b=0+inv b+0;lia
 | x::a,b=>by
  show(a++b).countP _+inv (a++b)=(a.countP _+inv a)+inv b+pF (x::a) b;rw[List.countP_append,ni a b,wQ];lia
theorem xy:∀{a b:am},a.Perm b->a.sum=b.sum
 | _,_,.nil=>rfl
 | _,_,.cons x h=>by rw[gK,gK,xy h]
 | _,_,.swap x y l=>by rw[gK,gK,gK,gK];lia
 | _,_,.trans h k=>(xy h).trans<|xy k
def Uv{a:ag}(b:ag)(h:a.Perm a'):pF a b=pF a' b:=xy<|h.map _
def Sw(a:ag){b:ag}(h:b.Perm b'):pF a b=pF a b':=by
 unfold pF;congr 1;refine bW λx _=>h.countP_eq _
def Cz{M:ag}{x y:Int}(h:∀m∈M,m<x\/y<m)(hxy:x<y):M.countP (λm=>decide<|m<x)=M.countP (λm=>decide<|m<y):=by
 refine List.countP_congr λm d=>?_;rw[decide_eq_true_iff,decide_eq_true_iff]
 rcases h m d with z|z<;>omega
theorem zd:∀{M:ag}{x y:Int},(∀m∈M,m<x\/y<m)->x<y->pF M [x]=pF M [y]
 | [],_,_,_,_=>rfl
 | m::M,x,y,h,hxy=>by
  rw[wQ,wQ,zd (λd f=>h d<|aQ _ f) hxy];congr 1;have:=h m<|aL ..;dsimp[jA,List.countP_nil];by_cases c:x<m
  ·rw[bf c,bf<|show y<m by omega]
  ·rw[bz c,bz<|show ¬y<m by omega]
def mid{M:ag}{x y:Int}(h:∀m∈M,m<x\/y<m)(hxy:x<y):inv ([y]++M++[x])=inv ([x]++M++[y])+1:=by
 rw[ni,ni,ni<|[x]++M,ni [x]];have e1:pF [y] M=pF [x] M:=by
  show M.countP _+0=M.countP _+0;rw[Cz h hxy]
 have e2:pF ([y]++M) [x]=1+pF M [x]:=by
  show[x].countP _+pF M [x]=_;rw[jA,bf hxy];rfl
 have e3:pF ([x]++M) [y]=pF M [y]:=by
  show[y].countP _+pF M [y]=_;rw[jA,bz (by lia:¬y<x)];simp
 rw[e1,e2,e3,zd h hxy]
 skip
 lia
def NG(M:ag)(x y:Int):([y]++M++[x]).Perm ([x]++M++[y]):=by
 refine(List.perm_append_comm (l₁:=[y]++M) (l₂:=[x])).trans ?_
 skip
 exact .cons x<|List.perm_append_comm (l₁:=[y]) (l₂:=M)
def step{P M R:ag}{x y:Int}(h:∀m∈M,m<x\/y<m)(hxy:x<y):inv (P++([y]++M++[x])++R)=inv (P++([x]++M++[y])++R)+1:=by
 have p:=NG M x y;rw[ni,ni P,ni<|P++([x]++M++[y]),ni P,mid h hxy,Sw P p,Uv R<|p.append_left P]
 lia
abbrev sw (a:ag)(i j:Nat):ag:=(a.set i<|a.getD j 0).set j<|a.getD i 0
def split{a:ag}(hij:i<j)(hj:j<a.length):∃P M R:ag,a=P++([a.getD i 0]++M++[a.getD j 0])++R/\P=a.take i/\(∀m∈M,∃k,i<k/\k<j/\a[k]?=some m)/\sw a i j=P++([a.getD j 0]++M++[a.getD i 0])++R:=by
 have J:a.getD i 0=a[i]:=by rw[aK,aI ()];rfl
 have G:a.getD j 0=a[j]:=by rw[aK,aI hj];rfl
 obtain⟨M,t⟩:∃M,M=(a.drop<|i+1).take (j-i-1):=⟨_,rfl⟩;have F:M.length=j-i-1:=by rw[t,bY,List.length_drop];lia
 have z:a=a.take i++([a.getD i 0]++M++[a.getD j 0])++a.drop (j+1):=by
  have h1:a.drop i=a[i]::a.drop (i+1):=List.drop_eq_getElem_cons ();have h2:a.drop (i+1)=M++a.drop j:=by
   rw[t];have:=gc (j-i-1)<|a.drop<|i+1;rw[List.drop_drop,show i+1+(j-i-1)=j by lia]at this;exact this.symm
  have h3:a.drop j=a[j]::a.drop (j+1):=List.drop_eq_getElem_cons hj
  conv=>lhs;rw[<- gc i a,h1,h2,h3]
  rw[J,G];simp
 refine⟨a.take i,M,a.drop<|j+1,z,rfl,λm B=>?_,?_⟩
 ·rw[t]at B;obtain⟨k,q⟩:=iV B;have p:k<j-i-1:=by
   have:=(aJ.mp q).1;rw[bY]at this;lia
  rw[List.getElem?_take_of_lt p,List.getElem?_drop]at q;exact⟨i+1+k,(),(),q⟩
 ·have g:∀(P R:ag) (x y f d:Int),P.length=i->((P++([x]++M++[y])++R).set i d).set j f=P++([d]++M++[f])++R:=λP R x y f d C=>by
   rw[cJ,iO _ _ (),C,Nat.sub_self];show(P++(d::((M++[y])++R))).set j f=_;rw[iO _ _ (),C,show j-i=(j-i-1)+1 by lia,List.set_cons_succ,cJ,iO _ _ (),F,Nat.sub_self];simp
  have:=g (a.take i) (a.drop<|j+1) (a.getD i 0) (a.getD j 0) (a.getD i 0) (a.getD j 0) (by rw[bY];lia);rw[<- z]at this;exact this
def J1{a:ag}{i:Nat}(h:i<a.length):a[i]?=some (a.getD i 0):=by rw[aK,aI h];rfl
end Iv
namespace Fw
open PySem L2 Bl
open Wd (ex led)
meta abbrev rg (n:Nat):ag:=mJ 1<|(n:Int)+1
def RK{l:ag}{k:Nat}(h0:1<=k)(h:k<l.length):ex (ex l k) k=l:=by
 apply dS;intro p;have h':k<(ex l k).length:=by rw[Wd.Dz];exact h
 rw[Wd.xm h0 h',Wd.xm h0 h,Wd.xm h0 h,Wd.xm h0 h];by_cases c3:p=k
 ·rw[aV c3,aR (),aV rfl,c3]
 ·rw[aR c3];by_cases c2:p=k-1
  ·rw[aV c2,aV rfl,c2]
  ·rw[aR c2,aR c3,aR c2]
def VE{l:ag}{k:Nat}(h0:1<=k)(h:k<l.length):(ex l k).getD k 0=l.getD (k-1) 0:=by
 rw[aK,Wd.xm h0 h,aV rfl,aK]
def VD{l:ag}{k:Nat}(h0:1<=k)(h:k<l.length):(ex l k).getD (k-1) 0=l.getD k 0:=by
 rw[aK,Wd.xm h0 h,aR (),aV rfl,aK]
def MR{l:ag}{k:Nat}(h0:1<=k)(h:k<l.length)(hr:l.getD (k-1) 0<l.getD k 0):Iv.inv (ex l k)=Iv.inv l+1:=by
 obtain⟨P,M,R,e,_,d,es⟩:=Iv.split (a:=l) (i:=k-1) (j:=k) () h;have:=Iv.step (P:=P) (M:=M) (R:=R) (x:=l.getD (k-1) 0) (y:=l.getD k 0) (λm f=>by obtain⟨_,_,_,_⟩:=d m f;lia) hr;rw[<- es,<- e]at this;exact this
def QD{l:ag}{k:Nat}(h0:1<=k)(h:k<l.length)(hr:l.getD k 0<l.getD (k-1) 0):Iv.inv l=Iv.inv (ex l k)+1:=by
 have:=MR (l:=ex l k) h0 (by rw[Wd.Dz];exact h) (by rw[VE h0 h,VD h0 h];exact hr);rw[RK h0 h]at this;exact this
def UL{l:ag}{k:Nat}(h0:1<=k)(h:k<l.length):Iv.inv (ex l k)<=Iv.inv l+1:=by
 rcases Int.lt_trichotomy (l.getD (k-1) 0) (l.getD k 0)with c|c|c
 ·exact Nat.le_of_eq (MR h0 h c)
 ·have:ex l k=l:=by
   apply dS;intro p;have e1:l[k]?=some (l.getD k 0):=Iv.J1 h;have e2:l[k-1]?=some (l.getD (k-1) 0):=Iv.J1 ();rw[Wd.xm h0 h];by_cases c3:p=k
   ·rw[aV c3,c3,e1,e2,c]
   ·rw[aR c3];by_cases c2:p=k-1
    ·rw[aV c2,c2,e1,e2,c]
    ·rw[aR c2]
  rw[this];lia
 ·have:=QD h0 h c;lia
abbrev O6 (l:ag)(k:Nat):Prop:=1<=k/\k<l.length/\l.getD k 0<l.getD (k-1) 0
abbrev Dn:ag->am->Prop
 | l,[]=>∀k,¬O6 l k
 | l,k::ks=>(O6 l k/\∀j,O6 l j->k<=j)/\Dn (ex l k) ks
def Vb{l:ag}{n k:Nat}(p:l.Perm<|rg n)(h0:1<=k)(h:k<l.length):l.getD (k-1) 0≠l.getD k 0:=λz=>by
 have nd:l.Nodup:=p.nodup_iff.mpr<|se _ _;rw[Wd.v_ h,Wd.v_<|show k-1<l.length by lia]at z;have:=(cg nd).mp z
 lia
structure Two (n:Nat)(o u:ag):Prop where
 po:o.Perm (rg n)
 pu:u.Perm (rg n)
 ou:Dm o u
def Two.lu{n:Nat}{u:ag}(t:Two n o u):u.length=n:=by rw[t.pu.length_eq,Wd.mO]
def Two.lo{n:Nat}{o:ag}(t:Two n o u):o.length=n:=by rw[t.po.length_eq,Wd.mO]
end Fw
namespace Su
open Am Po PySem L2
abbrev cS (l:Ps)(o:ag)(t:Int):Int:=match l with
 | []=>0
 | e::l=>(if e.1=o then cf e.2 t else 0)+cS l o t
def Q7(a b:Ps)(o:ag)(t:Int):cS (a++b) o t=cS a o t+cS b o t:=by
 induction a with
 | nil=>exact(dm _).symm
 | cons e a d=>
  show _+cS (a++b) o t=_+_+_;rw[d,iU]
def r_(a b:Pl)(k:Int):cf (a++b) k=cf a k+cf b k:=by
 induction a with
 | nil=>exact(dm _).symm
 | cons p a d=>
  show _+cf (a++b) k=_+_+_;rw[d,iU]
def QJ(a b:Pl)(k:Int):cf (rH a b) k=cf a k+cf b k:=by
 unfold rH;rw[DQ<|wk _ (d:=[]) cY,xN,r_];show 0+_=_;rw[dm]
def Fl(a b:Pl)(k:Int):cf (times a b) k=cf (Ka a b) k:=by
 unfold times;rw[DQ<|wk _ (d:=[]) cY,xN];show 0+_=_;rw[dm]
theorem K9(s:Int):∀(b:Pl) (k c:Int),cf (b.map λq=>(c+q.1,s * q.2)) k=s * cf b (k-c)
 | [],k,c=>(jG s).symm
 | q::b,k,c=>by
  show(if c+q.1=k then s * q.2 else 0)+cf (b.map λq=>(c+q.1,s * q.2)) k=s * ((if q.1=k-c then q.2 else 0)+cf b (k-c));rw[K9 s b k c,Int.mul_add];by_cases h:c+q.1=k
  ·rw[aV h,aV ()]
  ·rw[aR h,aR (),jG]
meta abbrev AF:Pl:=[((-1:Int),(1:Int)),((1:Int),(-1:Int))]
def aba(b:Pl)(k:Int):cf (times AF b) k=cf b (k+1)-cf b (k-1):=by
 rw[Fl];show cf ((b.map λq=>((-1:Int)+q.1,(1:Int) * q.2))++((b.map λq=>((1:Int)+q.1,(-1:Int) * q.2))++[])) k=_;rw[bZ,r_,K9,K9,Int.one_mul,show k - -1=k+1 by lia]
 lia
def YM{D:Ps}{p:Pl}:vS (A4 D o p) o'=if o'=o then p else vS D o':=by
 have cons:∀(e:ag×Pl) (D:Ps) (x:ag),vS (e::D) x=if e.1=x then e.2 else vS D x:=λe D x=>by
  unfold vS;rw[cj];by_cases h:e.1=x
  ·rw[bf h,aV h];rfl
  ·rw[bz h,aR h]
 unfold A4
 cases h:hS D o with
 | true=>
  rw[aV rfl]
  induction D with
  | nil=>cases h
  | cons e D d=>
   rw[bC,cons,cons];have hc:hS (e::D) o=(decide (e.1=o) || hS D o):=rfl;rw[hc]at h;by_cases c:e.1=o
   ·rw[aV c]
    skip
    by_cases c2:o'=o
    ·rw[aV<|c.trans c2.symm,aV c2]
    ·rw[aR λz=>c2<|z.symm.trans c,aR c2,aR λz=>c2<|z.symm.trans c];clear d h hc
     induction D with
     | nil=>rfl
     | cons f D g=>
      rw[bC,cons,cons,g];by_cases c3:f.1=o
      ·rw[aV c3]
       skip
       rw[aR λz=>c2<|z.symm.trans c3,aR λz=>c2<|z.symm.trans c3]
      ·rw[aR c3]
   ·rw[aR c];rw[bz c,f9]at h;rw[d h];by_cases c2:e.1=o'
    ·rw[aV c2,aR λz=>c<|c2.trans z,aV c2]
    ·rw[aR c2,aR c2]
 | false=>
  rw[aR<|by simp]
  induction D with
  | nil=>
   show vS [(o,p)] o'=_;rw[cons];by_cases c:o=o'
   ·rw[aV c,aV c.symm]
   ·rw[aR c,aR λz=>c z.symm]
  | cons e D d=>
   have hc:hS (e::D) o=(decide (e.1=o) || hS D o):=rfl;rw[hc,iY]at h;rw[iP,cons,cons,d h.2];have:=eW h.1;by_cases c:e.1=o'
   ·rw[aV c,aV c,aR λz=>this<|c.trans z]
   ·rw[aR c,aR c]
def PU(l:Ps):∀(D:Ps) (o:ag) (t:Int),cf (vS (adds D l) o) t=cf (vS D o) t+cS l o t:=by
 induction l with
 | nil=>intro D o t;exact(fR _).symm
 | cons e l d=>
  intro D o t;show cf (vS (adds (Aa D e.1 e.2) l) o) t=_+((if e.1=o then cf e.2 t else 0)+cS l o t);rw[d];unfold Aa;rw[YM];by_cases h:o=e.1
  ·rw[aV h,aV h.symm,QJ,h,iU]
  ·rw[aR h,aR λz=>h z.symm,dm]
structure Gd (D:Ps):Prop where
 nd:(D.map Prod.fst).Nodup
 ok:∀e∈D,Ok e.2
def YL{D:Ps}{o:ag}:hS D o=true ↔ o∈D.map Prod.fst:=by
 unfold hS;rw[gC,aY];constructor
 ·rintro⟨p,h1,h2⟩;exact⟨p,h1,b8 h2⟩
 ·rintro⟨p,h1,h2⟩;exact⟨p,h1,bf h2⟩
def LQ{D:Ps}{o:ag}{p:Pl}:(A4 D o p).map Prod.fst=if hS D o=true then D.map Prod.fst else D.map Prod.fst++[o]:=by
 unfold A4;split
 ·rw[bg];apply bW;intro e _;show(if e.1=o then(e.1,p)else e).1=e.1;split<;>rfl
 ·rw[bu];rfl
def Gd.put{D:Ps}{p:Pl}(h:Gd D)(hp:Ok p):Gd (A4 D o p):=by
 refine⟨?_,λe d=>?_⟩
 ·rw[LQ];split
  ·exact h.nd
  ·rename_i c;rw[cy];refine⟨h.nd,cP _ _,λa ha b hb z=>c ?_⟩;rw[aP]at hb;rw[YL,<- hb,<- z];exact ha
 ·unfold A4 at d;split at d
  ·obtain⟨f,hf,rfl⟩:=aY.mp d;split
   ·exact hp
   ·exact h.ok f hf
  ·rcases bG.mp d with z|z
   ·exact h.ok e z
   ·rw[aP.mp z];exact hp
theorem Gd.adds(l:Ps):∀{D:Ps},Gd D->Gd (adds D l):=by
 induction l with
 | nil=>intro D h;exact h
 | cons e l d=>intro D h;exact d<|h.put<|AA _ _
def Gd.nil:Gd []:=⟨cY,nofun⟩
def wZ{D:Ps}:(∃e∈D,e.1=o/\vS D o=e.2)\/(o∉D.map Prod.fst/\vS D o=[]):=by
 unfold vS
 cases h:D.find? λe=>decide (e.1=o)with
 | some e=>
  have h1:=fZ h;exact .inl ⟨e,cI h,by simpa using h1,rfl⟩
 | none=>
  refine .inr ⟨λz=>?_,rfl⟩;obtain⟨e,d,f⟩:=aY.mp z;exact fS.mp h e d<|bf f
def Gd.v{D:Ps}(h:Gd D)(o:ag):Ok (vS D o):=by
 rcases wZ (D:=D) (o:=o)with⟨e,h1,_,h2⟩|⟨_,h2⟩
 ·rw[h2];exact h.ok e h1
 ·rw[h2];exact⟨List.Pairwise.nil,nofun⟩
def Di.anti{a:ag}(h1:Di a b)(h2:Di b a):a=b:=(Sx.xP h1 h2).symm
def TV{D:Ps}(h:Gd D)(h':Gd E)(hv:∀o,vS D o=vS E o):toS D=toS E:=by
 have d:∀(D:Ps),Gd D->∀o,o∈(kR<|D.map Prod.fst).filter (λo=>!(vS D o).isEmpty) ↔ (vS D o)≠[]:=λD h o=>by
  rw[cA,(kN _).mem_iff];constructor
  ·rintro⟨_,h2⟩ z;rw[z]at h2;cases h2
  ·intro z;refine⟨?_,by cases e:vS D o with|nil=>exact absurd e z|cons=>rfl⟩
   rcases wZ (D:=D) (o:=o)with⟨e,h1,h2,_⟩|⟨_,h2⟩
   ·exact aY.mpr ⟨e,h1,h2⟩
   ·exact absurd h2 z
 have f:∀(D:Ps),((kR<|D.map Prod.fst).filter λo=>!(vS D o).isEmpty).Pairwise Di:=λD=>(vA _).filter _;have nd:∀(D:Ps),Gd D->((kR<|D.map Prod.fst).filter λo=>!(vS D o).isEmpty).Nodup:=λD h=>((kN _).nodup_iff.mpr h.nd).filter _;have e:(kR<|D.map Prod.fst).filter (λo=>!(vS D o).isEmpty)=(kR<|E.map Prod.fst).filter (λo=>!(vS E o).isEmpty):=by
  refine d8 (λa b _ _ h1 h2=>Di.anti h1 h2) (f D) (f E)<|(jm (nd D h)<|nd E h').mpr λo=>?_;rw[d D h,d E h',hv]
 unfold toS;rw[e];apply bW;intro o _;rw[hv]
def M5{D:Ps}(h:Gd D)(h':Gd E)(hc:∀o t,cf (vS D o) t=cf (vS E o) t):toS D=toS E:=TV h h' λo=>uniq (h.v o) (h'.v o)<|hc o
theorem Ht{f:ag->Pl}{o:ag}{t:Int}:∀{ks:List<|ag},ks.Nodup->cS (ks.map λk=>(k,f k)) o t=if o∈ks then cf (f o) t else 0
 | [],_=>by rw[aR<|by simp];rfl
 | j::ks,h=>by
  obtain⟨h1,h2⟩:=bX.mp h;show(if j=o then cf (f j) t else 0)+cS (ks.map λk=>(k,f k)) o t=_;rw[Ht h2];by_cases c:j=o
  ·subst c;rw[aV rfl,aR h1,aV<|aL ..,fR]
  ·rw[aR c,dm];by_cases e:o∈ks
   ·rw[aV e,aV<|aQ _ e]
   ·rw[aR e,aR λz=>(bH.mp z).elim (λz=>c z.symm) e]
def HD{D:Ps}(h:Gd D)(o:ag)(t:Int):cS (toS D) o t=cf (vS D o) t:=by
 unfold toS;rw[Ht<|((kN _).nodup_iff.mpr h.nd).filter _];split
 ·rfl
 ·rename_i c
  rcases wZ (D:=D) (o:=o)with⟨e,h1,h2,h3⟩|⟨_,h2⟩
  ·by_cases z:vS D o=[]
   ·rw[z];rfl
   ·refine absurd (cA.mpr ⟨(kN _).mem_iff.mpr<|aY.mpr ⟨e,h1,h2⟩,?_⟩) c
    cases e:vS D o with|nil=>exact absurd e z|cons=>rfl
  ·rw[h2];rfl
abbrev t9 (o:ag)(k:Nat):Bool:=decide<|o.getD (k-1) 0>o.getD k 0
abbrev ZQ (k:Nat)(l:Ps):Ps:=l.flatMap λe=>(Wd.ex e.1 k,e.2)::(if t9 e.1 k=true then[(e.1,times AF e.2)]else[])
abbrev bx (k:Nat)(l:Ps):Ps:=toS<|adds []<|ZQ k l
abbrev Go (N k:Nat)(o:ag):Prop:=o.length=N/\o.getD (k-1) 0≠o.getD k 0
def NL{N k:Nat}{o:ag}(h:o.length=N)(h1:1<=k)(h2:k<N):Wd.ex (Wd.ex o k) k=o:=Fw.RK h1 ()
def UY{l:Ps}{t:Int}(h:∀e∈l,e.1≠o):cS l o t=0:=by
 induction l with
 | nil=>rfl
 | cons e l d=>
  show(if e.1=o then _ else 0)+cS l o t=0;rw[aR<|h e<|aL ..,d λf hf=>h f<|aQ _ hf];rfl
theorem V2{N k:Nat}(h1:1<=k)(h2:k<N):∀{l:Ps},(∀e∈l,Go N k e.1)->∀{o:ag}(t:Int),Go N k o->cS (ZQ k l) o t=cS l (Wd.ex o k) t+(if t9 o k=true then cS l o (t+1)-cS l o (t-1)else 0)
 | [],_,o,t,_=>by show(0:Int)=0+if _ then(0:Int)-0 else 0;split<;>rfl
 | e::l,h,o,t,ho=>by
  have g:=h e<|aL ..;have j:=V2 h1 h2 (l:=l) (λf hf=>h f<|aQ _ hf) t ho;have d:(Wd.ex e.1 k=o) ↔ (e.1=Wd.ex o k):=⟨λz=>by rw[<- z,NL g.1 h1 h2],λz=>by rw[z,NL ho.1 h1 h2]⟩;show cS (((Wd.ex e.1 k,e.2)::(if t9 e.1 k=true then[(e.1,times AF e.2)]else[]))++ZQ k l) o t=_;rw[Q7,j];show(if Wd.ex e.1 k=o then cf e.2 t else 0)+cS (if t9 e.1 k=true then[(e.1,times AF e.2)]else[]) o t+_=((if e.1=Wd.ex o k then cf e.2 t else 0)+cS l (Wd.ex o k) t)+(if t9 o k=true then((if e.1=o then cf e.2 (t+1)else 0)+cS l o (t+1))-((if e.1=o then cf e.2 (t-1)else 0)+cS l o (t-1))else 0);have h3:cS (if t9 e.1 k=true then[(e.1,times AF e.2)]else[]) o t=if t9 o k=true then((if e.1=o then cf e.2 (t+1)else 0)-(if e.1=o then cf e.2 (t-1)else 0))else 0:=by
   by_cases c:e.1=o
   ·rw[c,aV rfl,aV rfl]
    cases t9 o k with
    | false=>rfl
    | true=>
     rw[aV rfl,aV rfl];show(if o=o then cf (times AF e.2) t else 0)+0=_;rw[aV rfl,aba,fR]
   ·rw[aR c,aR c];have:cS (if t9 e.1 k=true then[(e.1,times AF e.2)]else[]) o t=0:=UY λf hf=>by
     split at hf
     ·rw[aP.mp hf];exact c
     ·cases hf
    rw[this];split<;>rfl
  rw[h3];by_cases c:Wd.ex e.1 k=o
  ·rw[aV c,aV<|d.mp c];split<;>lia
  ·rw[aR c,aR λz=>c<|d.mpr z];split<;>lia
def rE{P:ag->Prop}(l:Ps):∀{D:Ps},(∀e∈D,P e.1)->(∀e∈l,P e.1)->∀e∈adds D l,P e.1:=by
 induction l with
 | nil=>intro D h _;exact h
 | cons f l j=>
  intro D h h';refine j (λe d=>?_) λe d=>h' e<|aQ _ d;have d:e∈A4 D f.1 (rH (vS D f.1) f.2):=d;unfold A4 at d;split at d
  ·obtain⟨g,hg,rfl⟩:=aY.mp d;split
   ·exact h g hg
   ·exact h g hg
  ·rcases bG.mp d with z|z
   ·exact h e z
   ·rw[aP.mp z];exact h' f<|aL ..
def t6{P:ag->Prop}{D:Ps}(h:∀e∈D,P e.1):∀e∈toS D,P e.1:=λe d=>by
 obtain⟨o,g,rfl⟩:=aY.mp d;obtain⟨f,hf,e⟩:=aY.mp ((kN _).mem_iff.mp (cA.mp g).1)
 skip
 rw[<- e];exact h f hf
abbrev gX (k:Nat)(e:En)(Q:Ps):Ps:=if t9 e.1 k=true then Aa (Aa Q (Wd.ex e.1 k) e.2.2) e.1 (times AF e.2.2)else Aa Q (Wd.ex e.1 k) e.2.2
theorem IL(k:Nat):∀(es:Es) (P:Ps),es.foldl (λQ e=>gX k e Q) P=adds P (ZQ k<|sm es)
 | [],P=>rfl
 | e::es,P=>by
  show es.foldl (λQ e=>gX k e Q) (gX k e P)=adds P (((Wd.ex e.1 k,e.2.2)::(if t9 e.1 k=true then[(e.1,times AF e.2.2)]else[]))++ZQ k (sm es));rw[IL k es,Ri];congr 1;unfold gX
  cases t9 e.1 k<;>rfl
def abj{p:Pl}(h:Ok p)(hb:Bd C p)(t:Int):(cf p t).natAbs<=C:=by
 rw[<- RI h.nd];exact hb.val t
def Ok.zX{l:Pl}(h:Ok l){p:Int×Int}(hp:p∈l):cf l p.1=p.2:=by
 induction l with
 | nil=>cases hp
 | cons q l d=>
  rcases bH.mp hp with z|z
  ·rw[z];exact h.head
  ·show(if q.1=p.1 then q.2 else 0)+cf l p.1=p.2;have:=(b9.mp h.up).1 p z;rw[aR (),d h.tail z,dm]
end Su
namespace He
open PySem L2 Am
open Fw (Two rg O6)
open Bl (Dm)
open Su (t9)
meta abbrev Fn:=ag->Int->Int
abbrev dl (g:Int->Int)(t:Int):Int:=g (t+1)-g (t-1)
abbrev X (k:Nat)(f:Fn):Fn:=λo t=>f (Wd.ex o k) t+if t9 o k=true then dl (f o) t else 0
def LI{n:Nat}{v:ag}(h:Two n o u)(h':Two n o v):u=v:=by
 have j:=h.lu;have k:=h'.lu;have t:=h.lo;apply dS;intro q;by_cases hq:q<n
 ·obtain⟨p,d,ep⟩:∃p,∃d:p<o.length,o[p]=(q:Int)+1:=by
   have:(q:Int)+1∈o:=h.po.mem_iff.mpr<|rQ.mpr ⟨(),()⟩;obtain⟨p,d,ep⟩:=List.getElem_of_mem this;exact⟨p,d,ep⟩
  have g:=h.ou.2 p d;have f:=h'.ou.2 p d;rw[ep,show((q:Int)+1-1).toNat=q by lia]at g f;rw[g,f]
 ·rw[dH (),dH ()]
abbrev bk (o:ag):ag:=(List.range o.length).map λi:Nat=>((o.idxOf ((i:Int)+1):Nat):Int)+1
def NC{n:Nat}{o:ag}(h:o.Perm<|rg n):Two n o (bk o):=by
 have lo:o.length=n:=by rw[h.length_eq,Wd.mO]
 have nd:o.Nodup:=h.nodup_iff.mpr<|se _ _;have f:∀i,i<n->(i:Int)+1∈o:=λi d=>h.mem_iff.mpr<|rQ.mpr ⟨(),()⟩;have ix:∀i,i<n->o.idxOf ((i:Int)+1)<n:=λi d=>by rw[<- lo];exact fC.mpr (f i d)
 have get:∀i (d:i<n),o[o.idxOf<|(i:Int)+1]'(by rw[lo];exact ix i d)=(i:Int)+1:=λi d=>jn _;refine⟨h,?_,?_,λp B=>?_⟩
 ·have p:=Am.uF (N:=n) (g:=λi=>o.idxOf<|(i:Int)+1) ix λi j k t z=>by
   have a:=get i ();have b:=get j t;dsimp[z]at a;rw[b]at a
   lia
  have p2:=p.map λi:Nat=>(i:Int)+1;rw[bg]at p2;unfold bk;rw[lo];refine List.Perm.trans p2 ?_;have:(List.range n).map (λi:Nat=>(i:Int)+1)=rg n:=by
   apply dS;intro q;rw[aO];by_cases c:q<n
   ·rw[eK c,Wd.Ti c];rfl
   ·rw[dH<|by rw[bR];lia,dH<|by rw[Wd.mO];lia];rfl
  rw[this]
 ·unfold bk;rw[aG,bR]
 ·have m:=rQ.mp<|h.mem_iff.mp<|di B;have hq:(o[p]-1).toNat<o.length:=()
  unfold bk;rw[aO,eK hq];show some (((o.idxOf (((o[p]-1).toNat:Int)+1):Nat):Int)+1)=_;rw[show((o[p]-1).toNat:Int)+1=o[p]by lia,nd.idxOf_getElem]
def nb{n k:Nat}{o:ag}(h:o.Perm<|rg n)(h0:1<=k)(h1:k<n):o.getD (k-1) 0≠o.getD k 0:=λz=>by
 have lo:o.length=n:=by rw[h.length_eq,Wd.mO]
 have nd:o.Nodup:=h.nodup_iff.mpr<|se _ _;rw[Wd.v_ (),Wd.v_ ()]at z;have:=(cg nd).mp z
 lia
abbrev L (j:Nat)(f:Fn):Fn:=λo t=>f (o.map<|Wd.sw j) t+if t9 (bk o) j=true then dl (f o) t else 0
abbrev EqP (n:Nat)(f g:Fn):Prop:=∀o:ag,o.Perm (rg n)->∀t,f o t=g o t
def FD{n k:Nat}{o:ag}(h:o.Perm<|rg n)(h0:1<=k)(h1:k<n):(Wd.ex o k).Perm (rg n):=(Wd.T9 h0<|by rw[h.length_eq,Wd.mO];exact h1).trans h
abbrev Xw (w:am)(f:Fn):Fn:=w.foldl (λf k=>X k f) f
abbrev D (u:ag)(g:Int->Int):Fn:=λo t=>if o=u then g t else 0
abbrev add (f g:Fn):Fn:=λo t=>f o t+g o t
def adi{n k:Nat}{l:Su.Ps}(h:∀x∈l,x.1.Perm<|rg n)(h0:1<=k)(h1:k<n):EqP n (Su.cS<|Su.bx k l) (X k<|Su.cS l):=λo p t=>by
 have d:∀{x:ag},x.Perm (rg n)->Su.Go n k x:=λ{x} hx=>⟨by rw[hx.length_eq,Wd.mO],nb hx h0 h1⟩;unfold Su.bx;rw[Su.HD<|Su.Gd.nil.adds _,Su.PU];show 0+_=_;rw[dm,Su.V2 h0 h1 (λe f=>d<|h e f) t<|d p];rfl
end He
namespace He
open PySem L2 Am Po
open Fw (Two rg O6)
open Su (t9 Ps cS)
abbrev cv:Pl->(Int->Int)->Int->Int
 | [],_,_=>0
 | q::p,g,t=>q.2 * g (t-q.1)+cv p g t
def Zu(p:Pl)(g h:Int->Int)(t:Int):cv p (λt=>g t+h t) t=cv p g t+cv p h t:=by
 induction p with
 | nil=>rfl
 | cons q p d=>
  show q.2 * (g (t-q.1)+h (t-q.1))+cv p _ t=(q.2 * g (t-q.1)+cv p g t)+(q.2 * h (t-q.1)+cv p h t);rw[d,Int.mul_add];lia
def Iu(p:Pl)(t:Int):cv p (λ_=>0) t=0:=by
 induction p with
 | nil=>rfl
 | cons q p d=>
  show q.2 * 0+cv p _ t=0;rw[d,jG];rfl
def aae(p q:Pl)(t:Int):cf (times p q) t=cv p (cf q) t:=by
 rw[Su.Fl]
 induction p with
 | nil=>rfl
 | cons a p d=>
  show cf ((q.map λb=>(a.1+b.1,a.2 * b.2))++Ka p q) t=_;rw[Su.r_,Su.K9,d];rfl
abbrev LO (p:Pl)(f:Fn):Fn:=λo t=>cv p (f o) t
abbrev RG (G:ag->Fn):Ps->Fn
 | []=>λ_ _=>0
 | e::m=>add (LO e.2<|G e.1)<|RG G m
def ZP{n k:Nat}{m:Ps}(h0:1<=k)(h1:k<n)(hm:∀x∈m,x.1.Perm<|rg n):∀x∈Su.bx k m,x.1.Perm (rg n):=Su.t6 (P:=λo=>o.Perm<|rg n) (Su.rE (P:=λo=>o.Perm<|rg n) _ (nofun) λx d=>by
 obtain⟨f,hf,d⟩:=gD.mp d
 rcases bH.mp d with z|z
 ·rw[z];exact FD (hm f hf) h0 h1
 ·split at z
  ·rw[aP.mp z];exact hm f hf
  ·cases z)
abbrev scl (p:Pl)(l:Ps):Ps:=l.map λx=>(x.1,times p x.2)
def XC(p:Pl)(l:Ps):cS (scl p l)=LO p (cS l):=by
 funext o t
 induction l with
 | nil=>exact(Iu p t).symm
 | cons e l d=>
  show(if e.1=o then cf (times p e.2) t else 0)+cS (scl p l) o t=cv p (λt=>(if e.1=o then cf e.2 t else 0)+cS l o t) t;rw[Zu,d];congr 1;by_cases c:e.1=o
  ·rw[aV c,aae,show(λt=>if e.1=o then cf e.2 t else 0)=cf e.2 from funext λt=>aV c]
  ·rw[aR c,show(λt=>if e.1=o then cf e.2 t else(0:Int))=λ_=>0 from funext λt=>aR c,Iu]
abbrev B (f:Fn):Fn:=λo=>f<|bk o
end He
namespace He
open PySem L2 Am Po
open Fw (Two rg O6)
open Su (t9 Ps cS Gd vS toS adds bx)
def Pd{D:Ps}(h:Gd D){e:ag×Pl}(he:e∈D):vS D e.1=e.2:=by
 rcases Su.wZ (D:=D) (o:=e.1)with⟨d,h1,h2,h3⟩|⟨h1,_⟩
 ·rw[h3,C7 h.nd d h1 e he h2]
 ·exact absurd (cu he) h1
def EU{D:Ps}(h:Gd D):(D.map Prod.fst).map (λk=>(k,vS D k))=D:=by
 rw[bg]
 conv=>rhs;rw[<- ju D]
 exact bW λe d=>by
  show(e.1,vS D e.1)=e;rw[Pd h d]
def JD{D:Ps}(h:Gd D)(o:ag)(t:Int):cS D o t=cf (vS D o) t:=by
 conv=>lhs;rw[<- EU h]
 rw[Su.Ht h.nd];split
 ·rfl
 ·rename_i c
  rcases Su.wZ (D:=D) (o:=o)with⟨e,h1,h2,_⟩|⟨_,h2⟩
  ·exact absurd (h2 ▸ cu h1) c
  ·rw[h2];rfl
def GG{D:Ps}(h:Gd D):Gd (toS D):=by
 refine⟨?_,λe d=>?_⟩
 ·unfold toS;rw[bg,show(Prod.fst ∘ λo=>(o,vS D o))=id from rfl,ju];exact((kN _).nodup_iff.mpr h.nd).filter _
 ·obtain⟨o,_,rfl⟩:=aY.mp d;exact h.v o
structure Cn (l:Ps):Prop where
 gd:Gd l
 eq:toS l=l
theorem Cn.toS{D:Ps}(h:Gd D):Cn (toS D):=⟨GG h,Su.M5 (GG h) h λo t=>by rw[<- JD (GG h),Su.HD h]⟩
def P4{P:Ps}(h:Gd P)(hn:∀e∈P,e.2≠[]):Ak P=toS P:=by
 symm
 have all:(kR<|P.map Prod.fst).filter (λo=>!(vS P o).isEmpty)=kR (P.map Prod.fst):=by
  rw[fF];intro o g;obtain⟨e,d,rfl⟩:=aY.mp<|(kN _).mem_iff.mp g;rw[Pd h d]
  cases f:e.2 with
  | nil=>exact absurd f (hn e d)
  | cons=>rfl
 have ts:toS P=(kR<|P.map Prod.fst).map λo=>(o,vS P o):=by unfold toS;rw[all]
 refine Gu h.nd ?_ ?_
 ·rw[ts];have:=(kN<|P.map Prod.fst).map λo=>(o,vS P o)
  rwa [EU h]at this
 ·rw[ts,bg,show(Prod.fst ∘ λo=>(o,vS P o))=id from rfl,ju];exact vA _
abbrev ff (o:ag):bj:=((List.range<|o.length-1).find? λi=>t9 o<|i+1).map (·+1)
def SG{o:ag}{k:Nat}(h:ff o=some k):1<=k/\k<o.length/\t9 o k=true:=by
 obtain⟨i,d,rfl⟩:=aW.mp h;have h1:=cF.mp<|cI d;have h2:t9 o (i+1)=true:=fZ (p:=λi=>t9 o<|i+1) d;exact⟨(),(),h2⟩
def aaX(k:Nat)(l:Ps):Cn (bx k l):=.toS<|Gd.nil.adds _
def IA(l:Ps)(o:ag)(t:Int):cS (toS<|adds [] l) o t=cS l o t:=by
 rw[Su.HD<|Gd.nil.adds _,Su.PU];exact dm _
abbrev Bk (l m:Ps):Ps:=toS<|adds []<|l++m
def TN{n:Nat}{l m:Ps}(pl:∀x∈l,x.1.Perm<|rg n)(pm:∀x∈m,x.1.Perm<|rg n):Cn (Bk l m)/\(∀x∈Bk l m,x.1.Perm<|rg n)/\cS (Bk l m)=add (cS l) (cS m):=
 ⟨.toS<|Gd.nil.adds _,Su.t6 (P:=λo=>o.Perm<|rg n)<|Su.rE (P:=λo=>o.Perm<|rg n) _ (nofun) λx d=>(bG.mp d).elim (pl x)<|pm x,funext λo=>funext λt=>by
  show cS (toS<|adds []<|l++m) o t=_;rw[IA,Su.Q7];rfl⟩
abbrev one (n:Nat):Ps:=[(rg n,[((0:Int),(1:Int))])]
def Zp(o:ag){p:Pl}(hp:Ok p)(h0:p≠[]):Cn [(o,p)]:=by
 have g:Gd [(o,p)]:=⟨bX.mpr ⟨(λz=>nomatch z),cY⟩,λe d=>by rw[aP.mp d];exact hp⟩;exact⟨g,(P4 g λe d=>by rw[aP.mp d];exact h0).symm⟩
def Zr:Ok [((0:Int),(1:Int))]:=⟨cP _ _,λp d=>by rw[aP.mp d];decide⟩
end He
namespace He
open PySem L2 Am Po
open Fw (Two rg O6)
open Su (t9 Ps cS Gd vS toS adds bx)
abbrev arr:Nat->ag->List (ag)
 | 0,_=>[[]]
 | m+1,l=>l.flatMap λx=>(arr m<|l.erase x).map (x::·)
theorem Dp:∀{m:Nat}{l o:ag},o.Perm l->l.length=m->o∈arr m l
 | 0,l,o,p,h=>by
  have:l=[]:=fG.mp h;subst this;rw[p.eq_nil];exact aP.mpr rfl
 | m+1,l,[],p,h=>by rw[<- p.length_eq]at h;cases h
 | m+1,l,x::o,p,h=>by
  obtain⟨h1,h2⟩:=List.cons_perm_iff_perm_erase.mp p;refine gD.mpr ⟨x,h1,aY.mpr ⟨o,Dp h2 ?_,rfl⟩⟩;rw[List.length_erase_of_mem h1,h];rfl
def BS{α:Type}[DecidableEq α]{ks L:List α}(nd:ks.Nodup)(h:∀x∈ks,x∈L):ks.length<=L.length:=by
 have:=pig L.length (ks.map λx=>L.idxOf x) ?_ λi f=>?_
 ·rwa [aG]at this
 ·refine cL.mpr<|nd.imp_of_mem λ{a b} ha hb hab z=>hab ?_;have e1:=jn<|fC.mpr<|h a ha;have e2:=jn<|fC.mpr<|h b hb;rw[<- e1,<- e2];congr 1
 ·obtain⟨x,d,rfl⟩:=aY.mp f;exact fC.mpr<|h x d
def SH:∀n,n<6->(arr n<|rg n).length<=120:=by decide +kernel
def many{n:Nat}(hn:n<6){ks:List<|ag}(nd:ks.Nodup)(h:∀o∈ks,o.Perm<|rg n):ks.length<=120:=
 bJ (BS nd λo d=>Dp (h o d)<|Wd.mO n) (SH n hn)
structure FB (n P C:Nat)(f:Fn):Prop where
 c:∀o,o.Perm (rg n)->∀t,(f o t).natAbs<=C
 p:∀o,o.Perm (rg n)->∀t:Int,P<t.natAbs->f o t=0
def FB.mono{n P:Nat}{f:Fn}(h:FB n P C f)(hp:P<=P')(hc:C<=C'):FB n P' C' f:=⟨λo d t=>bJ (h.c o d t) hc,λo d t g=>h.p o d t ()⟩
def FB.eq{n P:Nat}{f g:Fn}(h:FB n P C f)(e:EqP n g f):FB n P C g:=⟨λo d t=>by rw[e o d t];exact h.c o d t,λo d t j=>by rw[e o d t];exact h.p o d t j⟩
theorem FB.X{n P k:Nat}{f:Fn}(h:FB n P C f)(h0:1<=k)(h1:k<n):FB n (P+1) (3 * C) (X k f):=by
 refine⟨λo g t=>?_,λo g t j=>?_⟩
 ·have a:=h.c _ (FD g h0 h1) t;have b:=h.c o g<|t+1;have d:=h.c o g<|t-1;unfold He.X dl;split<;>omega
 ·have a:=h.p _ (FD g h0 h1) t (by omega);have b:=h.p o g (t+1) (by omega);have d:=h.p o g (t-1) (by omega);unfold He.X dl;split<;>omega
theorem FB.add{n P:Nat}{f g:Fn}(h:FB n P C f)(h':FB n P C' g):FB n P (C+C') (add f g):=by
 refine⟨λo d t=>?_,λo d t j=>?_⟩
 ·have a:=h.c o d t;have b:=h'.c o d t;show(f o t+g o t).natAbs<=_;omega
 ·show f o t+g o t=0;rw[h.p o d t j,h'.p o d t j];rfl
structure PB (Q c:Nat)(p:Pl):Prop where
 c:∀q∈p,q.2.natAbs<=c
 p:∀q∈p,q.1.natAbs<=Q
theorem Xc{n P c:Nat}{f:Fn}(h:FB n P C f){o:ag}(po:o.Perm<|rg n):∀{p:Pl},PB Q c p->(∀t,(cv p (f o) t).natAbs<=p.length * (c * C))/\∀t:Int,P+Q<t.natAbs->cv p (f o) t=0
 | [],_=>⟨λ_=>bK _,λ_ _=>rfl⟩
 | q::p,b=>by
  obtain⟨j,z⟩:=Xc h po (p:=p) ⟨λx d=>b.c x<|aQ _ d,λx d=>b.p x<|aQ _ d⟩;have g:=b.c q<|aL ..;have B:=b.p q<|aL ..;refine⟨λt=>?_,λt k=>?_⟩
  ·show(q.2 * f o (t-q.1)+cv p (f o) t).natAbs<=(p.length+1) * (c * C);refine bJ (Int.natAbs_add_le _ _) ?_;rw[Int.natAbs_mul,jd,Nat.add_comm];exact Nat.add_le_add (j t) (jO g<|h.c o po _)
  ·show q.2 * f o (t-q.1)+cv p (f o) t=0;rw[z t k,h.p o po _<|by omega,jG];rfl
theorem FB.LO{n P c:Nat}{f:Fn}(h:FB n P C f){p:Pl}(b:PB Q c p):FB n (P+Q) (p.length * (c * C)) (LO p f):=⟨λo d t=>(Xc h d b).1 t,λo d t g=>(Xc h d b).2 t g⟩
theorem GQ:∀{l:Pl}{a b:Int},l.Pairwise (λp q=>p.1<q.1)->(∀p∈l,a<=p.1/\p.1<=b)->l.length<=(b-a+1).toNat
 | [],_,_,_,_=>bK _
 | p::l,a,b,h,hb=>by
  obtain⟨h1,h2⟩:=b9.mp h;have p1:=hb p<|aL ..;have i:=GQ (l:=l) (a:=a+1) (b:=b) h2 λq hq=>by
   have:=h1 q hq;have:=hb q (aQ _ hq)
   lia
  rw[bA]
  lia
def W0{p:Pl}{P c:Nat}(h:Ok p)(b:PB P c p):p.length<=2 * P+1:=by
 have:=GQ (a:=-(P:Int)) (b:=P) h.up λq hq=>by have:=b.p q hq;omega
 omega
def FB.pb{n P:Nat}{l:Ps}(h:FB n P C<|cS l)(hc:Gd l)(pl:∀x∈l,x.1.Perm<|rg n){e:ag×Pl}(he:e∈l):PB P C e.2/\e.2.length<=2 * P+1:=by
 have ok:=hc.ok e he;have d:∀q∈e.2,cS l e.1 q.1=q.2:=λq hq=>by
  rw[JD hc,Pd hc he];exact Su.Ok.zX ok hq
 have b:PB P C e.2:=⟨λq hq=>by rw[<- d q hq];exact h.c _ (pl e he) _,λq hq=>by
  refine Nat.le_of_not_lt λz=>ok.nz q hq ?_;rw[<- d q hq];exact h.p _ (pl e he) _ z⟩
 exact⟨b,W0 ok b⟩
structure Sz (n P C:Nat)(l:Ps):Prop where
 cn:Cn l
 pm:∀x∈l,x.1.Perm (rg n)
 fb:FB n P C<|cS l
def Sz.pb{n P:Nat}{l:Ps}(h:Sz n P C l){e:ag×Pl}(he:e∈l):PB P C e.2/\e.2.length<=2 * P+1:=h.fb.pb h.cn.gd h.pm he
def Sz.many{n P:Nat}{l:Ps}(hn:n<6)(h:Sz n P C l):l.length<=120:=by
 have:=He.many hn h.cn.gd.nd λo f=>by obtain⟨e,d,rfl⟩:=aY.mp f;exact h.pm e d
 rwa [aG]at this
def Sz.mono{n P:Nat}{l:Ps}(h:Sz n P C l)(hp:P<=P')(hc:C<=C'):Sz n P' C' l:=⟨h.cn,h.pm,h.fb.mono hp hc⟩
theorem Sz.bx{n P k:Nat}{l:Ps}(h:Sz n P C l)(h0:1<=k)(h1:k<n):Sz n (P+1) (3 * C) (bx k l):=⟨aaX _ _,ZP h0 h1 h.pm,(h.fb.X h0 h1).eq<|adi h.pm h0 h1⟩
def Sz.sum{n P c:Nat}{l:Ps}(h:Sz n P C l)(h':Sz n P c m):Sz n P (C+c) (Bk l m):=by
 obtain⟨a,b,d⟩:=TN h.pm h'.pm;exact⟨a,b,by rw[d];exact h.fb.add h'.fb⟩
end He
namespace Su
open Am Po PySem L2
def Mn{D:Es}{r:Nat}{p:Pl}:∃e,fE (sH D o r p) o=some e/\e.2.1=r:=by
 unfold sH;by_cases c:(fE D o).isSome=true
 ·rw[aV c];obtain⟨e,d⟩:=dI.mp c;unfold fE at d ⊢;rw[fK];have eq:((λe:En=>decide<|e.1=o) ∘ λe:En=>if e.1=o then(e.1,r,p)else e)=λe:En=>decide (e.1=o):=by
   funext x
   show decide ((if x.1=o then(x.1,r,p)else x).1=o)=_;by_cases z:x.1=o
   ·rw[aV z]
   ·rw[aR z]
  rw[eq,d];have:=fZ d;have:=b8 this;exact⟨_,rfl,by show(if e.1=o then(e.1,r,p)else e).2.1=r;rw[aV this]⟩
 ·rw[aR c];have c:fE D o=none:=Option.not_isSome_iff_eq_none.mp c;unfold fE at c ⊢;rw[List.find?_append,c];exact⟨(o,r,p),by rw[cj,bf rfl];rfl,rfl⟩
end Su
namespace He
open PySem L2 Am Po
open Fw (Two rg O6)
open Su (t9 Ps cS Gd vS toS adds bx)
def Sz.of{n P:Nat}{l:Ps}(h:Cn l)(pm:∀x∈l,x.1.Perm<|rg n)(pb:∀e∈l,PB P C e.2):Sz n P C l:=by
 refine⟨h,pm,⟨λo g t=>?_,λo g t j=>?_⟩⟩
 ·rw[JD h.gd]
  rcases Su.wZ (D:=l) (o:=o)with⟨e,h1,_,h3⟩|⟨_,h2⟩
  ·rw[h3];exact Su.abj (h.gd.ok e h1) (λq hq=>(pb e h1).c q hq) t
  ·rw[h2];exact bK _
 ·rw[JD h.gd]
  rcases Su.wZ (D:=l) (o:=o)with⟨e,h1,_,h3⟩|⟨_,h2⟩
  ·rw[h3];have:∀q∈e.2,q.1≠t:=λq hq z=>by have:=(pb e h1).p q hq;rw[z]at this;lia
   clear h3;revert this;generalize e.2=p0;intro this
   induction p0 with
   | nil=>rfl
   | cons q p f=>
    have z:=this q<|aL ..;have i:=f λx d=>this x<|aQ _ d;show(if q.1=t then q.2 else 0)+cf p t=0;rw[aR z,i];rfl
  ·rw[h2];rfl
def Th{o:ag}:((mJ 1 (o.length:Int)).filter λk=>decide<|o.getD (k-1).toNat 0>o.getD k.toNat 0).head?=(ff o).map λk:Nat=>(k:Int):=by
 rw[List.head?_filter];unfold mJ ff;rw[fK,show((o.length:Int)-1).toNat=o.length-1 by lia,dJ];have:((λk:Int=>decide<|o.getD (k-1).toNat 0>o.getD k.toNat 0) ∘ λk:Nat=>(1:Int)+(k:Int))=λi:Nat=>t9 o (i+1):=by
  funext i
  show decide (o.getD ((1:Int)+(i:Int)-1).toNat 0>o.getD ((1:Int)+(i:Int)).toNat 0)=decide _;rw[show((1:Int)+(i:Int)-1).toNat=i+1-1 by lia,show((1:Int)+(i:Int)).toNat=i+1 by lia]
 rw[this];congr 1
 funext i
 show(1:Int)+(i:Int)=((i+1:Nat):Int)
 lia
end He
namespace He
open PySem L2 Am Po
open Fw (Two rg O6)
open Su (t9 Ps cS Gd vS toS adds bx)
abbrev Y (k:Nat)(f:Fn):Fn:=λo t=>X k f o t-dl (f o) t
abbrev Gq (p:Pl)(l:Ps):Ps:=toS<|adds []<|scl p l
def WI(p:Pl)(l:Ps):cS (Gq p l)=LO p (cS l):=by
 funext o t
 unfold Gq;rw[IA,XC]
def WC{n:Nat}{p:Pl}{l:Ps}(pl:∀x∈l,x.1.Perm<|rg n):Cn (Gq p l)/\∀x∈Gq p l,x.1.Perm (rg n):=
 ⟨.toS<|Gd.nil.adds _,Su.t6 (P:=λo=>o.Perm<|rg n) (Su.rE (P:=λo=>o.Perm<|rg n) _ (nofun) λx d=>by
  obtain⟨y,hy,rfl⟩:=aY.mp d;exact pl y hy)⟩
structure Fwd (n:Nat)(W:ag->am):Prop where
 r:∀o,o.Perm (rg n)->Wd.yT (rg n) (W o)
 e:∀o,o.Perm (rg n)->Wd.led (rg n) (W o)=o
end He
namespace He
open PySem L2 Am Po
open Fw (Two rg O6 Dn)
open Su (t9 Ps cS Gd vS toS adds bx)
theorem Sz.Gq{n P c:Nat}{l:Ps}(h:Sz n P C l){p:Pl}(b:PB Q c p):Sz n (P+Q) (p.length * (c * C)) (Gq p l):=by
 obtain⟨f,d⟩:=WC (p:=p) h.pm;exact⟨f,d,by rw[WI];exact h.fb.LO b⟩
end He
namespace Am
open PySem L2 Bl
def aaW{S:jU}{n:Nat}{x:A}{k:Nat}(h:jS S n=some [x])(hk:k<=16777216):yz (.ref n) (.int k) S=.ok (.ref S.length) (S++[.lst<|List.replicate k x]):=by
 show opt (jS S n) _=_;rw[h,j7];have e:(List.replicate k [x]).flatten=List.replicate k x:=by
  induction k with
  | zero=>rfl
  | succ k d=>rw[dD,dF,d ()];rfl
 rw[o6 ⟨(),(),by rw[eN,cU];simpa using hk⟩,cU,e]
def ND{xs:ag}{n:Int}(h:xs.Perm<|mJ 1<|n+1)(hn:0<=n):(xs.length:Int)=n:=by
 rw[h.length_eq,tU];lia
def ER{xs:ag}{n x:Int}(h:xs.Perm<|mJ 1<|n+1)(hx:x∈xs):1<=x/\x<=n:=by
 have:=rQ.mp (h.mem_iff.mp hx)
 lia
end Am
namespace Su
open PySem L2 Am Po
abbrev RB (Q:Nat)(p:Pl):Prop:=∀q∈p,q.1.natAbs<=Q
theorem yP:∀(ps d:Pl) {k:Int},k∈(sG d ps).map Prod.fst->k∈d.map Prod.fst\/k∈ps.map Prod.fst
 | [],_,_,h=>.inl h
 | p::ps,d,k,h=>by
  rcases yP ps (acc d p.1 p.2) (k:=k) h with z|z
  ·have e:(acc d p.1 p.2).map Prod.fst=_:=EJ;rw[e]at z;split at z
   ·exact .inl z
   ·rcases bG.mp z with y|y
    ·exact .inl y
    ·exact .inr<|by rw[aP.mp y];exact aL ..
  ·exact .inr<|aQ _ z
def KW{d:Pl}{q:Int×Int}(h:q∈Lm d):q.1∈d.map Prod.fst:=by
 obtain⟨k,f,rfl⟩:=aY.mp h;exact(sortI_perm _).mem_iff.mp (cA.mp f).1
def RB.plus{a:Pl}(ha:RB Q a)(hb:RB Q b):RB Q (rH a b):=λq hq=>by
 rcases yP _ _ (KW hq)with z|z
 ·cases z
 ·obtain⟨x,d,e⟩:=aY.mp z;rw[<- e];exact(bG.mp d).elim (ha x) (hb x)
theorem RB.times{R:Nat}{a:Pl}(ha:RB Q a)(hb:RB R b):RB (Q+R) (times a b):=λq hq=>by
 rcases yP _ _ (KW hq)with z|z
 ·cases z
 ·obtain⟨x,d,e⟩:=aY.mp z;obtain⟨y,hy,d⟩:=gD.mp d;obtain⟨w,hw,rfl⟩:=aY.mp d;rw[<- e];have:=ha y hy;have:=hb w hw;show(y.1+w.1).natAbs<=_
  lia
def RB.mono{R:Nat}{a:Pl}(h:RB Q a)(hq:Q<=R):RB R a:=λq d=>bJ (h q d) hq
def RB.len{p:Pl}(ok:Ok p)(h:RB Q p):p.length<=2 * Q+1:=by
 have:=He.GQ (a:=-(Q:Int)) (b:=Q) ok.up λq hq=>by have:=h q hq;lia
 lia
def UW{S:jU}{d:Nat}{D:Pl}(hd:mY S d=some (iv D))(hl:D.length<64):∃S',kI [none,some 0] (kY<|ku (f1 xB)<|jR (jQ 0)<|jW) (kB 0) (pR<|j4 (wo true) (j4 zZ (jQ 1)<|jQ 0)<|eC<|.int 0) (pP<|jR (jQ 0)<|jR (j4 zZ (jQ 1)<|jQ 0)<|jW) [.ref d] S=.ok (.ref<|S.length+1) S'/\jS S' (S.length+1)=some (pl<|Lm D)/\kZ S S':=by
 have g:mY (S++[.lst<|(sortI<|D.map Prod.fst).map .int]) d=some (iv D):=XH hd;have p:(S++[O.lst<|(sortI<|D.map Prod.fst).map A.int]).length=S.length+1:=by simp
 have q:xB (.ref d) S=.ok (.ref S.length) (S++[.lst<|(sortI<|D.map Prod.fst).map .int]):=by
  show opt (mY S d) _=_;rw[hd,j7,FW<|show(iv D).length<64 by unfold iv;rw[aG];exact hl,TF]
 have z:=Mb (n:=S.length) (xs:=(sortI<|D.map Prod.fst).map A.int) (cap:=[some 0]) (src:=kY<|ku (f1 xB)<|jR (jQ 0)<|jW) (t:=pR<|j4 (wo true) (j4 zZ (jQ 1)<|jQ 0)<|eC<|.int 0) (e:=pP<|jR (jQ 0)<|jR (j4 zZ (jQ 1)<|jQ 0)<|jW) (τ:=[.ref d]) (S:=S) (S1:=S++[.lst<|(sortI<|D.map Prod.fst).map .int])
  (lN (by dsimp[kC,bools,q]) j9) j9 (λx=>match x with | .int k=>val D k != 0|_=>false) (λx=>match x with | .int k=>pA (k,val D k)|_=>.non) (λx j=>by
   obtain⟨k,f,rfl⟩:=aY.mp j;have f:=(sortI_perm _).mem_iff.mp f;dsimp[kC,bools,KZ,g,EO f];rfl) (λx j _=>by
   obtain⟨k,f,rfl⟩:=aY.mp j;have f:=(sortI_perm _).mem_iff.mp f;dsimp[kC,bools,KZ,g,EO f];exact nZ<|show 2<=16777216 by decide) (by rw[aG,(sortI_perm _).length_eq,aG];lia)
 refine⟨_,z.trans<|by rw[p],?_,Kp.refl.lay.lay⟩;rw[<- p,j9];congr 1;unfold pl Lm;rw[bg,fW,bg];rfl
def Vt{S:jU}{d:Nat}{D:Es}(hd:kc S d=some (D.map kv))(hne:∀e∈D,e.1≠[])(hl:D.length<64):zK (.ref d) S=.ok (.ref S.length) (S++[.lst<|(kR<|D.map Prod.fst).map BE]):=by
 have ek:(D.map kv).map Prod.fst=D.map Prod.fst:=by rw[bg];rfl
 show opt (kc S d) _=_;rw[hd,j7,ek,FW<|Qa (λk f=>by obtain⟨e,g,rfl⟩:=aY.mp f;exact hne e g)<|by rw[aG];exact hl];rfl
abbrev FN (F:ae->jU->R A):Prop:=∀{S:jU}{d r:Nat}{D:Es}{o:ag}{p:Pl}{k b:Nat},kc S d=some (D.map kv)->At S D->Vl k b D->jS S r=some (pl p)->D.length<64->k+p.length<64 ->
  ∃(L:Nat) (f:jU),F [.ref d,.tup<|o.map .int,.ref r] S=.ok .non f/\kc f d=some ((sH D o L<|rH (vS (sm D) o) p).map kv)/\At f (sH D o L<|rH (vS (sm D) o) p)/\S.length<=L/\Kp (·=d) S f
structure Fil3 (T:jU)(d b i j:Nat)(P:Ps)(D:Es):Prop where
 dd:kc T d=some (D.map kv)
 aa:At T D
 ss:sm D=P
 vv:Vl (2 * j+1) b D
 rb:∀e∈D,RB j e.2.2
 kk:∀e∈D,e.1≠[]
 ll:D.length<=i
 pw:Ap D
def Fil3.mono{d:Nat}{P:Ps}{D:Es}(h:Fil3 T d b i j P D)(hi:i<=i'):Fil3 T d b i' j P D:=⟨h.dd,h.aa,h.ss,h.vv,h.rb,h.kk,bJ h.ll hi,h.pw⟩
def Fil3.new{d:Nat}(hd:kc S d=some []):Fil3 S d b 0 j [] []:=⟨hd,(nofun),rfl,(nofun),(nofun),(nofun),aM _,List.Pairwise.nil⟩
def Fil3.wm{d:Nat}{P:Ps}{D:Es}(h:Fil3 S d b i j P D)(k:kZ S T):Fil3 T d b i j P D:=⟨k.dct _ _ (λz=>z) h.dd,h.aa.wm k,h.ss,h.vv,h.rb,h.kk,h.ll,h.pw⟩
def Fil3.add{F:ae->jU->R A}(hF:FN F){T:jU}{d r:Nat}{P:Ps}{D:Es}{o:ag}{p:Pl}(h:Fil3 T d b i j P D)(hr:jS T r=some (pl p))(hp:RB j p)(lp:p.length<=2 * j+1)(ho:o≠[])(hb:b<=T.length)(hl:j<=15)(hi:i<63) :
  ∃(D':Es) (T':jU),F [.ref d,.tup<|o.map .int,.ref r] T=.ok .non T'/\Fil3 T' d b (i+1) j (Aa P o p) D'/\Kp (·=d) T T':=by
 have g:=h.ll;obtain⟨L,T',e,h1,h2,h3,k⟩:=hF (o:=o) h.dd h.aa h.vv hr () ();have B:RB j (vS (sm D) o):=by
  rw[My]
  cases e:fE D o with
  | none=>exact λq hq=>nomatch hq
  | some t=>exact h.rb t (uI e).1
 have rn:=B.plus hp;refine⟨_,T',e,⟨h1,h2,by rw[Qk,h.ss];rfl,λe f=>?_,λe f=>?_,λe f=>?_,?_,h.pw.put λe f z=>by have:=lJ<|h.aa e f;lia⟩,k⟩
 ·rcases uP f with z|z
  ·exact h.vv e z
  ·rw[z];exact⟨AA _ _,RB.len (AA _ _) rn,by show b<=L;lia⟩
 ·rcases uP f with z|z
  ·exact h.rb e z
  ·rw[z];exact rn
 ·rcases uP f with z|z
  ·exact h.kk e z
  ·rw[z];exact ho
 ·have:=KO (D:=D) (o:=o) (r:=L) (p:=rH (vS (sm D) o) p)
  lia
def Be{d n w:Nat}{P:Ps}{es:Es}{src:Ic}{c:Am.Sm}{g:Tg}(Fm:A->A->ae)(G:En->Ps->Ps)(hg:∀(e:En) (y z:A) (T:jU),g (ent e) (Fm y z) T=.ok (Fm (.tup<|e.1.map .int)<|.ref e.2.1) T)
  {x3 x4:A} (hs:src (Fm x3 x4) S=.ok (lU n (es.map ent).length) S1) (hn:jS S1 n=some (es.map ent)) (hd:Fil3 S1 d b i0 j P D0)
  (step:∀(i:Nat) (e:En) (T:jU) (Q:Ps) (D:Es),i<es.length->e∈es->Kp (·=d) S1 T->Fil3 T d b (i0+w * i) j Q D->∃(D':Es) (T':jU),c (Fm (.tup<|e.1.map .int)<|.ref e.2.1) T=.nx (Fm (.tup<|e.1.map .int)<|.ref e.2.1) T'/\Fil3 T' d b (i0+w * (i+1)) j (G e Q) D'/\Kp (·=d) T T') :
  ∃(y3 y4:A) (D:Es) (S':jU),mC src g c (Fm x3 x4) S=.nx (Fm y3 y4) S'/\Fil3 S' d b (i0+w * es.length) j (es.foldl (λQ e=>G e Q) P) D/\Kp (·=d) S1 S':=by
 have k:(es.map ent).length=es.length:=aG ..;refine nK (n:=n) (xs:=es.map ent) (S1:=S1) hs (λi τ T=>(∃y3 y4,τ=Fm y3 y4)/\(∃D,Fil3 T d b (i0+w * i) j ((es.take i).foldl (λQ e=>G e Q) P) D)/\Kp (·=d) S1 T)
  (λr=>∃(y3 y4:A) (D:Es) (S':jU),r=.nx (Fm y3 y4) S'/\Fil3 S' d b (i0+w * es.length) j (es.foldl (λQ e=>G e Q) P) D/\Kp (·=d) S1 S') ⟨⟨_,_,rfl⟩,⟨D0,hd⟩,Kp.refl⟩ (λi τ T h=>h.2.2.lst _ _ (cR<|mW hd.dd hn) hn) ?_ ?_
 ·rintro i z τ T q ⟨⟨y3,y4,rfl⟩,⟨D,f⟩,kp⟩;rw[aO]at q;obtain⟨e,p,rfl⟩:=aW.mp q;refine⟨Fm (.tup<|e.1.map .int)<|.ref e.2.1,T,hg _ _ _ _,.inl ?_⟩;obtain⟨D',T',e1,B,t⟩:=step i e T _ D (aJ.mp p).1 (a_ p) kp f;refine⟨_,T',e1,⟨_,_,rfl⟩,⟨D',?_⟩,kp.trans t⟩;rw[bN,p,dU];exact B
 ·rintro τ T ⟨⟨y3,y4,rfl⟩,⟨D,f⟩,kp⟩;rw[k,bT]at f;exact⟨y3,y4,D,T,rfl,f,kp⟩
end Su
namespace He
open Su Po
open Fw (rg)
def aa1:∀n,n<5->(arr n<|rg n).length<=24:=by decide +kernel
def Sz.m24{n P:Nat}{l:Ps}(hn:n<5)(h:Sz n P C l):l.length<=24:=by
 have:(l.map Prod.fst).length<=24:=bJ (BS h.cn.gd.nd λo f=>by obtain⟨e,d,rfl⟩:=aY.mp f;exact Dp (h.pm e d)<|Wd.mO n) (aa1 n hn)
 rwa [aG]at this
def Sz.rb{n P:Nat}{l:Ps}(h:Sz n P C l){e:ag×Pl}(he:e∈l):RB P e.2:=(h.pb he).1.p
end He
namespace K68
open PySem L2 Am
abbrev Bag (S:jU)(b:Nat):Prop:=∃g st:Int,jS S b=some [.int g,.int st]/\0<=g/\0<=st/\st<4294967296
def SN{ns:ag}{k:Int}(h0:0<=k):∃c,rG [.frz<|ns.map .int,.int k] S=.ok (.int c) S:=by
 unfold rG wL wU;dsimp[kC,bools,nq,Nat.reduceAdd,Nat.reduceSub,aG];by_cases d:k<(ns.length:Int)
 ·have hn:k.toNat<ns.length:=()
  have ha:uY (ns.map A.int) k=some (.int ns[k.toNat]):=Eh (k:=k.toNat) ()<|aI hn;rw[bf d];dsimp[kC,bools,ha];exact⟨_,rfl⟩
 ·rw[bz d];dsimp[kC,bools];exact⟨_,rfl⟩
def Vv{S:jU}{c k:Int}(h0:0<=k)(h1:k<=100):∃S',t7 [.int c,.int k] S=.ok (.ref S.length) S'/\Bag S' S.length/\kZ S S':=by
 have e3:Zc (.int 10) (.int 18)=λS=>R.ok (.int 1000000000000000000) S:=by
  funext S;exact o6 ⟨by decide,by decide,by decide⟩
 have d:∀x:Int,CP (.int x) (.int 2147483647)=λS=>R.ok (.int<|x % 2147483647) S:=λx=>by funext S;exact Fg ⋯
 have f:∀x:Int,yz (.int x) (.int 69621)=λS=>R.ok (.int<|x * 69621) S:=λx=>by funext S;exact mul_r ⋯ ⋯
 have g:∀x:Int,yz (.int 7919) (.int x)=λS=>R.ok (.int<|7919 * x) S:=λx=>by funext S;exact Qx ⋯ ⋯
 have p:∀x:Int,0<=x % 2147483647:=λx=>ja _ ⋯;have q:∀x:Int,x % 2147483647<4294967296:=λx=>by have:=gQ x (show(0:Int)<2147483647 by decide);lia
 have t:0<=(if c<0 then -c else c):=by split<;>lia
 unfold t7 yi yv;dsimp[kC,bools,nq,Nat.reduceAdd,Nat.reduceSub,e3,d,f,g];by_cases j:(if c<0 then -c else c)<1000000000000000000
 ·rw[bf j];dsimp[kC,bools,e3,d,f,g];exact⟨_,rfl,⟨_,_,j9,Int.le_refl 0,p _,q _⟩,Kp.refl.lay⟩
 ·rw[bz j];dsimp[kC,bools,e3,d,f,g];exact⟨_,rfl,⟨_,_,j9,t,p _,q _⟩,Kp.refl.lay⟩
def Se{S:jU}{g st:Int}(hl:jS S b=some [.int g,.int st])(hs:0<=st)(hs2:st<4294967296):∃d st',oW [.ref b] S=.ok (.int d) (S.set b<|.lst [.int g,.int st'])/\0<=st'/\st'<4294967296:=by
 have hb:=lJ hl;have f:Em 2 1=some 1:=yS rfl ⋯;have e1:0<=(st * 48271+11) % 2147483647:=ja _ ⋯;have e2:(st * 48271+11) % 2147483647<2147483647:=gQ _ ⋯;refine⟨(st * 48271+11) % 2147483647 * 16807 % 2147483629 / 8,(st * 48271+11) % 2147483647,?_,e1,()⟩;unfold oW vP vm;rw[xO];simp[hl,wH,Px,f,Qx (show -18446744073709551616<st by lia) (),Fg<|show(0:Int)<2147483647 by decide,pB hb,QT (show(0:Int)<8 by decide) ⋯,Qx (show -18446744073709551616<(st * 48271+11) % 2147483647 by lia) (),Fg<|show(0:Int)<2147483629 by decide]
def digit{m:Int}(h:Bag S b)(h1:1<=m)(h2:m<=1000):∃d S',ng [.ref b,.int m] S=.ok (.int d) S'/\0<=d/\d<m/\Bag S' b/\Kp (·=b) S S':=by
 obtain⟨g,st,t,hg,hs,j⟩:=h;have hb:=lJ t;have C:Em 2 0=some 0:=yS rfl ⋯;have k:∀d q f:Int,0<=d->d<m->0<=q->0<=f->f<4294967296->ng [.ref b,.int m] S=.ok (.int d) (S.set b<|.lst [.int q,.int f])->∃d S',ng [.ref b,.int m] S=.ok (.int d) S'/\0<=d/\d<m/\Bag S' b/\Kp (·=b) S S':=
  λd q f z F K L G e=>⟨d,_,e,z,F,⟨q,f,pB hb,K,L,G⟩,Kp.refl.set<|.inl rfl⟩
 by_cases p:0<g
 ·refine k (g % m) (g / m) st (ja _ ()) (gQ _ ()) (Int.ediv_nonneg hg ()) hs j ?_;unfold ng sN sL;rw[xO];simp[t,wH,Px,p,Fg<|show 0<m by lia,QT (show 0<m by lia)<|show m<1073741824 by lia,C]
 ·obtain⟨d,f,e1,J,B⟩:=Se t hs j;refine k (d % m) g f (ja _ ()) (gQ _ ()) hg J B ?_;unfold ng sN sL;rw[xO];simp[t,wH,Px,p,Fg<|show 0<m by lia,e1,show ¬(1000<m)by lia]
open Po (Pl Ok Bd)
def Rm{S:jU}{d:Nat}{D:Pl}(hd:mY S d=some (Po.iv D))(hl:D.length<64):∃S',l8 [.ref d] S=.ok (.ref<|S.length+1) S'/\jS S' (S.length+1)=some (Po.pl<|Po.Lm D)/\kZ S S':=by
 obtain⟨S',e,h1,h2⟩:=Su.UW hd hl;refine⟨S',?_,h1,h2⟩;unfold l8 qJ qK;dsimp[kC,bools,nq,Nat.reduceAdd,Nat.reduceSub];rw[show kI [none,some 0] _ _ _ _ _ _=_ from e];rfl
def UM{S:jU}{n:Nat}{a b:Pl}(hn:jS S n=some (Po.pl a))(hm:jS S m=some (Po.pl b))(ha:Ok a)(hl:a.length+b.length<64) :
  ∃(L:Nat) (S':jU),An [.ref n,.ref m] S=.ok (.ref L) S'/\jS S' L=some (Po.pl<|Po.rH a b)/\S.length<=L/\kZ S S':=by
 have g:mY (S++[.qQ<|Po.iv a]) S.length=some (Po.iv a):=Hz;obtain⟨j,p,T,e,f,kp⟩:=U8 (S:=S++[.qQ<|Po.iv a]) (S1:=S++[.qQ<|Po.iv a]) (x0:=.ref n) (x1:=.ref m) (x3:=.unb) (x4:=.unb) (src:=xY) (l:=b) (show xY _ _=_ from lN (by dsimp[kC,bools])<|lA hm) (lA hm) g ();have k:=Po.vf b a;obtain⟨S',e2,h1,h2⟩:=Rm f ();have d:kZ S T:=(Kp.refl.lay (o:=.qQ<|Po.iv a)).old kp λq hq _ z=>()
 refine⟨T.length+1,S',?_,by rw[h1,<- Po.Uy ha];rfl,by have:=d.len;lia,d.trans h2⟩;unfold An GO HN;dsimp[kC,bools,nq,Nat.reduceAdd,Nat.reduceSub,B7,hn,Po.RN,Po.Lf,Po.JI ha];rw[show mC xY _ FL _ _=_ from e];dsimp[kC,bools,e2]
def yK(f:Int×Int->A)(hf:∀p τ S,Sj (f p) τ S=Sj (Po.pA p) τ S){S:jU}{n:Nat}{a b:Pl}(hn:jS S n=some (a.map f))(hm:jS S m=some (Po.pl b))(hl:a.length * b.length<64)(ha:∀p∈a,p.2.natAbs<big)(hb:∀p∈b,p.2.natAbs<big) :
  ∃(L:Nat) (S':jU),sO [.ref n,.ref m] S=.ok (.ref L) S'/\jS S' L=some (Po.pl<|Po.times a b)/\S.length<=L/\kZ S S':=by
 have j:mY (S++[.qQ []]) S.length=some []:=Hz;obtain⟨C,B,F,t,T,e,k,kp⟩:=G7 f hf (S:=S++[.qQ []]) (x3:=.unb) (x4:=.unb) (x5:=.unb) (x6:=.unb) (lA hn) (lA hm) j () ha hb;have g:=Po.vf (Po.Ka a b) [];rw[Po.Jl,ez,cC]at g;obtain⟨S',e2,h1,h2⟩:=Rm k ();have d:kZ S T:=(Kp.refl.lay (o:=.qQ [])).old kp λq hq _ z=>()
 refine⟨T.length+1,S',?_,h1,by have:=d.len;lia,d.trans h2⟩;unfold sO D6 D9;dsimp[kC,bools,nq,Nat.reduceAdd,Nat.reduceSub,Mv];rw[show mC Ci _ Co _ _=_ from e];dsimp[kC,bools,e2]
def AH{S:jU}{n:Nat}{a b:Pl}(hn:jS S n=some (Po.pl a))(hm:jS S m=some (Po.pl b))(hl:a.length * b.length<64)(ha:∀p∈a,p.2.natAbs<big)(hb:∀p∈b,p.2.natAbs<big) :
  ∃(L:Nat) (S':jU),sO [.ref n,.ref m] S=.ok (.ref L) S'/\jS S' L=some (Po.pl<|Po.times a b)/\S.length<=L/\kZ S S':=yK Po.pA (λ_ _ _=>rfl) hn hm hl ha hb
end K68
namespace K68
open PySem L2 Am
open Po (Pl Ok Bd)
open Su (Es At Vl)
def Xe{S:jU}{d r:Nat}{D:Es}{o:ag}{p:Pl}{k:Nat}(hd:kc S d=some (D.map Su.kv))(hA:At S D)(hv:Vl k b D)(hr:jS S r=some (Po.pl p))(hl:D.length<64)(hk:k+p.length<64) :
  ∃(L:Nat) (S':jU),lO [.ref d,.tup<|o.map .int,.ref r] S=.ok .non S'/\kc S' d=some ((Su.sH D o L<|Po.rH (Su.vS (Su.sm D) o) p).map Su.kv)/\At S' (Su.sH D o L<|Po.rH (Su.vS (Su.sm D) o) p)/\S.length<=L/\Kp (·=d) S S':=by
 obtain⟨x,ex,q⟩:=Su.get_or (o:=o) hd hA;have t:=hv.v o;obtain⟨L,S2,e2,h1,h2,F⟩:=UM q (lA (o:=.lst []) hr) t.1 ();have j:kZ S S2:=(Kp.refl.lay).trans F;have f:=j.dct _ _ (λz=>z) hd;have g:kc (S++[.lst []]) d=some (D.map Su.kv):=Su.C5 hd;refine⟨L,S2.set d<|.dct<|(Su.sH D o L<|Po.rH (Su.vS (Su.sm D) o) p).map Su.kv,?_,Su.DK<|Su.sC f,?_,by simp at h2;lia,j.of0.pT<|.inl rfl⟩
 ·unfold lO uh uK;have B:newL [] S=.ok (.ref S.length) (S++[.lst []]):=mR (show 0<=16777216 by decide);dsimp[kC,bools,nq,Nat.reduceAdd,Nat.reduceSub,Su.JK,Su.KH,hd,fY,B,Su.Jc,g,ex,e2,Su.xW,Su.rK,f,pJ<|show(D.map Su.kv).length<16777216 by rw[aG];lia,Su.QW (p:=Po.rH (Su.vS (Su.sm D) o) p)]
 ·refine(Su.At.put (hA.wm j) h1).kp (Kp.refl.pT<|.inl rfl) λe C z=>?_
  rcases Su.uP C with y|y
  ·exact Su.mW hd (hA e y) z
  ·rw[y]at z;exact Su.mW f h1 z
def Hf{S:jU}{d:Nat}{D:Es}(hd:kc S d=some (D.map Su.kv))(hA:At S D)(hne:∀e∈D,e.1≠[])(hl:D.length<64) :
  ∃(n:Nat) (S':jU),pC [.ref d] S=.ok (.ref n) S'/\jS S' n=some ((Su.wO D λp=>!p.isEmpty).map Su.ent)/\At S' (Su.wO D λp=>!p.isEmpty)/\S.length<n/\kZ S S':=by
 have k:=Su.Vt hd hne hl;obtain⟨n,S',e,h1,h2,h3,j⟩:=Su.Py (cap:=[some 0]) (τ:=[.ref d]) (src:=kY<|ku (f1 zK)<|jR (jQ 0)<|jW) (t:=tB<|j4 sS (jQ 1)<|jQ 0) (e:=pP<|jR (jQ 0)<|jR (j4 sS (jQ 1)<|jQ 0)<|jW) hd hA (lN (by dsimp[kC,bools,k]) j9) (λp=>!p.isEmpty)
  (λo r q T g f B=>⟨T,by
   have z:A.VB (.ref r) T=some (!q.isEmpty):=by
    show(jS T r).map _=_;rw[B]
    cases q<;>rfl
   dsimp[kC,bools,Su.BE,Su.zF,g,f,z],Kp.refl⟩)
  (λo r T g f=>by
   dsimp[kC,bools,Su.BE,Su.zF,g,f];exact nZ<|show 2<=16777216 by decide) ()
 refine⟨n,S',?_,h1,h2,h3,j⟩;unfold pC Ac Af;dsimp[kC,bools,nq,Nat.reduceAdd,Nat.reduceSub,e]
def yb:Su.FN lO:=λh1 h2 h3 f d g=>Xe h1 h2 h3 f d g
open Po (Pl Ok Bd)
open Su (Es At Vl)
structure Sm (S:jU)(n:Nat)(es:Es):Prop where
 l:jS S n=some (es.map Su.ent)
 a:At S es
def Sm.kp{n:Nat}(h:Sm S n es)(k:kZ S S'):Sm S' n es:=⟨k.lst _ _ (λz=>z) h.l,h.a.wm k⟩
def CJ{a b:ag}(h:a.length=b.length):qw [.tup<|a.map .int,.tup<|b.map .int] S=.ok .non S:=by
 unfold qw vK u5;have:((a.length:Int) == (b.length:Int))=true:=by rw[h];exact c5 _
 dsimp[kC,l6,bools,nq,Nat.reduceAdd,Nat.reduceSub,aG,this,b7]
def Cj{n:Nat}{xs:ae}(h:jS S n=some xs):A.VB (.ref n) S=some (!xs.isEmpty):=by
 show(jS S n).map _=_;rw[h];rfl
def Eb{n N:Nat}{es fs:Es}(h:Sm S n es)(h':Sm S m fs)(h1:∀e∈es,e.1.length=N)(h2:∀e∈fs,e.1.length=N):qx [.ref n,.ref m] S=.ok .non S:=by
 unfold qx vg vB;dsimp[kC,l6,bools,nq,Nat.reduceAdd,Nat.reduceSub,Cj h.l,Cj h'.l]
 cases es with
 | nil=>dsimp[kC,l6,bools,fP,jB,b7]
 | cons e es=>cases fs with
  | nil=>dsimp[kC,l6,bools,fP,jB,b7,bC,jv,dc,Cj h'.l]
  | cons f fs=>
   have q:=CJ (S:=S)<|(h1 e<|aL ..).trans (h2 f<|aL ..).symm;have g:=h.l;have d:=h'.l;rw[bC]at g d;dsimp[kC,l6,bools,bC,jv,dc,Cj d,g,d,wH,Su.ent,q]
def ixD{l:ag}{k:Nat}{i:Int}(h:i=k)(hk:k<l.length):uY (l.map A.int) i=some (.int<|l.getD k 0):=Eh h<|by rw[aK,aI hk];rfl
def TM{l:ag}{k:Nat}:((l.map A.int).set (k-1)<|.int<|l.getD k 0).set k (.int<|l.getD (k-1) 0)=(Wd.ex l k).map A.int:=by
 unfold Wd.ex;rw[jH,jH]
def ac8{f g:A->A->jU->R A}{ca cb cc:Ex}{a c:A}(h1:ca τ S=.ok a S)(h2:cb τ S=.ok b S)(h3:f a b S=.ok (.bl true) S)(h4:cc τ S=.ok c S):ZE f g ca cb cc τ S=g b c S:=by
 unfold ZE;rw[h1,R.m9,h2,R.m9,h3,R.m9];unfold kCh;show(cc τ S).bind _=_;rw[h4];rfl
def Rz{i:Int}:oU [.int i] S=.ok (.bl true) S:=by
 unfold oU wM wW;dsimp[kC,bools,nq,Nat.reduceAdd,Nat.reduceSub,show Mz .int "int" = some true from rfl,show Mz .int "bool" = some false from rfl,dc]
def ab1{n k:Int}(h1:1<=k)(h2:k<n):oA [.int n,.int k] S=.ok (.bl true) S:=by
 unfold oA tD sU;have c:ZE aLe WX (eC<|.int 1) (jQ 1) (jQ 0) [.int n,.int k] S=.ok (.bl true) S:=by
  rw[ac8 (a:=.int 1) (b:=.int k) (c:=.int n) rfl rfl (by dsimp[kC,bf h1]) rfl];dsimp[kC,bf h2]
 dsimp[kC,bools,nq,Nat.reduceAdd,Nat.reduceSub,Rz,c]
def Le{xs:ag}{k:Nat}(h1:1<=k)(h2:k<xs.length)(hl:xs.length<=1000):∃S',nN [.tup<|xs.map .int,.int k] S=.ok (.tup<|(Wd.ex xs k).map .int) S'/\kZ S S':=by
 have e1:=ab1 (S:=S) (n:=(xs.length:Int)) (k:=(k:Int)) () ();have f:uY (xs.map A.int) (k:Int)=some (.int<|xs.getD k 0):=ixD rfl ();have d:uY (xs.map A.int) ((k:Int)-1)=some (.int<|xs.getD (k-1) 0):=ixD (k:=k-1) () ();have j:Em xs.length ((k:Int)-1)=some (k-1):=yS () ();have q:Em xs.length (k:Int)=some k:=yS rfl ();have p:jS (S++[O.lst<|xs.map .int]) S.length=some (xs.map .int):=j9;have g:∀ys,jS ((S++[O.lst<|xs.map .int]).set S.length<|.lst ys) S.length=some ys:=λys=>pB (by simp);have e2:mG [.tup<|xs.map .int,.int k,.int<|(k:Int)+1] S=.ok (.tup<|(Wd.ex xs k).map .int) (((S++[O.lst<|xs.map .int]).set S.length<|.lst<|(xs.map A.int).set (k-1)<|.int<|xs.getD k 0).set S.length<|.lst<|(Wd.ex xs k).map .int):=by
  unfold mG oR oQ;dsimp[kC,bools,nq,Nat.reduceAdd,Nat.reduceSub,p,show(k:Int)+1-1=k by lia,f,d,o6<|show 2<=sizeLine by decide,o6<|show 2=2 from rfl,aG,j,g,bU,q,TM];rw[pB<|by simp];dsimp[kC,bools]
 unfold nN u0 vc;dsimp[kC,l6,bools,nq,Nat.reduceAdd,Nat.reduceSub,aG,e1,b7,e2];exact⟨_,rfl,((Kp.refl.lay).set<|.inr<|aM _).set<|.inr<|aM _⟩
def ixG{xs:ag}{i:Int}(h1:0<=i)(h2:i<xs.length):uY (xs.map A.int) i=some (.int<|xs.getD i.toNat 0):=ixD (k:=i.toNat) () ()
abbrev fl (xs:ag)(n:Nat):ag:=(mJ 1 (n:Int)).filter λk=>decide<|xs.getD (k-1).toNat 0>xs.getD k.toNat 0
def uZ{S:jU}{n:Nat}{xs:ag}(hlen:xs.length=n)(h2:n<=20):m8 [.tup<|xs.map .int] S=.ok (.ref S.length) (S++[.lst<|(fl xs n).map .int]):=by
 have d:=AB (lo:=1) (hi:=(n:Int)) (cap:=[some 0]) (src:=wJ (eC<|.int 1)<|ku (f1 qU)<|jR (jQ 0)<|jW) (t:=pR<|j4 MJ (j4 pS (jQ 1)<|j4 aSub (jQ 0)<|eC<|.int 1)<|j4 pS (jQ 1)<|jQ 0) (e:=jQ 0) (τ:=[.tup<|xs.map .int]) (S:=S) (S1:=S)
  (Av (S1:=S) (by dsimp[kC,bools]) (by dsimp[kC,bools,aG,hlen]) (uv () ())<|uv () ())
  (λk=>decide<|xs.getD (k-1).toNat 0>xs.getD k.toNat 0) (λk=>.int k) (λk h1 h2=>by
   have f:uY (xs.map A.int) (k-1)=some (.int<|xs.getD (k-1).toNat 0):=ixG () ();have g:uY (xs.map A.int) k=some (.int<|xs.getD k.toNat 0):=ixG () ();dsimp[kC,bools,f,g]) (λk _ _ _=>by dsimp[kC,bools]) ()
 unfold m8 C2 DO;dsimp[kC,bools,nq,Nat.reduceAdd,Nat.reduceSub,d];rfl
theorem xD{t:Int}:∀(p:ag),VR S (.int t) (p.map .int)=some (decide<|t∈p)
 | []=>rfl
 | x::p=>by
  show(yg S 12 (.int x)<|.int t).bind (λa=>(VR S (.int t)<|p.map .int).map λb=>a || b)=_;rw[xD p];show some ((x == t) || decide (t∈p))=_;by_cases c:x=t
  ·subst c;rw[c5,bf (show x∈x::p from aL ..)];rfl
  ·rw[c6.mpr c];congr 1;rw[f9,fL];constructor
   ·exact λz=>aQ _ z
   ·intro z
    rcases bH.mp z with z|z
    ·exact absurd z.symm c
    ·exact z
open Po (Pl Ok Bd)
open Su (Es At Vl AF)
def JW{o:ag}{N k:Nat}(hl:o.length=N)(h1:1<=k)(h2:k<N):decide ((k:Int)∈fl o N)=Su.t9 o k:=by
 unfold fl Su.t9;rw[fL,cA,rQ,iF,show((k:Int)-1).toNat=k-1 by lia,cU];constructor
 ·exact λh=>h.2
 ·exact λh=>⟨⟨(),()⟩,h⟩
def Uk{S:jU}{n N k P:Nat}{es:Es}(h:Sm S n es)(h1:∀e∈es,e.1.length=N/\(e.2.2.length<=2 * P+1/\Su.RB P e.2.2)/\∀p∈e.2.2,p.2.natAbs<big)(k1:1<=k)(k2:k<N)(hN:N<=20)(hl:P<=14)(hl':es.length<=24) :
  ∃(L:Nat) (S':jU) (rs:Es),nI [.ref n,.int k] S=.ok (.ref L) S'/\Sm S' L rs/\Su.sm rs=Su.bx k (Su.sm es)/\(∀e∈rs,Ok e.2.2/\e.2.2≠[]/\S.length<=e.2.1/\e.2.1<L)/\Su.Ap rs/\rs.length<=2 * es.length/\S.length<=L/\kZ S S':=by
 have k0:kZ S (S++[.dct []]):=Kp.refl.lay;have K:Su.RB 1 AF:=λp hp=>by
  rcases bH.mp hp with z|z
  ·rw[z];exact aM _
  ·rw[aP.mp z];exact aM _
 obtain⟨y3,y4,D,T,e1,f,kp⟩:=Su.Be (w:=2) (j:=1+P) (b:=S.length) (i0:=0) (S:=S++[.dct []]) (S1:=S++[.dct []]) (d:=S.length) (n:=n) (es:=es) (src:=oG) (c:=nF) (g:=Bs 2<|tP (kB 3)<|tP (kB 4)<|Br) (λy z=>[.ref n,.int k,.ref S.length,y,z]) (Su.gX k) (λ_ _ _ _=>rfl) (x3:=.unb) (x4:=.unb)
  (show oG _ _=_ from lN (by dsimp[kC,bools])<|lA h.l) (lA h.l) (Su.Fil3.new Su.nX) λi e T Q D hi J M f=>by
   obtain⟨V,b2,b3⟩:=h1 e J;have tl:=M.len;rw[aX]at tl;obtain⟨T0,e0,W⟩:=Le (S:=T) (xs:=e.1) (k:=k) k1 () ();have aT:=((h.a.wm k0).Ms M Su.nX).wm W;have f0:=f.wm W;have qtl:=W.len;rw[cC]at f0;have Y:Wd.ex e.1 k≠[]:=λz=>by have:=Wd.Dz e.1 k;rw[z]at this;simp at this;lia
   obtain⟨D1,T1,e1,f1,B⟩:=f0.add yb (o:=Wd.ex e.1 k) (aT e J) (b2.2.mono ()) () Y () () ();have k1l:=B.len;have fo:=uZ (S:=T1) (xs:=e.1) (n:=N) V hN;have t:Bu false (.int k) (.ref T1.length) (T1++[.lst<|(fl e.1 N).map .int])=.ok (.bl<|Su.t9 e.1 k) (T1++[.lst<|(fl e.1 N).map .int]):=by
    show opt (jS _ _) _=_;rw[j9,j7,xD,JW V k1 k2];rfl
   have G:kZ T1 (T1++[.lst<|(fl e.1 N).map .int]):=Kp.refl.lay;obtain⟨U,hU⟩:∃U,U=T1++[O.lst<|(fl e.1 N).map .int]:=⟨_,rfl⟩;rw[<- hU]at t G fo;have fU:=f1.wm G;have F:Kp (·=S.length) T U:=(W.of0.trans B).trans G.of0
   cases hf:Su.t9 e.1 k with
   | false=>
    refine⟨D1,U,?_,?_,F⟩
    ·rw[hf]at t;unfold nF;dsimp[kC,l6,bools,e0,e1,fo,t]
    ·rw[cC];unfold Su.gX;rw[hf,aR<|by simp];exact fU.mono ()
   | true=>
    have aU:=(aT.Ms B f0.dd).wm G;have n0:jS (U++[.lst<|AF.map kA]) U.length=some (AF.map kA):=j9;obtain⟨L,T2,e2,l1,l2,Z⟩:=yK kA (λ_ _ _=>rfl) n0 (lA (o:=.lst<|AF.map kA)<|aU e J) (show 2 * e.2.2.length<64 by lia) (λp hp=>by
     rw[zz]
     rcases bH.mp hp with z|z
     ·rw[z];exact show 1<2 ^ 4096 by decide +kernel
     ·rw[aP.mp z];exact show 1<2 ^ 4096 by decide +kernel) b3
    have C:kZ U T2:=(Kp.refl.lay).trans Z;have tl2:=C.len;have tle:=G.len;obtain⟨D2,T3,e3,f3,k3'⟩:=(fU.wm C).add yb (o:=e.1) l1 (Su.RB.times K b2.2) (Su.RB.len (Po.AH _ _)<|Su.RB.times K b2.2) (λz=>by rw[z]at V;simp at V;lia) () () ();refine⟨D2,T3,?_,?_,(F.trans C.of0).trans k3'⟩
    ·rw[hf]at t;unfold nF;dsimp[kC,l6,bools,e0,e1,fo,t];rw[show[((-1:Int),(1:Int)),((1:Int),(-1:Int))].map kA=AF.map kA from rfl];dsimp[kC,l6,bools,e2,e3]
    ·rw[cC];unfold Su.gX;rw[hf,aV rfl];exact f3
 have M:kZ S T:=k0.old kp λq hq _ z=>()
 have fl:=f.ll;rw[cC]at fl;obtain⟨L,S',e2,r1,r2,r3,r4⟩:=Hf f.dd f.aa f.kk ();have tl:=M.len;have fs:=f.ss;rw[Su.IL]at fs;refine⟨L,S',_,?_,⟨r1,r2⟩,by rw[Su.C1,fs];rfl,λe J=>?_,f.pw.out _,?_,(),M.trans r4⟩
 ·unfold nI s_ sR;dsimp[kC,l6,bools,nq,Nat.reduceAdd,Nat.reduceSub,Su.xK];rw[show mC oG _ nF _ _=_ from e1];dsimp[kC,l6,bools,e2]
 ·obtain⟨m1,m2⟩:=Su.D5 J;obtain⟨v1,v2,v3⟩:=f.vv e m1;have lt:=lJ<|f.aa e m1;exact⟨v1,λz=>(by rw[z]at m2;cases m2),v3,()⟩
 ·unfold Su.wO;rw[aG];refine bJ (c9 _ _) ?_;rw[(kN _).length_eq,aG];exact fl
end K68
namespace K68
open PySem L2 Am
open Po (Pl Ok Bd)
open Su (Es At Vl AF)
open He (Sz)
open Fw (rg)
def Sm.Ms{n d:Nat}(h:Sm S n es)(k:Kp (·=d) S S')(hd:kc S d=some kvs):Sm S' n es:=⟨k.lst _ _ (λz=>Su.mW hd h.l z.symm) h.l,h.a.Ms k hd⟩
def pN{N:Nat}{o:ag}(h:o.Perm<|rg N):o.length=N:=by rw[h.length_eq,Wd.mO]
def n5{es:Es}{l:Su.Ps}(h:Su.sm es=l){e:Su.En}(he:e∈es):(e.1,e.2.2)∈l:=by rw[<- h];exact aY.mpr ⟨e,he,rfl⟩
structure Kn (N:Nat)(Φ:ag->Su.Ps)(T:jU)(d:Nat)(K:Es):Prop where
 dd:kc T d=some (K.map Su.kv)
 gd:Su.Gd (Su.sm K)
 pm:∀e∈K,e.1.Perm (rg N)
 at_:∀e∈K,∃es:Es,Sm T e.2.1 es/\Su.sm es=Φ e.1
def Kn.wm{N d:Nat}{Φ:ag->Su.Ps}{K:Es}(h:Kn N Φ T d K)(k:kZ T T'):Kn N Φ T' d K:=⟨k.dct _ _ (λz=>z) h.dd,h.gd,h.pm,λe f=>by obtain⟨es,a,b⟩:=h.at_ e f;exact⟨es,a.kp k,b⟩⟩
def Kn.many{N d:Nat}{Φ:ag->Su.Ps}{K:Es}(hN:N<6)(h:Kn N Φ T d K):K.length<=120:=by
 have:=He.many hN h.gd.nd λo j=>by
  obtain⟨e,g,rfl⟩:=aY.mp j;obtain⟨f,hf,rfl⟩:=aY.mp g;exact h.pm f hf
 rwa [aG,Su.Bj]at this
def Xl:Ok []:=⟨List.Pairwise.nil,nofun⟩
def Kn.put{N d r:Nat}{Φ:ag->Su.Ps}{K:Es}{o:ag}(hN:N<6)(h:Kn N Φ T d K)(po:o.Perm<|rg N)(hr:Sm T r es)(he:Su.sm es=Φ o) :
  ∃T' K',n9 (.ref d) (.tup<|o.map .int) (.ref r) T=.ok Unit.unit T'/\Kn N Φ T' d K'/\sS (.ref d) (.tup<|o.map .int) T'=.ok (.ref r) T'/\Sm T' r es/\Kp (·=d) T T':=by
 have k:Kp (·=d) T (T.set d<|.dct<|(Su.sH K o r []).map Su.kv):=Kp.refl.pT<|.inl rfl;have dd:kc (T.set d<|.dct<|(Su.sH K o r []).map Su.kv) d=some ((Su.sH K o r []).map Su.kv):=Su.DK<|Su.sC h.dd;obtain⟨e,e1,e2⟩:=Su.Mn (D:=K) (o:=o) (r:=r) (p:=[]);have g:=h.many hN;refine⟨_,Su.sH K o r [],?_,⟨dd,?_,λe he=>?_,λe f=>?_⟩,?_,hr.Ms k h.dd,k⟩
 ·rw[Su.rK,h.dd,j7,Su.QW (p:=[])];exact pJ (show(K.map Su.kv).length<16777216 by rw[aG];lia)
 ·rw[Su.Qk];exact h.gd.put Xl
 ·rcases Su.uP he with z|z
  ·exact h.pm e z
  ·rw[z];exact po
 ·rcases Su.uP f with z|z
  ·obtain⟨fs,a,b⟩:=h.at_ e z;exact⟨fs,a.Ms k h.dd,b⟩
  ·rw[z];exact⟨es,hr.Ms k h.dd,he⟩
 ·rw[Su.zF,dd,j7,Su.wc,e1,fY,j7,e2]
def Nq{d:Nat}{o:ag}:L8 true (.tup<|o.map .int) (.ref d) S=opt (kc S d) λkvs=>.ok (.bl<|!(kW kvs o).isSome) S:=by
 show opt (kc S d) (λkvs=>opt (A.ints<|o.map .int) λns=>_)=_;rw[ints_map];rfl
open Po (Pl Ok Bd)
open Su (Es At Vl)
open He (Sz)
structure Nw (b L:Nat)(rs:Es):Prop where
 ap:Su.Ap rs
 nw:∀e∈rs,b<=e.2.1/\e.2.1<L
def Yo{S:jU}{n N P c:Nat}{fs:Es}(hN:N<5)(h0:1<=N)(h:Sm S n es)(h':Sm S m fs)(hz:Sz N P C<|Su.sm es)(hz':Sz N P c<|Su.sm fs)(hP:P<=15) :
  ∃(L:Nat) (S':jU) (rs:Es),uS [.ref n,.ref m] S=.ok (.ref L) S'/\Sm S' L rs/\Su.sm rs=He.Bk (Su.sm es) (Su.sm fs)/\Nw S.length L rs/\S.length<=L/\kZ S S':=by
 have M:=Eb h h' (λe k=>pN<|hz.pm _<|n5 rfl k) λe k=>pN<|hz'.pm _<|n5 rfl k;have t:=hz.m24 hN;have G:=hz'.m24 hN;rw[Su.Bj]at t G;have hle:(es++fs).length=es.length+fs.length:=aX ..;have U:jS (S++[.dct []]) n=some (es.map Su.ent):=lA h.l;have K:jS (S++[.dct []]) m=some (fs.map Su.ent):=lA h'.l;have J:=Jq U K (by rw[aG,aG];lia);rw[<- bu]at J;have B:kZ S (S++[.dct []]++[.lst<|(es++fs).map Su.ent]):=Kp.refl.lay.lay;have V:∀e∈es++fs,(Su.RB P e.2.2/\e.2.2.length<=2 * P+1)/\e.1≠[]:=λe k=>by
  have:e.1.length=N/\Su.RB P e.2.2/\e.2.2.length<=2 * P+1:=(bG.mp k).elim (λz=>⟨pN<|hz.pm _<|n5 rfl z,hz.rb<|n5 rfl z,(hz.pb<|n5 rfl z).2⟩) λz=>⟨pN<|hz'.pm _<|n5 rfl z,hz'.rb<|n5 rfl z,(hz'.pb<|n5 rfl z).2⟩;exact⟨this.2,λz=>by rw[z]at this;have:=this.1;simp at this;lia⟩
 obtain⟨y3,y4,D,T,e1,f,kp⟩:=Su.Be (w:=1) (j:=P) (b:=S.length) (i0:=0) (S:=S++[.dct []]) (S1:=S++[.dct []]++[.lst<|(es++fs).map Su.ent]) (d:=S.length) (src:=vU) (c:=vY) (g:=Bs 2<|tP (kB 3)<|tP (kB 4) Br) (es:=es++fs) (λy z=>[.ref n,.ref m,.ref S.length,y,z]) (λe Q=>Su.Aa Q e.1 e.2.2) (λ_ _ _ _=>rfl) (x3:=.unb) (x4:=.unb)
  (show vU _ _=_ from lN (by dsimp[kC,bools,J]) j9) j9 (Su.Fil3.new<|Su.C5 Su.nX) λi e T Q D hi k p f=>by
   have aT:=((h.a.app h'.a).wm B).Ms p<|Su.C5 Su.nX;have W:=p.len;have k0l:=B.len;rw[cC,fM]at f;rw[cC,fM];obtain⟨F,O⟩:=V e k;obtain⟨D',T',x1,Z,Y⟩:=f.add yb (o:=e.1) (aT e k) F.1 F.2 O () hP ();exact⟨D',T',by unfold vY;dsimp[kC,l6,bools,x1],Z,Y⟩
 rw[cC,fM,Su.LD]at f;have p:kZ S T:=B.old kp λq hq _ z=>()
 have fl:=f.ll;obtain⟨L,S',e2,r1,r2,r3,r4⟩:=Hf f.dd f.aa f.kk ();have W:=p.len;refine⟨L,S',_,?_,⟨r1,r2⟩,by rw[Su.C1,f.ss,Su.GA];rfl,⟨f.pw.out _,λe k=>?_⟩,(),p.trans r4⟩
 ·unfold uS DG CU;dsimp[kC,l6,bools,nq,Nat.reduceAdd,Nat.reduceSub,M,Su.xK];rw[show mC vU _ vY _ _=_ from e1];dsimp[kC,l6,bools,e2]
 ·obtain⟨t,G⟩:=Su.D5 k;obtain⟨v1,v2,v3⟩:=f.vv e t;have lt:=lJ<|f.aa e t;exact⟨v3,()⟩
abbrev Sn (N P C:Nat)(S:jU)(n:Nat)(l:Su.Ps):Prop:=Sz N P C l/\∃es,Sm S n es/\Su.sm es=l
def Sn.kp{N P n:Nat}{l:Su.Ps}(h:Sn N P C S n l)(k:kZ S S'):Sn N P C S' n l:=by
 obtain⟨a,es,b,c⟩:=h;exact⟨a,es,b.kp k,c⟩
def Sn.add{N P c n:Nat}{l k:Su.Ps}(h:Sn N P C S n l)(h':Sn N P c S m k)(hN:N<5)(h0:1<=N)(hP:P<=15) :
  ∃(L:Nat) (S':jU),uS [.ref n,.ref m] S=.ok (.ref L) S'/\Sn N P (C+c) S' L (He.Bk l k)/\kZ S S':=by
 obtain⟨a,es,b,rfl⟩:=h;obtain⟨d,fs,f,rfl⟩:=h';obtain⟨L,S',j,e1,p,g,_,_,q⟩:=Yo hN h0 b f a d hP;exact⟨L,S',e1,⟨a.sum d,j,p,g⟩,q⟩
def Sn.mono{N P n:Nat}{l:Su.Ps}(h:Sn N P C S n l)(hp:P<=P')(hc:C<=C'):Sn N P' C' S n l:=⟨h.1.mono hp hc,h.2⟩
end K68
namespace K68
open PySem L2 Am
open Po (Pl Ok Bd)
open Su (Es At Vl AF)
open He (Sz PB)
open Fw (rg)
def Tj{S:jU}{n N P c:Nat}{q:Pl}(f:Int×Int->A)(hf:∀p τ S,Sj (f p) τ S=Sj (Po.pA p) τ S)(hN:N<5)(h0:1<=N)(h:Sm S n es)(hz:Sz N P C<|Su.sm es)(hq:jS S m=some (q.map f))(pq:PB Q c q)(lq:q.length<=2)(hP:P+Q<=15)(hC:C<big)(hc:c<big) :
  ∃(L:Nat) (S':jU) (rs:Es),sD [.ref m,.ref n] S=.ok (.ref L) S'/\Sm S' L rs/\Su.sm rs=He.Gq q (Su.sm es)/\S.length<=L/\kZ S S':=by
 have J:kZ S (S++[.dct []]):=Kp.refl.lay;have W:=hz.m24 hN;rw[Su.Bj]at W;obtain⟨y3,y4,D,T,e1,t,kp⟩:=Su.Be (w:=1) (j:=Q+P) (b:=S.length) (i0:=0) (S:=S++[.dct []]) (S1:=S++[.dct []]) (d:=S.length) (n:=n) (es:=es) (src:=uM) (c:=uE) (g:=Bs 2<|tP (kB 3)<|tP (kB 4) Br) (λy z=>[.ref m,.ref n,.ref S.length,y,z]) (λe Q=>Su.Aa Q e.1<|Po.times q e.2.2) (λ_ _ _ _=>rfl) (x3:=.unb) (x4:=.unb)
  (show uM _ _=_ from lN (by dsimp[kC,bools])<|lA h.l) (lA h.l) (Su.Fil3.new Su.nX) λi e T Q1 D hi B k O=>by
   have b:=hz.pb<|n5 rfl B;have K:=k.len;rw[aX]at K;rw[cC,fM]at O;rw[cC,fM];have V:e.2.2.length<=2 * P+1:=b.2;have ll:q.length * e.2.2.length<=2 * (2 * P+1):=jO lq V;have M:Su.RB (Q+P) (Po.times q e.2.2):=Su.RB.times pq.p<|hz.rb<|n5 rfl B;obtain⟨L,T1,x1,l1,l2,G⟩:=yK f hf (k.lst _ _ (λz=>Su.mW (Su.nX (S:=S) (xs:=[])) (lA (o:=.dct []) hq) z.symm)<|lA hq) (((h.a.wm J).Ms k Su.nX) e B) () (λp F=>eY (pq.c p F) hc) λp F=>eY (b.1.c p F) hC;have k1l:=G.len;obtain⟨D',T',U,Z,Y⟩:=(O.wm G).add yb (o:=e.1) l1 M (Su.RB.len (Po.AH _ _) M) (λz=>by
    have:=pN<|hz.pm _<|n5 rfl B;rw[show((e.1,e.2.2):ag×Pl).1=e.1 from rfl,z]at this;simp at this;lia) () () ()
   exact⟨D',T',by unfold uE;dsimp[kC,bools,x1,U],Z,G.of0.trans Y⟩
 rw[cC,fM,Su.Mp]at t;have k:kZ S T:=J.old kp λq hq _ z=>()
 have fl:=t.ll;obtain⟨L,S',e2,r1,r2,r3,r4⟩:=Hf t.dd t.aa t.kk ();have K:=k.len;refine⟨L,S',_,?_,⟨r1,r2⟩,by rw[Su.C1,t.ss];rfl,(),k.trans r4⟩;unfold sD Aw AO;dsimp[kC,bools,nq,Nat.reduceAdd,Nat.reduceSub,Su.xK];rw[show mC uM _ uE _ _=_ from e1];dsimp[kC,bools,e2]
def Sn.Y9{N P c n:Nat}{l:Su.Ps}{q:Pl}(h:Sn N P C S n l)(f:Int×Int->A)(hf:∀p τ S,Sj (f p) τ S=Sj (Po.pA p) τ S)(hN:N<5)(h0:1<=N)(hq:jS S m=some (q.map f))(pq:PB Q c q)(lq:q.length<=2)(hP:P+Q<=15)(hC:C<big)(hc:c<big) :
  ∃(L:Nat) (S':jU),sD [.ref m,.ref n] S=.ok (.ref L) S'/\Sn N (P+Q) (q.length * (c * C)) S' L (He.Gq q l)/\kZ S S':=by
 obtain⟨z,es,s,rfl⟩:=h;obtain⟨L,S',g,e1,j,d,_,k⟩:=Tj f hf hN h0 s z hq pq lq hP hC hc;exact⟨L,S',e1,⟨z.Gq pq,g,j,d⟩,k⟩
end K68
namespace Kl
open Su Po He
open Fw (rg)
def XY{n k:Nat}{o:ag}(p:o.Perm<|rg n)(h0:1<=k)(h1:k<n):t9 (Wd.ex o k) k=!t9 o k:=by
 have lo:o.length=n:=by rw[p.length_eq,Wd.mO]
 have ne:=Fw.Vb p h0 ();unfold Su.t9;rw[Fw.VE h0 (),Fw.VD h0 (),<- decide_not];exact fL.mpr ⟨λz=>(),λz=>()⟩
theorem KI:∀(l:ag),2 * Iv.inv l<=l.length * (l.length-1)
 | []=>aM _
 | x::l=>by
  have h1:l.countP (λy=>decide<|y<x)<=l.length:=List.countP_le_length;have h2:=KI l;show 2 * (l.countP (λy=>decide<|y<x)+Iv.inv l)<=(l.length+1) * l.length
  cases d:l.length with
  | zero=>rw[d]at h1 h2;lia
  | succ m=>
   rw[d]at h1 h2;have:(m+1) * (m+1-1)+2 * (m+1)=(m+1+1) * (m+1):=by
    rw[Nat.add_sub_cancel,add_mul (m+1) 1<|m+1,fM,Nat.mul_add (m+1) m 1];lia
   lia
abbrev step (k:Nat)(low:ag->Ps)(told:Ps)(e:ag×Pl):Ps:=if val e.2 1≠0/\t9 e.1 k=true then Bk told (Gq [(0,-val e.2 1)]<|low e.1)else told
abbrev first (k:Nat)(less:Ps):Ps:=Bk (Su.bx k less)<|Gq [(1,1)] less
abbrev kp:Nat->ag->Ps
 | 0,_=>[]
 | f+1,w=>match ff w with
  | none=>[(w,[(0,1)])]
  | some k=>(kp f<|Wd.ex w k).foldl (step k<|kp f)<|first k (kp f<|Wd.ex w k)
abbrev Lo (n:Nat)(w o:ag):Prop:=o.Perm (rg n)/\(o=w\/Iv.inv o<Iv.inv w)
def Lo.le{n:Nat}{w:ag}(h:Lo n w o):Iv.inv o<=Iv.inv w:=by
 rcases h.2 with z|z
 ·rw[z];exact aM _
 ·exact dZ z
def BW{P:ag->Prop}{l m:Ps}(h:∀e∈l,P e.1)(h':∀e∈m,P e.1):∀e∈Bk l m,P e.1:=
 t6 (rE (P:=P) _ (nofun) λx d=>(bG.mp d).elim (h x)<|h' x)
def FO{P:ag->Prop}{p:Pl}{l:Ps}(h:∀e∈l,P e.1):∀e∈Gq p l,P e.1:=
 t6 (rE (P:=P) _ (nofun) λx d=>by
  obtain⟨e,f,rfl⟩:=aY.mp d;exact h e f)
def U5{P:ag->Prop}{k:Nat}{l:Ps}(h:∀e∈l,P e.1/\P (Wd.ex e.1 k)):∀e∈Su.bx k l,P e.1:=
 t6 (rE (P:=P) _ (nofun) λx d=>by
  obtain⟨e,f,d⟩:=gD.mp d
  rcases bH.mp d with z|z
  ·rw[z];exact(h e f).2
  ·split at z
   ·rw[aP.mp z];exact(h e f).1
   ·exact nomatch z)
theorem Cd{P:ag->Prop}{k:Nat}{low:ag->Ps}:∀{less told:Ps},(∀e∈told,P e.1)->(∀e∈less,∀g∈low e.1,P g.1)->∀e∈less.foldl (step k low) told,P e.1
 | [],_,h,_=>h
 | x::xs,told,h,h'=>Cd (less:=xs) (by
   unfold step;split
   ·exact BW h (FO λg hg=>h' x (aL ..) g hg)
   ·exact h) λe d=>h' e<|aQ _ d
structure Dn (n:Nat)(w:ag)(k:Nat):Prop where
 h0:1<=k
 h1:k<n
 fw:t9 w k=true
 pe:(Wd.ex w k).Perm (rg n)
 iv:Iv.inv w=Iv.inv (Wd.ex w k)+1
 ee:Wd.ex (Wd.ex w k) k=w
 fe:t9 (Wd.ex w k) k=false
def F_{n:Nat}{w:ag}{k:Nat}(pw:w.Perm<|rg n)(h:ff w=some k):Dn n w k:=by
 obtain⟨a,b,c⟩:=SG h;have d:w.length=n:=by rw[pw.length_eq,Wd.mO]
 refine⟨a,(),c,FD pw a (),Fw.QD a b (by have:=b8 c;lia),Fw.RK a b,?_⟩;rw[XY pw a (),c];rfl
def Of{n k:Nat}{w:ag}(d:Dn n w k)(h:Lo n (Wd.ex w k) o):Lo n w o:=⟨h.1,.inr (by have:=h.le;have:=d.iv;lia)⟩
def aa3{n k:Nat}{w:ag}(d:Dn n w k)(h:Lo n (Wd.ex w k) o):Lo n w (Wd.ex o k):=by
 refine⟨FD h.1 d.h0 d.h1,?_⟩;have lo:o.length=n:=by rw[h.1.length_eq,Wd.mO]
 rcases h.2 with z|z
 ·exact .inl (by rw[z];exact d.ee)
 ·have:=Fw.UL (l:=o) d.h0 (by have:=d.h1;lia);have:=d.iv;exact .inr ()
def ZR{n:Nat}{w:ag}(h:Lo n w o)(h':Lo n o u):Lo n w u:=⟨h'.1,by
 rcases h'.2 with z|z
 ·rw[z];exact h.2
 ·exact .inr (by have:=h.le;lia)⟩
theorem xE{n:Nat}:∀(f:Nat) {w:ag},w.Perm (rg n)->∀e∈kp f w,Lo n w e.1
 | 0,_,_,e,j=>nomatch j
 | f+1,w,pw,e,j=>by
  revert e;unfold kp;split
  ·intro e j;rw[aP.mp j];exact⟨pw,.inl rfl⟩
  ·rename_i k q;have d:=F_ pw q;have p:=xE f d.pe;exact Cd (BW (U5 λe j=>⟨Of d<|p e j,aa3 d<|p e j⟩)<|FO λe j=>Of d<|p e j) λe j g hg=>ZR (Of d<|p e j)<|xE f (p e j).1 g hg
theorem fold_congr{k:Nat}{low low':ag->Ps}:∀{less told:Ps},(∀e∈less,low e.1=low' e.1)->less.foldl (step k low) told=less.foldl (step k low') told
 | [],_,_=>rfl
 | x::xs,told,h=>by
  rw[fj,fj,show step k low told x=step k low' told x from by unfold step;rw[h x<|aL ..]];exact fold_congr λe d=>h e<|aQ _ d
theorem OT{n:Nat}:∀(f g:Nat) {w:ag},w.Perm (rg n)->Iv.inv w<f->Iv.inv w<g->kp f w=kp g w
 | 0,_,_,_,h,_=>absurd h (eB _)
 | f+1,0,_,_,_,h=>absurd h (eB _)
 | f+1,g+1,w,pw,h,h'=>by
  unfold kp;split
  ·rfl
  ·rename_i k j;have d:=F_ pw j;have iv:=d.iv;rw[OT f g d.pe () ()];exact fold_congr λe p=>by
    have l:=xE g d.pe e p;have:=l.le;exact OT f g l.1 () ()
abbrev K (w:ag):Ps:=kp (Iv.inv w+1) w
def Ph{w:ag}(h:ff w=none):K w=[(w,[(0,1)])]:=by
 unfold K kp;rw[h]
def Ry{n k:Nat}{w:ag}(pw:w.Perm<|rg n)(h:ff w=some k):K w=(K<|Wd.ex w k).foldl (step k K) (first k (K<|Wd.ex w k)):=by
 have d:=F_ pw h;have iv:=d.iv;show kp (Iv.inv w+1) w=_;unfold kp;rw[h];show(kp (Iv.inv w)<|Wd.ex w k).foldl (step k<|kp<|Iv.inv w) _=_;rw[show kp (Iv.inv w) (Wd.ex w k)=K (Wd.ex w k)from by unfold K;rw[iv]];exact fold_congr λe f=>by
  have l:=xE _ d.pe e f;have:=l.le;exact OT _ _ l.1 () ()
def RY{n:Nat}{w:ag}(pw:w.Perm<|rg n):∀e∈K w,Lo n w e.1:=xE _ pw
abbrev Cb:Nat->Nat
 | 0=>1
 | 1=>124
 | i+2=>4 * Cb (i+1)+120 * (Cb (i+1) * Cb i)
def JS:∀i,4 * Cb i+120 * (Cb i * Cb (i-1))<=Cb (i+1)
 | 0=>by decide
 | i+1=>aM _
theorem zQ:∀{j:Nat},i<=j->Cb i<=Cb j
 | 0,h=>by rw[Nat.le_zero.mp h];exact aM _
 | j+1,h=>by
  rcases Nat.lt_or_ge j i with z|z
  ·rw[show i=j+1 by lia];exact aM _
  ·have:=zQ z;have:=JS j
   lia
def Ws{P:Nat}{p:Pl}(h:PB P C p)(t:Int):(val p t).natAbs<=C:=by
 unfold val
 cases hf:p.find? λq=>decide (q.1=t)with
 | none=>exact bK _
 | some q=>exact h.c q<|cI hf
def UI{n P A B L k:Nat}{low:ag->Ps}{e:ag×Pl}(h:Sz n P A told)(hl:t9 e.1 k=true->Sz n P L (low e.1))(hb:(val e.2 1).natAbs<=B):Sz n P (A+B * L) (step k low told e):=by
 unfold step;split
 ·rename_i z;have:=(hl z.2).Gq (p:=[(0,-val e.2 1)]) (Q:=0) (c:=B) ⟨λq hq=>by rw[aP.mp hq];show(-val e.2 1).natAbs<=B;rw[Int.natAbs_neg];exact hb,λq hq=>by rw[aP.mp hq];exact aM _⟩;exact(h.sum this).mono (aM _) (by show A+1 * (B * L)<=_;lia)
 ·exact h.mono (aM _)<|jC _ _
theorem JZ{n P B L k:Nat}{low:ag->Ps}:∀{less told:Ps}{A:Nat},Sz n P A told->(∀e∈less,t9 e.1 k=true->Sz n P L (low e.1))->(∀e∈less,(val e.2 1).natAbs<=B)->Sz n P (A+less.length * (B * L)) (less.foldl (step k low) told)
 | [],_,_,h,_,_=>h.mono (aM _) (jC _ _)
 | x::xs,told,A,h,hl,hb=>by
  have:=JZ (less:=xs) (UI (e:=x) h (hl x<|aL ..)<|hb x<|aL ..) (λe d=>hl e<|aQ _ d) λe d=>hb e<|aQ _ d;exact this.mono (aM _)<|by rw[bA,jd];lia
def QF{n P k:Nat}{l:Ps}(h:Sz n P C l)(h0:1<=k)(h1:k<n):Sz n (P+1) (4 * C) (first k l):=by
 have:=h.Gq (p:=[(1,1)]) (Q:=1) (c:=1) ⟨λq hq=>by rw[aP.mp hq];exact aM _,λq hq=>by rw[aP.mp hq];exact aM _⟩;exact((h.bx h0 h1).sum this).mono (aM _) (by show 3 * C+1 * (1 * C)<=_;lia)
def Xh{n:Nat}{w:ag}(pw:w.Perm<|rg n):Sz n 0 1 [(w,[(0,1)])]:=by
 refine Sz.of (Zp w Zr λz=>nomatch z) (λx d=>by rw[aP.mp d];exact pw) λe f=>by
  rw[aP.mp f];exact⟨λq hq=>by rw[aP.mp hq];exact aM _,λq hq=>by rw[aP.mp hq];exact aM _⟩
def aco{n:Nat}(hn:n<6)(i:Nat):∀{w:ag},w.Perm (rg n)->Iv.inv w=i->Sz n i (Cb i) (K w):=by
 induction i using Nat.strongRecOn with
 | ind i p=>
  intro w f C
  cases hf:ff w with
  | none=>rw[Ph hf];exact(Xh f).mono (bK _) (zQ (i:=0)<|bK _)
  | some k=>
   have d:=F_ f hf;have iv:=d.iv;obtain⟨j,rfl⟩:∃j,i=j+1:=⟨Iv.inv<|Wd.ex w k,()⟩;have t:Iv.inv (Wd.ex w k)=j:=()
   have z:=p j () d.pe t;have m:=z.many hn;rw[Ry f hf];refine(JZ (QF z d.h0 d.h1) (L:=Cb<|j-1) (B:=Cb j) (λe g fe=>?_) λe g=>Ws (z.pb g).1 1).mono (aM _) (bJ ?_<|JS j)
   ·have l:=RY d.pe e g;have:Iv.inv e.1<j:=by
     rcases l.2 with q|q
     ·rw[q,d.fe]at fe;exact nomatch fe
     ·lia
    exact(p (Iv.inv e.1) () l.1 rfl).mono () (zQ ())
   ·exact Nat.add_le_add_left (iZ _ m) _
def Zn{n:Nat}(hn:n<6){w:ag}(pw:w.Perm<|rg n):Sz n 10 (Cb 10) (K w):=by
 have:=KI w;have d:w.length=n:=by rw[pw.length_eq,Wd.mO]
 have:Iv.inv w<=10:=by
  rw[d]at this;have:n * (n-1)<=5 * 4:=jO () ()
  lia
 exact(aco hn _ pw rfl).mono this (zQ this)
end Kl
namespace K68
open PySem L2 Am
def Sn.bx{N P n k:Nat}{l:Su.Ps}(h:Sn N P C S n l)(hN:N<5)(k1:1<=k)(k2:k<N)(hP:P<=14)(hC:C<big) :
  ∃(L:Nat) (S':jU),nI [.ref n,.int k] S=.ok (.ref L) S'/\Sn N (P+1) (3 * C) S' L (Su.bx k l)/\kZ S S':=by
 obtain⟨z,es,s,rfl⟩:=h;have B:=z.m24 hN;rw[Su.Bj]at B;obtain⟨L,q,d,F,G,t,_,_,_,_,g⟩:=Uk (P:=P) s (k:=k) (N:=N) (λe f=>by
  have b:=z.pb<|n5 rfl f;exact⟨pN<|z.pm _<|n5 rfl f,⟨b.2,z.rb<|n5 rfl f⟩,λp j=>eY (b.1.c p j) hC⟩) k1 k2 () hP ()
 exact⟨L,q,F,⟨z.bx k1 k2,d,G,t⟩,g⟩
open Po (Pl Ok)
open Su (Es)
open He (Sz PB)
open Fw (rg)
def OP{n:Nat}{p:Pl}(h:jS S n=some (Po.pl p))(hp:Ok p):l7 [.ref n] S=.ok (.int<|Po.val p 1) (S++[.qQ<|Po.iv p]):=by
 unfold l7 qP qG;dsimp[kC,l6,bools,nq,Nat.reduceAdd,Nat.reduceSub,DC,B7,h,Po.RN,Po.Lf,Po.JI hp,G0,Hz,fY,Bm,Po.HB]
def Dv:Kl.Cb 10<big:=by rw[zz];decide +kernel
def Sn.Ms{N P n d:Nat}{l:Su.Ps}(h:Sn N P C S n l)(k:Kp (·=d) S S')(hd:kc S d=some kvs):Sn N P C S' n l:=by
 obtain⟨a,es,b,c⟩:=h;exact⟨a,es,b.Ms k hd,c⟩
def Wc{N n:Nat}{o:ag}(hN:N<6)(po:o.Perm<|rg N)(h:Sm S n es)(e:Su.sm es=Kl.K o):Sn N 10 (Kl.Cb 10) S n (Kl.K o):=⟨Kl.Zn hN po,es,h,e⟩
def zf(x y:A):gd (([x,y]:ae).length<=sizeLine)=λr:Am.R A=>r:=by funext r;exact nZ<|show 2<=16777216 by decide
def J7(x:A)(S:jU):newL [x] S=.ok (.ref S.length) (S++[.lst [x]]):=nZ<|show 1<=16777216 by decide
abbrev Fnd (N d f:Nat)(Fs:ae->jU->R A):Prop:=∀(T:jU) (K:Es) (o:ag),Iv.inv o<f->o.Perm (rg N)->Kn N Kl.K T d K ->
  ∃(r:Nat) (g:jU) (k j:Es),Fs [.tup<|o.map .int,.ref d] T=.ok (.ref r) g/\Kn N Kl.K g d k/\Sm g r j/\Su.sm j=Kl.K o/\Kp (·=d) T g
def TX{Fs:ae->jU->R A}{N d f n L k:Nat}{K:Es}{e:Su.En}{x:A}(h5:N<5)(ih:Fnd N d f Fs)(hk:Kn N Kl.K T d K)(ht:Sn N 11 A' T L told)(pe:e.1.Perm<|rg N)(he:Iv.inv e.1<f)(le:jS T e.2.1=some (Po.pl e.2.2))(oe:Ok e.2.2)(be:(Po.val e.2.2 1).natAbs<big)(k1:1<=k)(k2:k<N) :
  ∃(v:A) (L' A'':Nat) (T':jU) (K':Es),nU Fs [x,.int k,.ref d,.ref n,.ref L,.tup<|e.1.map .int,.ref e.2.1,y] T=.nx [x,.int k,.ref d,.ref n,.ref L',.tup<|e.1.map .int,.ref e.2.1,v] T'/\Kn N Kl.K T' d K'/\Sn N 11 A'' T' L' (Kl.step k Kl.K told (e.1,e.2.2))/\Kp (·=d) T T':=by
 have hN:N<6:=()
 have h1:=OP le oe;have lo:=pN pe;obtain⟨T1,B⟩:∃T1,T1=T++[O.qQ<|Po.iv e.2.2]:=⟨_,rfl⟩;have F:kZ T T1:=by rw[B];kt_k
 rw[<- B]at h1;unfold nU;by_cases h0:Po.val e.2.2 1=0
 ·have G:(Po.val e.2.2 1 == 0)=true:=beq_iff_eq.mpr h0;refine⟨.int<|Po.val e.2.2 1,L,A',T1,K,?_,hk.wm F,?_,F.of0⟩
  ·dsimp[kC,l6,bools,h1,G,b7]
  ·unfold Kl.step;rw[aR λz=>z.1 h0];exact ht.kp F
 ·have G:(Po.val e.2.2 1 == 0)=false:=c6.mpr h0;have M:=uZ (S:=T1) (xs:=e.1) (n:=N) lo ();have g:Bu false (.int k) (.ref T1.length) (T1++[.lst<|(fl e.1 N).map .int])=.ok (.bl<|Su.t9 e.1 k) (T1++[.lst<|(fl e.1 N).map .int]):=by
   show opt (jS _ _) _=_;rw[j9,j7,xD,JW lo k1 k2];rfl
  obtain⟨T2,C⟩:∃T2,T2=T1++[O.lst<|(fl e.1 N).map .int]:=⟨_,rfl⟩;have q2:kZ T1 T2:=by rw[C];kt_k
  rw[<- C]at g M;have j:=F.trans q2
  cases hf:Su.t9 e.1 k with
  | false=>
   rw[hf]at g;refine⟨.int<|Po.val e.2.2 1,L,A',T2,K,?_,hk.wm j,?_,j.of0⟩
   ·dsimp[kC,l6,bools,h1,G,dc,M,g]
   ·unfold Kl.step;rw[aR λz=>by rw[hf]at z;exact nomatch z.2];exact ht.kp j
  | true=>
   rw[hf]at g;obtain⟨T3,t⟩:∃T3,T3=T2++[O.lst [.tup [.int 0,.int<|-Po.val e.2.2 1]]]:=⟨_,rfl⟩;have q3:kZ T2 T3:=by rw[t];kt_k
   have Z:jS T3 T2.length=some (([(0,-Po.val e.2.2 1)]:Pl).map Po.pA):=by rw[t];exact j9
   have p:=j.trans q3;obtain⟨r,T4,K4,rs,x4,n4,s4,e4,P⟩:=ih T3 K e.1 he pe<|hk.wm p;have Y:=(hk.wm p).dd;have l4:=P.lst _ _ (λz=>Su.mW Y Z z.symm) Z;obtain⟨L5,T5,x5,s5,J⟩:=(Wc hN pe s4 e4).Y9 Po.pA (λ_ _ _=>rfl) h5 () l4 (Q:=0) (c:=(Po.val e.2.2 1).natAbs) ⟨λq hq=>by rw[aP.mp hq];show(-_:Int).natAbs<=_;rw[Int.natAbs_neg];exact aM _,λq hq=>by rw[aP.mp hq];exact aM _⟩ (show 1<=2 by decide) ⋯ Dv be;obtain⟨L6,T6,x6,W,V⟩:=(((ht.kp p).Ms P Y).kp J).add (s5.mono ⋯ (aM _)) h5 () ⋯;have st:Kl.step k Kl.K told (e.1,e.2.2)=He.Bk told (He.Gq [(0,-Po.val e.2.2 1)]<|Kl.K e.1):=by unfold Kl.step;rw[aV ⟨h0,hf⟩]
   rw[<- st]at W;refine⟨.int<|Po.val e.2.2 1,L6,_,T6,K4,?_,(n4.wm J).wm V,W,((p.of0.trans P).trans J.of0).trans V.of0⟩;have U:P1 (.int<|Po.val e.2.2 1) T2=.ok (.int<|-Po.val e.2.2 1) T2:=rfl;dsimp[kC,l6,bools,h1,G,dc,M,g,U,zf,J7,<- t,x4,x5,x6]
end K68
namespace K68
open PySem L2 Am
open Po (Pl Ok)
open Su (Es)
open He (Sz PB)
open Fw (rg)
def Nn:gd (2<=sizeLine)=λr:Am.R A=>r:=by funext r;exact nZ<|show 2<=16777216 by decide
def Uw{Fs:ae->jU->R A}{N d f n k:Nat}{x:A}{wl:ag}(h5:N<5)(ih:Fnd N d f Fs)(hk:Kn N Kl.K S d K0)(ht:Sn N 11 A0 S L0 told)(pw:wl.Perm<|rg N)(iw:Iv.inv wl<f)(hs:Sm S n es)(hse:Su.sm es=Kl.K wl)(k1:1<=k)(k2:k<N) :
  ∃(y5 y6 y7:A) (L' A'':Nat) (S':jU) (K':Es),mC (p7 Fs) (Bs 2<|tP (kB 5)<|tP (kB 6) Br) (nU Fs) [x,.int k,.ref d,.ref n,.ref L0,.unb,.unb,.unb] S=.nx [x,.int k,.ref d,.ref n,.ref L',y5,y6,y7] S'/\Kn N Kl.K S' d K'/\Sn N 11 A'' S' L' ((Kl.K wl).foldl (Kl.step k Kl.K) told)/\Kp (·=d) S S':=by
 have q:(es.map Su.ent).length=es.length:=aG ..;have O:N<6:=()
 have B:=Kl.Zn O pw;refine nK (n:=n) (xs:=es.map Su.ent) (S1:=S) (show p7 Fs _ _=_ from lN (by dsimp[kC,bools]) hs.l)
  (λi τ T=>∃(y5 y6 y7:A) (L' A'':Nat) (K':Es),τ=[x,.int k,.ref d,.ref n,.ref L',y5,y6,y7]/\Kn N Kl.K T d K'/\Sn N 11 A'' T L' ((Su.sm<|es.take i).foldl (Kl.step k Kl.K) told)/\Kp (·=d) S T)
  (λr=>∃(y5 y6 y7:A) (L' A'':Nat) (S':jU) (K':Es),r=.nx [x,.int k,.ref d,.ref n,.ref L',y5,y6,y7] S'/\Kn N Kl.K S' d K'/\Sn N 11 A'' S' L' ((Kl.K wl).foldl (Kl.step k Kl.K) told)/\Kp (·=d) S S')
  ⟨_,_,_,L0,A0,K0,rfl,hk,ht,Kp.refl⟩ (λi τ T h=>?_) ?_ ?_
 ·obtain⟨_,_,_,_,_,_,_,_,_,kp⟩:=h;exact kp.lst _ _ (λz=>Su.mW hk.dd hs.l z.symm) hs.l
 ·rintro i z τ T t ⟨y5,y6,y7,L',A'',K',rfl,j,g,kp⟩;rw[aO]at t;obtain⟨e,F,rfl⟩:=aW.mp t;have C:=a_ F;have p:(e.1,e.2.2)∈Kl.K wl:=n5 hse C;have lo:=Kl.RY pw _ p;have pb:=B.pb p;obtain⟨v,M,P,T1,L,e1,U,J,G⟩:=TX (Fs:=Fs) (n:=n) (x:=x) (y:=y7) h5 ih j g (e:=e) lo.1 (eY lo.le iw) ((hs.Ms kp hk.dd).a e C) (B.cn.gd.ok _ p) (eY (Kl.Ws pb.1 1) Dv) k1 k2;refine⟨[x,.int k,.ref d,.ref n,.ref L',.tup<|e.1.map .int,.ref e.2.1,y7],T,rfl,.inl ⟨_,T1,e1,_,_,_,M,P,L,rfl,U,?_,kp.trans G⟩⟩;rw[bN,F,Su.GA,dU];exact J
 ·rintro τ T ⟨y5,y6,y7,L',A'',K',rfl,j,g,kp⟩;rw[q,bT,hse]at g;exact⟨y5,y6,y7,L',A'',T,K',rfl,j,g,kp⟩
def U6{Fs:ae->jU->R A}{N d f k:Nat}{w:ag}(h5:N<5)(ih:Fnd N d f Fs)(hk:Kn N Kl.K S d K0)(pw:w.Perm<|rg N)(hf:He.ff w=some k)(iw:Iv.inv w<f+1) :
  ∃(r:Nat) (S':jU) (K' rs:Es),l_ lY (lZ Fs) [.tup<|w.map .int,.int k,.ref d] S=.ok (.ref r) S'/\Kn N Kl.K S' d K'/\Sm S' r rs/\Su.sm rs=Kl.K w/\Kp (·=d) S S':=by
 have hN:N<6:=()
 have g:=Kl.F_ pw hf;have iv:=g.iv;obtain⟨S1,x1,P⟩:=Le (S:=S) (xs:=w) (k:=k) g.h0 (by rw[pN pw];exact g.h1) (by rw[pN pw];lia);obtain⟨r2,S2,K2,rs2,Z,U,J,e2,k2⟩:=ih S1 K0 (Wd.ex w k) () g.pe<|hk.wm P;have G:=Wc hN g.pe J e2;obtain⟨L3,S3,x3,s3,L⟩:=G.bx h5 g.h0 g.h1 ⋯ Dv;obtain⟨z,j⟩:∃z,z=S3++[O.lst [.tup [.int 1,.int 1]]]:=⟨_,rfl⟩;have M:kZ S3 z:=by rw[j];kt_k
 have l4:jS z S3.length=some (([(1,1)]:Pl).map Po.pA):=by rw[j];exact j9
 have B:=L.trans M;obtain⟨L5,S5,x5,V,k5⟩:=(G.kp B).Y9 Po.pA (λ_ _ _=>rfl) h5 (by have:=g.h1;lia) l4 (Q:=1) (c:=1) ⟨λq hq=>by rw[aP.mp hq];exact aM _,λq hq=>by rw[aP.mp hq];exact aM _⟩ ⋯ ⋯ Dv (by rw[zz];decide +kernel);have t:=M.trans k5;obtain⟨L6,S6,x6,s6,T⟩:=(s3.kp t).add V h5 (by have:=g.h1;lia) ⋯;have p:=(L.trans t).trans T;obtain⟨y5,y6,y7,Y,A7,S7,W,x7,n7,F,k7⟩:=Uw (x:=.tup<|w.map .int) h5 ih (U.wm p) s6 g.pe () (J.kp p) e2 g.h0 g.h1;have eq:(Kl.K<|Wd.ex w k).foldl (Kl.step k Kl.K) (He.Bk (Su.bx k<|Kl.K<|Wd.ex w k)<|He.Gq [(1,1)]<|Kl.K<|Wd.ex w k)=Kl.K w:=(Kl.Ry pw hf).symm;rw[eq]at F;obtain⟨_,C,m7,e7⟩:=F;refine⟨Y,S7,W,C,?_,n7,m7,e7,((P.of0.trans k2).trans p.of0).trans k7⟩;unfold lZ lY;dsimp[kC,l6,bools,nq,Nat.reduceAdd,Nat.reduceSub,x1,Z,x3,Nn,zf,J7,<- j,x5,x6,↓x7]
theorem KD{N d:Nat}(h5:N<5):∀(f:Nat),Fnd N d f (nH f)
 | 0=>λ_ _ _ h _ _=>absurd h (eB _)
 | f+1=>λS K o hf T hK=>by
  have hN:N<6:=()
  have lo:=pN T;show ∃(r:Nat) (S':jU) (U rs:Es),l_ pH (pG<|nH f) [.tup<|o.map .int,.ref d] S=.ok (.ref r) S'/\_;have B:L8 true (.tup<|o.map .int) (.ref d) S=.ok (.bl<|!(kW (K.map Su.kv) o).isSome) S:=by rw[Nq,hK.dd,j7]
  unfold pG pH
  cases Z:Su.fE K o with
  | some e=>
   obtain⟨m1,rfl⟩:=Su.uI Z;obtain⟨rs,r1,r2⟩:=hK.at_ e m1;have J:kW (K.map Su.kv) e.1=some (.ref e.2.1):=by rw[Su.wc,Z];rfl
   have F:sS (.ref d) (.tup<|e.1.map .int) S=.ok (.ref e.2.1) S:=by rw[Su.zF,hK.dd,j7,J,j7]
   rw[J]at B;refine⟨e.2.1,S,K,rs,?_,hK,r1,r2,Kp.refl⟩;dsimp[kC,l6,bools,nq,Nat.reduceAdd,Nat.reduceSub,B,ji,b7,F]
  | none=>
   have J:kW (K.map Su.kv) o=none:=by rw[Su.wc,Z];rfl
   rw[J]at B;have Y:=uZ (S:=S) (xs:=o) (n:=N) lo ();have M:(fl o N).head?=(He.ff o).map λk:Nat=>(k:Int):=by
    have:=He.Th (o:=o);rw[lo]at this;exact this
   obtain⟨S1,q⟩:∃S1,S1=S++[O.lst<|(fl o N).map .int]:=⟨_,rfl⟩;have k1:kZ S S1:=by rw[q];kt_k
   have P:jS S1 S.length=some ((fl o N).map .int):=by rw[q];exact j9
   rw[<- q]at Y;have L:=Cj P
   cases g:He.ff o with
   | none=>
    have fe:fl o N=[]:=by
     rw[g]at M;exact List.head?_eq_none_iff.mp M
    obtain⟨S2,j⟩:∃S2,S2=S1++[O.lst [.tup [.int 0,.int 1]]]:=⟨_,rfl⟩;have k2:kZ S1 S2:=by rw[j];kt_k
    have l2:jS S2 S1.length=some (Po.pl [(0,1)]):=by rw[j];exact j9
    obtain⟨S3,p⟩:∃S3,S3=S2++[O.lst [.tup [.tup<|o.map .int,.ref S1.length]]]:=⟨_,rfl⟩;have G:kZ S2 S3:=by rw[p];kt_k
    have l3:jS S3 S2.length=some (([(o,S1.length,[(0,1)])]:Es).map Su.ent):=by rw[p];exact j9
    have sm:Sm S3 S2.length [(o,S1.length,[(0,1)])]:=⟨l3,λe he=>by rw[aP.mp he];exact G.lst _ _ (λz=>z) l2⟩;have kq:Su.sm [(o,S1.length,[((0:Int),(1:Int))])]=Kl.K o:=by rw[Kl.Ph g];rfl
    have C:=(k1.trans k2).trans G;obtain⟨T',U,e1,n1,F,W,kp⟩:=(hK.wm C).put hN T sm kq;refine⟨S2.length,T',U,_,?_,n1,W,kq,C.of0.trans kp⟩;rw[fe]at L;dsimp[kC,l6,bools,nq,Nat.reduceAdd,Nat.reduceSub,B,isSome_none,dc,Y,L,fP,jB,b7,Nn,zf,J7,<- j,<- p,Su.xW,e1,F]
   | some k=>
    obtain⟨t,ft⟩:∃t,fl o N=(k:Int)::t:=by
     rw[g]at M;exact List.head?_eq_some_iff.mp M
    rw[ft]at L P;obtain⟨r3,S3,K3,V,x3,n3,s3,q3,G⟩:=U6 h5 (KD h5 f) (hK.wm k1) T g hf;obtain⟨T',U,e1,n1,F,W,kp⟩:=n3.put hN T s3 q3;refine⟨r3,T',U,V,?_,n1,W,q3,(k1.of0.trans G).trans kp⟩;dsimp[kC,l6,bools,nq,Nat.reduceAdd,Nat.reduceSub,B,isSome_none,dc,Y,L,bC,jv,b7];rw[bC]at P;dsimp[kC,l6,bools,P,wH,↓x3,Su.xW,e1,F]
end K68
namespace K68
open PySem L2 Am
def WH{n:Nat}{d:List<|nG×A}(h:qR S n=some d)(h':jS S m=some xs):n≠m:=λz=>by
 subst z;have e1:=qA h;rw[j_ h']at e1
 cases e1
def XG{n:Nat}{d:List<|nG×A}(h:qR S n=some d)(h':kc S m=some xs):n≠m:=λz=>by
 subst z;have e1:=qA h;rw[mh h']at e1
 cases e1
def Kp.vW{b:Nat->Prop}(h:Kp b S S')(n:Nat)(d:List<|nG×A)(hb:¬b n)(e:qR S n=some d):qR S' n=some d:=AD<|h.obj n _ hb<|qA e
def HX(x w:ag):E8 (.tup [.tup<|x.map .int,.tup<|w.map .int])=some (x,w):=by
 unfold E8;dsimp only;rw[ints_map,ints_map];rfl
def WO{d:Nat}{x w:ag}:BH false (.tup [.tup<|x.map .int,.tup<|w.map .int]) (.ref d) S=opt (qR S d) λkvs=>.ok (.bl (sI kvs (x,w)).isSome) S:=by
 show opt (qR S d) (λkvs=>opt (E8 _) _)=_;rw[HX];rfl
def Ul{d:Nat}{S:jU}{x w:ag}{v:A}:Fo (.ref d) (.tup [.tup<|x.map .int,.tup<|w.map .int]) v S=opt (qR S d) λkvs=>gd (kvs.length<sizeLine) (.ok Unit.unit<|S.set d<|.vW<|zo kvs (x,w) v):=by
 show opt (qR S d) (λkvs=>opt (E8 _) _)=_;rw[HX];rfl
def SM{co ci:Ex}{a:A}:SW co ci a τ S=(co τ S).bind λo S1=>(ci τ S1).bind λi S2=>(Fo o i a S2).bind λ_ S3=>.ok τ S3:=rfl
def LN{S:jU}:GR τ S=.ok (.ref S.length) (S++[.vW []]):=rfl
def RV{k:nG}{v:A}{kvs:List<|nG×A}:(zo kvs k v).length<=kvs.length+1:=by
 unfold zo;split
 ·rw[aG];lia
 ·rw[aX];exact aM _
def isQ{kvs:List<|nG×A}{k:nG}:(sI kvs k).isSome=decide (k∈kvs.map (·.1)):=by
 unfold sI;rw[dG]
 cases h:kvs.find? λkv=>decide (kv.1=k)with
 | none=>
  refine(bz λz=>?_).symm;obtain⟨p,d,e⟩:=aY.mp z;have:=fS.mp h p d;exact this<|bf e
 | some p=>
  refine(bf ?_).symm;have h1:=cI h;have h2:=fZ h;have h2:=b8 h2;exact aY.mpr ⟨p,h1,h2⟩
def LH{kvs:List<|nG×A}{k q:nG}{v:A}:q∈(zo kvs k v).map (·.1) ↔ q∈kvs.map (·.1)\/q=k:=by
 unfold zo;split
 ·rename_i h;rw[isQ]at h;have h:=b8 h;have:(kvs.map λp=>if p.1=k then(p.1,v)else p).map (·.1)=kvs.map (·.1):=by
   rw[bg];refine bW λp _=>?_;show(if p.1=k then(p.1,v)else p).1=p.1;split<;>rfl
  rw[this];constructor
  ·exact .inl
  ·rintro(z|z)
   ·exact z
   ·rw[z];exact h
 ·rw[bu,bG,bC,fP,aP]
structure Ks (S:jU)(d m:Nat)(ps:List nG):Prop where
 ex:∃kvs,qR S d=some kvs/\kvs.length<=m/\∀q,q∈kvs.map (·.1) ↔ q∈ps
def Ks.put{d:Nat}{x w:ag}{v:A}(h:Ks S d m ps)(hm:m<16777216):∃S',Fo (.ref d) (.tup [.tup<|x.map .int,.tup<|w.map .int]) v S=.ok Unit.unit S'/\Ks S' d (m+1) (ps++[(x,w)])/\Kp (·=d) S S':=by
 obtain⟨kvs,h1,h2,h3⟩:=h.ex;have f:d<S.length:=(aJ.mp<|qA h1).1;refine⟨S.set d<|.vW<|zo kvs (x,w) v,?_,⟨zo kvs (x,w) v,AD<|by rw[bE f],bJ RV (),λq=>?_⟩,Kp.refl.pT<|.inl rfl⟩
 ·rw[Ul,h1,j7];exact pJ ()
 ·rw[LH,h3,bG,aP]
def Ks.inq{d:Nat}{ps:List nG}{x w:ag}(h:Ks S d m ps):BH false (.tup [.tup<|x.map .int,.tup<|w.map .int]) (.ref d) S=.ok (.bl<|decide<|(x,w)∈ps) S:=by
 obtain⟨kvs,h1,h2,h3⟩:=h.ex;rw[WO,h1,j7,isQ,fL.mpr<|h3 (x,w)]
def Ks.kp{d:Nat}{b:Nat->Prop}(h:Ks S d m ps)(k:Kp b S S')(hb:¬b d):Ks S' d m ps:=by
 obtain⟨kvs,h1,h2⟩:=h.ex;exact⟨kvs,Kp.vW k _ _ hb h1,h2⟩
def Ks.mono{d:Nat}(h:Ks S d m ps)(hm:m<=m'):Ks S d m' ps:=by
 obtain⟨kvs,h1,h2,h3⟩:=h.ex;exact⟨kvs,h1,bJ h2 hm,h3⟩
def Ks.ne{d n:Nat}(h:Ks S d m ps)(h':jS S n=some xs):d≠n:=by
 obtain⟨kvs,h1,_⟩:=h.ex;exact WH h1 h'
def Ks.nd{d n:Nat}(h:Ks S d m ps)(h':kc S n=some xs):d≠n:=by
 obtain⟨kvs,h1,_⟩:=h.ex;exact XG h1 h'
open Po (Pl Ok)
open Su (Es)
open He (Sz PB)
open Fw (rg)
abbrev YX (u:ag)(e:ag×Pl):List nG:=if Po.val e.2 1=0 then[]else[(e.1,u),(u,e.1)]
abbrev ldK (u:ag):List nG:=(Kl.K u).flatMap<|YX u
abbrev Ld (os:List<|ag):List nG:=os.flatMap ldK
def Kn.kpq{N d L:Nat}{Φ:ag->Su.Ps}{K:Es}(h:Kn N Φ T d K)(k:Kp (·=L) T T')(hL:Ks T L m ps):Kn N Φ T' d K:=⟨k.dct _ _ (λz=>hL.nd h.dd z.symm) h.dd,h.gd,h.pm,λe f=>by
 obtain⟨es,a,b⟩:=h.at_ e f;exact⟨es,⟨k.lst _ _ (λz=>hL.ne a.l z.symm) a.l,λe f=>k.lst _ _ (λz=>hL.ne (a.a e f) z.symm)<|a.a e f⟩,b⟩⟩
def Sm.kpq{n L:Nat}(a:Sm T n es)(k:Kp (·=L) T T')(hL:Ks T L m ps):Sm T' n es:=⟨k.lst _ _ (λz=>hL.ne a.l z.symm) a.l,λe d=>k.lst _ _ (λz=>hL.ne (a.a e d) z.symm)<|a.a e d⟩
def MZ{N d L n c:Nat}{K:Es}{u:ag}{e:Su.En}(hk:Kn N Kl.K T d K)(hL:Ks T L m ps)(le:jS T e.2.1=some (Po.pl e.2.2))(oe:Ok e.2.2)(hm:m+2<16777216) :
  ∃(v:A) (T':jU),qL [.ref n,.ref d,.ref L,.tup<|u.map .int,.tup<|e.1.map .int,.ref e.2.1,y] T=.nx [.ref n,.ref d,.ref L,.tup<|u.map .int,.tup<|e.1.map .int,.ref e.2.1,v] T'/\Ks T' L (m+2) (ps++YX u (e.1,e.2.2))/\Kp (·=L) T T':=by
 have h1:=OP le oe;obtain⟨T1,f⟩:∃T1,T1=T++[O.qQ<|Po.iv e.2.2]:=⟨_,rfl⟩;have g:kZ T T1:=by rw[f];kt_k
 rw[<- f]at h1;unfold qL;by_cases h0:Po.val e.2.2 1=0
 ·have j:(Po.val e.2.2 1 == 0)=true:=beq_iff_eq.mpr h0;refine⟨.int<|Po.val e.2.2 1,T1,?_,?_,g.of0⟩
  ·dsimp[kC,l6,bools,h1,j,b7]
  ·unfold YX;rw[aV h0,bZ];exact(hL.kp g λz=>z).mono ()
 ·have j:(Po.val e.2.2 1 == 0)=false:=c6.mpr h0;obtain⟨T2,C,p,t⟩:=(hL.kp g λz=>z).put (x:=e.1) (w:=u) (v:=.int<|Po.val e.2.2 1) ();obtain⟨T3,q,k,B⟩:=p.put (x:=u) (w:=e.1) (v:=.int<|Po.val e.2.2 1) ();refine⟨.int<|Po.val e.2.2 1,T3,?_,?_,(g.of0.trans t).trans B⟩
  ·dsimp[kC,l6,bools,h1,j,dc,SM,zf,C,q]
  ·unfold YX;rw[aR h0];rw[cJ]at k;exact k
end K68
namespace K68
open PySem L2 Am
open Po (Pl Ok)
open Su (Es)
open He (Sz PB)
open Fw (rg)
def Ob{N d L n r:Nat}{K:Es}{u:ag}{rs:Es}(hN:N<6)(pu:u.Perm<|rg N)(hs:qB [.ref n,.ref d,.ref L,.tup<|u.map .int,y4,y5,y6] S=.ok (lU r (rs.map Su.ent).length) S1)(hk:Kn N Kl.K S1 d K)(hL:Ks S1 L m ps)(hr:Sm S1 r rs)(he:Su.sm rs=Kl.K u)(hm:m+240<16777216) :
  ∃(z4 z5 z6:A) (S':jU),oH [.ref n,.ref d,.ref L,.tup<|u.map .int,y4,y5,y6] S=.nx [.ref n,.ref d,.ref L,.tup<|u.map .int,z4,z5,z6] S'/\Ks S' L (m+240) (ps++ldK u)/\Kp (·=L) S1 S':=by
 have k:(rs.map Su.ent).length=rs.length:=aG ..;have q:=Kl.Zn hN pu;have j:rs.length<=120:=by have:=q.many hN;rwa [<- he,Su.Bj]at this
 unfold oH;refine nK (n:=r) (xs:=rs.map Su.ent) (S1:=S1) hs
  (λi τ T=>∃(z4 z5 z6:A),τ=[.ref n,.ref d,.ref L,.tup<|u.map .int,z4,z5,z6]/\i<=rs.length/\Ks T L (m+2 * i) (ps++(Su.sm<|rs.take i).flatMap (YX u))/\Kp (·=L) S1 T)
  (λR=>∃(z4 z5 z6:A) (S':jU),R=.nx [.ref n,.ref d,.ref L,.tup<|u.map .int,z4,z5,z6] S'/\Ks S' L (m+240) (ps++ldK u)/\Kp (·=L) S1 S')
  ⟨_,_,_,rfl,bK _,by rw[eZ];show Ks S1 L m (ps++[]);rw[bZ];exact hL,Kp.refl⟩ (λi τ T h=>?_) ?_ ?_
 ·obtain⟨_,_,_,_,_,_,kp⟩:=h;exact kp.lst _ _ (λz=>hL.ne hr.l z.symm) hr.l
 ·rintro i z τ T p ⟨z4,z5,z6,rfl,_,g,kp⟩;rw[aO]at p;obtain⟨e,f,rfl⟩:=aW.mp p;have t:=a_ f;have F:(e.1,e.2.2)∈Kl.K u:=n5 he t;have G:=(aJ.mp f).1;obtain⟨v,T1,e1,C,B⟩:=MZ (n:=n) (u:=u) (e:=e) (y:=z6) (c:=0) (hk.kpq kp hL) g ((hr.kpq kp hL).a e t) (q.cn.gd.ok _ F) ();refine⟨[.ref n,.ref d,.ref L,.tup<|u.map .int,.tup<|e.1.map .int,.ref e.2.1,z6],T,rfl,.inl ⟨_,T1,e1,_,_,_,rfl,G,?_,kp.trans B⟩⟩;rw[bN,f,Su.GA,gG,<- cJ];have:((Su.sm (some e).toList).flatMap<|YX u)=YX u (e.1,e.2.2):=bZ _;rw[this];exact C
 ·rintro τ T ⟨z4,z5,z6,rfl,_,g,kp⟩;rw[k,bT,he]at g;exact⟨z4,z5,z6,T,rfl,g.mono (),kp⟩
def MQ{N n:Nat}{os:List<|ag}(h5:N<5)(hi:∀o∈os,o.Perm (rg N)/\Iv.inv o<8)(hn:jS S n=some (os.map λo=>.tup<|o.map .int))(hl:os.length<=120) :
  ∃(L:Nat) (S':jU),oB [.ref n] S=.ok (.ref L) S'/\Ks S' L 30000 (Ld os)/\kZ S S':=by
 have hN:N<6:=()
 obtain⟨S1,f⟩:∃S1,S1=S++[O.dct []]:=⟨_,rfl⟩;have k1:kZ S S1:=by rw[f];kt_k
 obtain⟨S2,j⟩:∃S2,S2=S1++[O.vW []]:=⟨_,rfl⟩;have J:kZ S1 S2:=by rw[j];kt_k
 have d1:kc S1 S.length=some []:=by rw[f];exact Su.nX
 have d2:=J.dct _ _ (λz=>z) d1;have p2:qR S2 S1.length=some []:=AD (by rw[j];exact CG);have l1:S1.length=S.length+1:=by rw[f,aX];rfl
 have h0:Kn N Kl.K S2 S.length []:=⟨d2,Su.Gd.nil,(nofun),(nofun)⟩;have C:Ks S2 S1.length 0 []:=⟨[],p2,aM _,λq=>Iff.rfl⟩;have t:=(k1.trans J).lst _ _ (λz=>z) hn;have k:∃(g y4 y5 y6:A) (S':jU),mC qM (kB 3) oH [.ref n,.ref S.length,.ref S1.length,.unb,.unb,.unb,.unb] S2=.nx [.ref n,.ref S.length,.ref S1.length,g,y4,y5,y6] S'/\Ks S' S1.length 30000 (Ld os)/\Kp (λx=>x=S.length\/x=S1.length) S2 S':=by
  refine nK (n:=n) (xs:=os.map λo=>.tup<|o.map .int) (S1:=S2) (show qM _ _=_ from lN (by dsimp[kC,bools]) t)
   (λi τ T=>∃(g y4 y5 y6:A) (K:Es),τ=[.ref n,.ref S.length,.ref S1.length,g,y4,y5,y6]/\i<=os.length/\Kn N Kl.K T S.length K/\Ks T S1.length (240 * i) (Ld<|os.take i)/\Kp (λx=>x=S.length\/x=S1.length) S2 T)
   (λR=>∃(g y4 y5 y6:A) (S':jU),R=.nx [.ref n,.ref S.length,.ref S1.length,g,y4,y5,y6] S'/\Ks S' S1.length 30000 (Ld os)/\Kp (λx=>x=S.length\/x=S1.length) S2 S')
   ⟨_,_,_,_,[],rfl,bK _,h0,by rw[eZ];exact C,Kp.refl⟩ (λi τ T h=>?_) ?_ ?_
  ·obtain⟨_,_,_,_,_,_,_,_,_,kp⟩:=h;have:=lJ hn;exact kp.lst _ _ (λz=>()) t
  ·rintro i z τ T M ⟨g,y4,y5,y6,K,rfl,_,P,B,kp⟩;rw[aO]at M;obtain⟨o,G,rfl⟩:=aW.mp M;have om:=a_ G;obtain⟨W,io⟩:=hi o om;have F:=(aJ.mp G).1;obtain⟨r,T1,K1,rs,x1,Y,U,e1,q1⟩:=KD (d:=S.length) h5 8 T K o io W P;have p:Ks T1 S1.length (240 * i) (Ld<|os.take i):=B.kp q1 λz=>()
   obtain⟨z4,z5,z6,T2,x2,V,Z⟩:=Ob (S:=T) (S1:=T1) (n:=n) (y4:=y4) (y5:=y5) (y6:=y6) hN W (show qB _ _=_ from lN (by dsimp[kC,l6,bools,show uR=nH 8 from rfl,x1]) U.l) Y p U e1 ();refine⟨_,T,rfl,.inl ⟨_,T2,x2,_,_,_,_,K1,rfl,F,Y.kpq Z p,?_,(kp.trans<|q1.mono λ_ _ z=>.inl z).trans<|Z.mono λ_ _ z=>.inr z⟩⟩;unfold Ld at V ⊢;rw[bN,G,gG];have:(some o).toList.flatMap ldK=ldK o:=bZ _;rw[this];exact V.mono ()
  ·rintro τ T ⟨g,y4,y5,y6,K,rfl,_,P,B,kp⟩;rw[aG,bT]at B;exact⟨g,y4,y5,y6,T,rfl,B.mono (),kp⟩
 obtain⟨g,y4,y5,y6,S',x3,s3,k3⟩:=k;refine⟨S1.length,S',?_,s3,((k1.trans J)).old k3 λq hq _ z=>()⟩;unfold oB tH tN;dsimp[kC,l6,bools,nq,Nat.reduceAdd,Nat.reduceSub,Su.xK,LN,<- f,<- j,↓x3]
end K68
namespace K68
open PySem L2 Am
def zO{s:Src}{xs:ae}{src:Ic}{t:Te}{e:Ex}(hs:src τ S=.ok s S1)(hk:s.k=xs.length)(b:Nat->Prop)(hg:∀T,Kp b S1 T->∀i:Nat,i<xs.length->s.get i T=xs[i]?)(hfin:∀T,Kp b S1 T->s.fin T=true)(p:A->Bool)(f:A->A)
  (step:∀x∈xs,∀T,Kp b S1 T->∃T1,t (x::lG cap τ) T=.ok (p x) T1/\Kp b T T1/\(p x=true->∃T2,e (x::lG cap τ) T1=.ok (f x) T2/\Kp b T1 T2)) (hl:xs.length<=16777216) :
  ∃S',kI (none::cap) src (kB 0) t e τ S=.ok (.ref S'.length) (S'++[.lst<|(xs.filter p).map f])/\Kp b S1 S':=by
 have B:∀i,i<xs.length->xs.getD i .unb∈xs:=λi d=>by
  rw[aK,aI d];exact di d
 obtain⟨S',h1,h2⟩:=ya (s:=s) (g:=kB 0) (t:=t) (e:=e) (P:=λT=>Kp b S1 T) (T:=λj=>∃y,j=y::lG cap τ) (λi=>xs.getD i .unb) (λi=>p<|xs.getD i .unb) (λi=>f<|xs.getD i .unb) (λi T d h=>by
   rw[hk]at d;rw[hg T h i d,aK,aI d];rfl) hfin
  (λi j T d hy h=>by
   obtain⟨y,rfl⟩:=hy;rw[hk]at d;obtain⟨T1,e1,z,q⟩:=step _ (B i d) T h;refine⟨xs.getD i .unb::lG cap τ,T,T1,rfl,e1,⟨_,rfl⟩,λ_=>h.trans z,λC=>?_⟩;obtain⟨T2,e2,F⟩:=q C;exact⟨T2,e2,(h.trans z).trans F⟩) s.k 0 (lG (none::cap) τ) S1 rfl ⟨_,rfl⟩ Kp.refl
 refine⟨S',?_,h2⟩;unfold kI;rw[hs,R.m9,h1,R.kK,hk,<- gh,nS xs p f .unb];refine mR ?_;rw[aG];exact bJ (c9 _ _) hl
def xC{n:Nat}{xs:ae}{src:Ic}{t:Te}{e:Ex}(hs:src τ S=.ok (lU n xs.length) S1)(hx:jS S1 n=some xs)(p:A->Bool)(f:A->A)
  (step:∀x∈xs,∀T,kZ S1 T->∃T1,t (x::lG cap τ) T=.ok (p x) T1/\kZ T T1/\(p x=true->∃T2,e (x::lG cap τ) T1=.ok (f x) T2/\kZ T1 T2)) (hl:xs.length<=16777216) :
  ∃S',kI (none::cap) src (kB 0) t e τ S=.ok (.ref S'.length) (S'++[.lst<|(xs.filter p).map f])/\kZ S1 S':=
 zO hs rfl _ (λT k i _=>by show(jS T n).bind _=_;rw[k.lst _ _ (λz=>z) hx];rfl) (λT k=>by
  show(match jS T n with
   | some ys=>decide (ys.length<=xs.length)
   | none=>false)=true
  rw[k.lst _ _ (λz=>z) hx];exact bf<|aM _) p f step hl
theorem Ku{st:A->A->A->jU->R Unit}{s:Src}{g:Tg}{ek ev:Ex}{n:Nat}(P:Nat->jU->Prop)(Q:ae->Prop)(step:∀i τ S,i<s.k->Q τ->P i S->∃x τ1 S1 y S3 z S4 S5,s.get i S=some x/\g x τ S=.ok τ1 S1/\Q τ1/\ek τ1 S1=.ok y S3/\ev τ1 S3=.ok z S4/\st (.ref n) y z S4=.ok Unit.unit S5/\P (i+1) S5)(hfin:∀S,P s.k S->s.fin S=true) :
  ∀k i τ S,k+i=s.k->Q τ->P i S->∃τ' S',yQ st s g oZ ek ev n k i τ S=.ok τ' S'/\P s.k S'
 | 0,i,τ,S,hk,hT,hP=>by
  have:i=s.k:=()
  subst this;exact⟨τ,S,by unfold yQ;rw[aV<|hfin S hP],hP⟩
 | k+1,i,τ,S,hk,hT,hP=>by
  obtain⟨x,τ1,S1,y,S3,z,S4,S5,e1,e2,d,e3,f,j,p⟩:=step i τ S () hT hP;obtain⟨τ',S',h1,h2⟩:=Ku P Q step hfin k (i+1) τ1 S5 () d p;refine⟨τ',S',?_,h2⟩;unfold yQ;rw[e1,j7,e2,R.kK];show((ek τ1 S1).nJ _)=_;rw[e3,R.kK,f,R.kK,j,R.kK,h1]
def Yt{n:Nat}{bs:List Bool}(h:jS S n=some xs)(hb:A.G6 xs=some bs):YQ (.ref n) S=.ok (.bl<|bs.any λb=>b) S:=by
 show opt (jS S n) _=_;rw[h];show opt (A.G6 xs) _=_;rw[hb];rfl
def Z4(b:Bool)(xs:ae):A.G6 (.bl b::xs)=(A.G6 xs).map (b::·):=rfl
theorem NU{α:Type}(f:α->Bool):∀(xs:List α),A.G6 (xs.map λx=>.bl<|f x)=some (xs.map f)
 | []=>rfl
 | x::xs=>by rw[bC,Z4,NU f xs];rfl
abbrev hof (N:Nat)(a b:ag):Bool:=(fl a N).any λk=>!decide (k∈fl b N)
abbrev ZH:A->Int
 | .int k=>k
 | _=>0
def Zi(o:ag)(N:Nat)(hN:N<6):(fl o N).length<=6:=by
 unfold fl;refine bJ (c9 _ _) ?_;unfold mJ;rw[aG,bR];lia
def Y3{a b:ag}{N:Nat}(hN:N<6)(la:a.length=N)(lb:b.length=N):∃S',kH [.tup<|a.map .int,.tup<|b.map .int] S=.ok (.bl<|hof N a b) S'/\kZ S S':=by
 have fa:=uZ (S:=S) (xs:=a) (n:=N) la ();obtain⟨S1,d⟩:∃S1,S1=S++[O.lst<|(fl a N).map .int]:=⟨_,rfl⟩;have B:kZ S S1:=by rw[d];kt_k
 have j:jS S1 S.length=some ((fl a N).map .int):=by rw[d];exact j9
 rw[<- d]at fa;have F:=Zi a N hN;obtain⟨S2,g,C⟩:=xC (cap:=[some 1]) (t:=oZ) (e:=j4 (Bu true) (jQ 0)<|eFn m8<|jR (jQ 1) jW) (τ:=[.tup<|a.map .int,.tup<|b.map .int]) (S:=S) (S1:=S1) (src:=kY<|eFn m8<|jR (jQ 0) jW) (lN (by dsimp[kC,l6,bools,fa]) j) j (λ_=>true) (λx=>.bl<|!decide (ZH x∈fl b N)) (λx z T G=>⟨T,rfl,Kp.refl,λ_=>by
  obtain⟨k,J,rfl⟩:=aY.mp z;have q:=uZ (S:=T) (xs:=b) (n:=N) lb ();refine⟨T++[.lst<|(fl b N).map .int],?_,Kp.refl.lay⟩;have p:Bu true (.int k) (.ref T.length) (T++[.lst<|(fl b N).map .int])=.ok (.bl<|!decide (k∈fl b N)) (T++[.lst<|(fl b N).map .int]):=by
   show opt (jS _ _) _=_;rw[j9,j7,xD];rfl
  show j4 (Bu true) (jQ 0) (eFn m8<|jR (jQ 1) jW) [.int k,.tup<|b.map .int] T=_;dsimp[kC,l6,bools,q,p];rfl⟩)<|by rw[aG];lia
 refine⟨S2++[O.lst<|(fl a N).map λk=>.bl<|!decide (k∈fl b N)],?_,(B.trans C).lay⟩;unfold kH qa qi;have hf:((List.map A.int<|fl a N).filter λ_=>true).map (λx=>A.bl<|!decide (ZH x∈fl b N))=(fl a N).map λk=>.bl (!decide (k∈fl b N)):=by
  rw[fF.mpr λ_ _=>rfl,bg];rfl
 rw[hf]at g;have f:=Yt (S:=S2++[O.lst<|(fl a N).map λk=>.bl<|!decide (k∈fl b N)]) j9<|NU (λk=>!decide (k∈fl b N))<|fl a N;rw[any_map]at f;dsimp[kC,l6,bools,nq,Nat.reduceAdd,Nat.reduceSub,↓g,f];rfl
end K68
namespace K68
open PySem L2 Am
abbrev tq (o:ag):A:=.tup<|o.map .int
def uq(o:ag)(T:jU):uV (tq o) T=.ok (tq o) T:=rfl
def isD{kvs:List<|ag×A}{k:ag}:(kW kvs k).isSome=decide (k∈kvs.map (·.1)):=by
 unfold kW;rw[dG]
 cases h:kvs.find? λkv=>decide (kv.1=k)with
 | none=>
  refine(bz λz=>?_).symm;obtain⟨p,d,e⟩:=aY.mp z;have:=fS.mp h p d;exact this<|bf e
 | some p=>
  refine(bf ?_).symm;have h1:=cI h;have h2:=fZ h;have h2:=b8 h2;exact aY.mpr ⟨p,h1,h2⟩
def zG{kvs:List<|ag×A}{k:ag}{v:A}(h:k∉kvs.map (·.1)):putD kvs k v=kvs++[(k,v)]:=by
 unfold putD;rw[isD,aR<|by rw[iF];exact h]
def WB{d:Nat}:OC (.ref d) (tq o) S=opt (mz S d) λkvs=>opt (kW kvs o) λv=>.ok v S:=by
 show opt (mz S d) (λkvs=>opt (A.ints<|o.map .int) λns=>_)=_;rw[ints_map];rfl
def G5{d:Nat}:sS (.ref d) (tq o) S=opt (kc S d) λkvs=>opt (kW kvs o) λv=>.ok v S:=by
 show opt (kc S d) (λkvs=>opt (A.ints<|o.map .int) λns=>_)=_;rw[ints_map];rfl
def WD{d:Nat}:Lj false (tq o) (.ref d) S=opt (mz S d) λkvs=>.ok (.bl (kW kvs o).isSome) S:=by
 show opt (mz S d) (λkvs=>opt (A.ints<|o.map .int) λns=>_)=_;rw[ints_map];rfl
def XI{d:Nat}(h:kc S d=some kvs):mz S d=some kvs:=by
 unfold mz;rw[mh h]
def Xo{d:Nat}{S:jU}(h:S[d]?=some (.dcf kvs)):mz S d=some kvs:=by
 unfold mz;rw[h]
def vD{b:Nat->Prop}{d:Nat}(h:mz S d=some kvs)(k:Kp b S S')(hb:¬b d):mz S' d=some kvs:=by
 unfold mz at h;split at h
 ·rename_i e;cases h;unfold mz;rw[k.obj _ _ hb e]
 ·rename_i e;cases h;unfold mz;rw[k.obj _ _ hb e]
 ·cases h
def GX{n:Nat}{d:List<|ag×A}(h:mz S n=some d)(h':jS S m=some xs):n≠m:=λz=>by
 subst z;unfold mz at h;rw[j_ h']at h
 cases h
structure Nx (S:jU)(d L:Nat)(os:List (ag))(nx:ag->List (ag)):Prop where
 ex:∃rs:List<|ag×Nat,mz S d=some (rs.map λe=>(e.1,.ref e.2))/\rs.map (·.1)=os/\∀e∈rs,jS S e.2=some ((nx e.1).map tq)/\e.2<L
 lt:d<L
def Nx.kp{d L:Nat}{os:List<|ag}{nx:ag->List (ag)}{b:Nat->Prop}(h:Nx S d L os nx)(k:Kp b S S')(hb:∀n,n<L->¬b n):Nx S' d L os nx:=by
 obtain⟨g,h1,h2,h3⟩:=h.ex;exact⟨⟨g,vD h1 k<|hb _ h.lt,h2,λe f=>⟨k.lst _ _ (hb _ (h3 e f).2) (h3 e f).1,(h3 e f).2⟩⟩,h.lt⟩
def Ef{rs:List<|ag×Nat}{o:ag}(h:o∈rs.map (·.1)):∃e∈rs,e.1=o/\kW (rs.map λe=>(e.1,A.ref e.2)) o=some (.ref e.2):=by
 induction rs with
 | nil=>cases h
 | cons e rs g=>
  by_cases c:e.1=o
  ·exact⟨e,aL ..,c,Cc (p:=(e.1,A.ref e.2)) c⟩
  ·rw[bC]at h;have h:=(bH.mp h).resolve_left λz=>c z.symm;obtain⟨d,f,e1,e2⟩:=g h;exact⟨d,aQ _ f,e1,by rw[bC,B4 (p:=(e.1,A.ref e.2)) c];exact e2⟩
def Nx.ix{d L:Nat}{os:List<|ag}{nx:ag->List (ag)}(h:Nx S d L os nx){o:ag}(ho:o∈os):∃r,OC (.ref d) (tq o) S=.ok (.ref r) S/\jS S r=some ((nx o).map tq)/\r<L:=by
 obtain⟨g,h1,h2,h3⟩:=h.ex;rw[<- h2]at ho;obtain⟨e,f,rfl,e2⟩:=Ef ho;exact⟨e.2,by rw[WB,h1,j7,e2,j7],(h3 e f).1,(h3 e f).2⟩
meta abbrev Os:=List<|ag
abbrev IM (s:Os×Os)(o:ag):Os×Os:=if o∈s.1 then s else(s.1++[o],s.2++[o])
abbrev sj (s:Os×Os)(l:Os):Os×Os:=l.foldl IM s
abbrev rf (os:Os)(nx:ag->Os):Nat->Os->Os->Option Os
 | 0,_,_=>none
 | f+1,R,W=>if R.length<1000/\W.length<1000/\∀o∈W,o∈os/\(nx o).length<1000 then match W.getLast? with
   | none=>some R
   | some h=>rf os nx f (sj (R,W.dropLast)<|nx h).1 (sj (R,W.dropLast)<|nx h).2
  else none
abbrev mk (R:Os):List (ag×A):=R.map λo=>(o,.bl true)
def CK(R:Os):(mk R).map (·.1)=R:=by
 unfold mk;rw[bg];exact ju _
def P6(l:Os):∀(s:Os×Os),(sj s l).1.length<=s.1.length+l.length/\(sj s l).2.length<=s.2.length+l.length:=by
 induction l with
 | nil=>exact λs=>⟨aM _,aM _⟩
 | cons o l d=>
  intro s;have h:=d<|IM s o;have h1:(IM s o).1.length<=s.1.length+1/\(IM s o).2.length<=s.2.length+1:=by
   unfold IM;split
   ·exact⟨(),()⟩
   ·exact⟨by rw[aX];exact aM _,by rw[aX];exact aM _⟩
  show(sj (IM s o) l).1.length<=_/\(sj (IM s o) l).2.length<=_;rw[bA];exact⟨(),()⟩
abbrev Bq (r q:Nat)(n:Nat):Prop:=n=r\/n=q
def Zl{d r q:Nat}{l R W:Os}{x:A}(hs:nW [x,.ref d,.ref r,.ref q,h,y] S=.ok (lU m (l.map tq).length) S)(hm:jS S m=some (l.map tq))(mr:m≠q)(hr:kc S r=some (mk R))(hq:jS S q=some (W.map tq))(h1:R.length<1000)(h2:W.length<1000)(h3:l.length<1000) :
  ∃(y':A) (S':jU),mC nW (kB 5) qb [x,.ref d,.ref r,.ref q,h,y] S=.nx [x,.ref d,.ref r,.ref q,h,y'] S'/\kc S' r=some (mk (sj (R,W) l).1)/\jS S' q=some ((sj (R,W) l).2.map tq)/\Kp (Bq r q) S S':=by
 have G:r≠q:=Su.mW hr hq;have L:r≠m:=Su.mW hr hm;refine nK (n:=m) (xs:=l.map tq) (S1:=S) hs
  (λi τ T=>∃y',τ=[x,.ref d,.ref r,.ref q,h,y']/\i<=l.length/\kc T r=some (mk (sj (R,W)<|l.take i).1)/\jS T q=some ((sj (R,W)<|l.take i).2.map tq)/\Kp (Bq r q) S T)
  (λZ=>∃(y':A) (S':jU),Z=.nx [x,.ref d,.ref r,.ref q,h,y'] S'/\kc S' r=some (mk (sj (R,W) l).1)/\jS S' q=some ((sj (R,W) l).2.map tq)/\Kp (Bq r q) S S')
  ⟨_,rfl,bK _,by rw[eZ];exact hr,by rw[eZ];exact hq,Kp.refl⟩ (λi τ T z=>?_) ?_ ?_
 ·obtain⟨_,_,_,_,_,kp⟩:=z;exact kp.lst _ _ (λz=>z.elim (λz=>L z.symm) mr) hm
 ·rintro i z τ T t ⟨y',rfl,_,dT,g,kp⟩;rw[aO]at t;obtain⟨o,B,rfl⟩:=aW.mp t;have F:=(aJ.mp B).1;have bl:=P6 (l.take i) (R,W);rw[bY]at bl;have bl1:(sj (R,W)<|l.take i).1.length<=R.length+min i l.length:=bl.1;have bl2:(sj (R,W)<|l.take i).2.length<=W.length+min i l.length:=bl.2;have st:sj (R,W) (l.take<|i+1)=IM (sj (R,W)<|l.take i) o:=by
   unfold sj;rw[bN,B,dU];rfl
  have k:L8 true (tq o) (.ref r) T=.ok (.bl<|!decide (o∈(sj (R,W)<|l.take i).1)) T:=by
   have:=Nq (d:=r) (S:=T) (o:=o);rw[dT,j7,isD,CK]at this;exact this
  refine⟨[x,.ref d,.ref r,.ref q,h,tq o],T,rfl,.inl ?_⟩;unfold qb;by_cases c:o∈(sj (R,W)<|l.take i).1
  ·rw[bf c]at k;refine⟨[x,.ref d,.ref r,.ref q,h,tq o],T,?_,_,rfl,F,?_,?_,kp⟩
   ·dsimp[kC,l6,bools,uq,k,b7]
   ·rw[st];unfold IM;rw[aV c];exact dT
   ·rw[st];unfold IM;rw[aV c];exact g
  ·rw[bz c]at k;obtain⟨f,p⟩:∃f,f=(sj (R,W)<|l.take i).1:=⟨_,rfl⟩;obtain⟨j,C⟩:∃j,j=(sj (R,W)<|l.take i).2:=⟨_,rfl⟩;rw[<- p]at dT c bl1;rw[<- C]at g bl2;have e1:n9 (.ref r) (tq o) (.bl true) T=.ok Unit.unit (T.set r<|.dct<|mk<|f++[o]):=by
    have:=Su.rK (n:=r) (o:=o) (v:=.bl true) (S:=T);rw[dT,j7,zG<|by rw[CK];exact c]at this;refine this.trans ?_;rw[pJ<|by unfold mk;rw[aG];lia];unfold mk;rw[bu];rfl
   have K:jS (T.set r<|.dct<|mk<|f++[o]) q=some (j.map tq):=by
    refine nB ?_;rw[bM G];exact j_ g
   have lt:r<T.length:=Su.sC dT;have J:q<(T.set r<|.dct<|mk<|f++[o]).length:=by rw[bU];exact lJ g
   refine⟨[x,.ref d,.ref r,.ref q,h,tq o],(T.set r<|.dct<|mk<|f++[o]).set q<|.lst<|(j++[o]).map tq,?_,_,rfl,F,?_,?_,(kp.pT<|.inl<|.inl rfl).pT<|.inl<|.inr rfl⟩
   ·rw[bu];dsimp[kC,l6,bools,uq,k,dc,Su.xW,e1,K,pJ<|show(j.map tq).length<16777216 by rw[aG];lia];rfl
   ·rw[st];have:(IM (sj (R,W)<|l.take i) o).1=f++[o]:=by unfold IM;rw[aR<|by rw[<- p];exact c,p]
    rw[this];refine qo ?_;rw[bM<|cR G,bE lt]
   ·have:(IM (sj (R,W)<|l.take i) o).2=j++[o]:=by unfold IM;rw[aR<|by rw[<- p];exact c,C]
    rw[st,this];refine nB ?_;rw[bE J]
 ·rintro τ T ⟨y',rfl,_,dT,g,kp⟩;rw[aG,bT]at dT g;exact⟨y',T,rfl,dT,g,kp⟩
end K68
namespace K68
open PySem L2 Am
def YG{S:jU}{q:Nat}{W:Os}(hq:jS S q=some (W.map tq))(hl:W.getLast?=some h):YT (.ref q) [] S=.ok (tq h) (S.set q<|.lst<|W.dropLast.map tq):=by
 show opt (jS S q) _=_;rw[hq,j7];show opt ((W.map tq)[(W.map tq).length-1]?) _=_;rw[<- List.getLast?_eq_getElem?,List.getLast?_map,hl];show R.ok (tq h) (S.set q<|.lst (W.map tq).dropLast)=_;rw[List.map_dropLast]
theorem MU{d r q L:Nat}{os:Os}{nx:ag->Os}{x:A}(hrL:L<=r)(hqL:L<=q):∀(f n:Nat) {S:jU}{R W:Os}{y4 y5:A},f<=n->rf os nx f R W=some res->Nx S d L os nx->kc S r=some (mk R)->jS S q=some (W.map tq) ->
  ∃(y4' y5':A) (S':jU),lR k_ lX n [x,.ref d,.ref r,.ref q,y4,y5] S=.nx [x,.ref d,.ref r,.ref q,y4',y5'] S'/\kc S' r=some (mk res)/\Kp (Bq r q) S S'
 | 0,_,_,_,_,_,_,_,h,_,_,_=>nomatch h
 | f+1,0,_,_,_,_,_,hn,_,_,_,_=>absurd hn (Nat.not_succ_le_zero _)
 | f+1,n+1,S,R,W,y4,y5,hn,h,hN,hr,hq=>by
  unfold rf at h;split at h
  case isFalse=>cases h
  rename_i g;obtain⟨g1,g2,Z⟩:=g;have N:=Cj hq
  cases C:W.getLast? with
  | none=>
   rw[C]at h
   cases h
   have:W=[]:=List.getLast?_eq_none_iff.mp C;subst this;refine⟨y4,y5,S,?_,hr,Kp.refl⟩;unfold lR;have t0:k_ [x,.ref d,.ref r,.ref q,y4,y5] S=.ok false S:=by
    unfold k_;dsimp[kC,l6,bools,N];rfl
   rw[t0];rfl
  | some t=>
   rw[C]at h;have j:t∈W:=List.mem_of_getLast? C;obtain⟨U,hl⟩:=Z t j;have G:W≠[]:=λz=>by rw[z]at j;cases j
   have rq:r≠q:=Su.mW hr hq;have e1:=YG hq C;obtain⟨S1,p⟩:∃S1,S1=S.set q (O.lst<|W.dropLast.map tq):=⟨_,rfl⟩;rw[<- p]at e1;have k1:Kp (Bq r q) S S1:=by rw[p];exact Kp.refl.pT (.inl<|.inr rfl)
   have B:Kp (·=q) S S1:=by rw[p];exact Kp.refl.pT (.inl rfl)
   have q1:jS S1 q=some (W.dropLast.map tq):=nB (by rw[p,bE<|lJ hq]);have r1:=B.dct _ _ rq hr;have T:=hN.kp B λn hn z=>()
   obtain⟨m,J,M,mL⟩:=T.ix U;obtain⟨K,S2,V,Y,l2,k2⟩:=Zl (x:=x) (h:=tq t) (y:=y5) (show nW [x,.ref d,.ref r,.ref q,tq t,y5] S1=.ok (lU m ((nx t).map tq).length) S1 from lN (by dsimp[kC,l6,bools,uq,J]) M) M () r1 q1 g1 (by rw[List.length_dropLast];lia) hl;have F:=k1.trans k2;obtain⟨y4',y5',S3,x3,d3,k3⟩:=MU hrL hqL f n (x:=x) (y4:=tq t) (y5:=K) () h (hN.kp F λn hn z=>z.elim (λz=>()) λz=>()) Y l2;refine⟨y4',y5',S3,?_,d3,F.trans k3⟩;unfold lR;have t0:k_ [x,.ref d,.ref r,.ref q,y4,y5] S=.ok true S:=by
    unfold k_;dsimp[kC,l6,bools,N]
    cases W with
    | nil=>exact absurd rfl G
    | cons _ _=>rfl
   have b0:lX [x,.ref d,.ref r,.ref q,y4,y5] S=.nx [x,.ref d,.ref r,.ref q,tq t,K] S2:=by
    unfold lX;have P:(A.ref q).lst? S=some (W.map tq):=hq;dsimp[kC,l6,bools,P,e1,↓V]
   rw[t0];show(match lX _ S with
    | .nx k S'=>lR k_ lX n k S'
    | .ct k S'=>lR k_ lX n k S'
    | .bk k S'=>.nx k S'
    | r=>r)=_
   rw[b0];exact x3
def ON{ck cv:Ex}{S2:jU}{v:A}(h1:ck τ S=.ok (tq o) S1)(h2:cv τ S1=.ok v S2):IP ck cv τ S=.ok (.ref S2.length) (S2++[.dct [(o,v)]]):=by
 unfold IP;rw[h1,R.m9,h2,R.m9];show opt (A.ints<|o.map .int) _=_;rw[ints_map];rfl
def Hh{d L:Nat}{os:Os}{nx:ag->Os}{f:Nat}{S:jU}{o:ag}(hf:f<=1000000)(h:rf os nx f [o] [o]=some res)(hN:Nx S d L os nx)(hL:L<=S.length) :
  ∃(r:Nat) (S':jU),mD [tq o,.ref d] S=.ok (.ref r) S'/\kc S' r=some (mk res)/\S.length<=r/\kZ S S':=by
 obtain⟨S1,g⟩:∃S1,S1=S++[O.dct [(o,.bl true)]]:=⟨_,rfl⟩;have J:kZ S S1:=by rw[g];kt_k
 have K:kc S1 S.length=some (mk [o]):=by rw[g];exact Su.nX
 have M:S1.length=S.length+1:=by rw[g,aX];rfl
 obtain⟨S2,j⟩:∃S2,S2=S1++[O.lst [tq o]]:=⟨_,rfl⟩;have p:kZ S1 S2:=by rw[j];kt_k
 have t:jS S2 S1.length=some ([o].map tq):=by rw[j];exact j9
 have B:=p.dct _ _ (λz=>z) K;have k:=J.trans p;obtain⟨y4,y5,S3,C,G,F⟩:=MU (r:=S.length) (q:=S1.length) (x:=tq o) (y4:=.unb) (y5:=.unb) hL () f 1000000 hf h (hN.kp k λ_ _ z=>z) B t;refine⟨S.length,S3,?_,G,aM _,k.old F λn hn _ z=>z.elim (λz=>()) λz=>()⟩;unfold mD su r6;have e0:=ON (ck:=jQ 0) (cv:=eC<|.bl true) (τ:=[tq o,.ref d,.unb,.unb,.unb,.unb]) (S:=S) (S1:=S) (S2:=S) (o:=o) (v:=.bl true) (by dsimp[kC,l6,uq]) rfl;rw[<- g]at e0;dsimp[kC,l6,bools,nq,Nat.reduceAdd,Nat.reduceSub,e0,uq,J7,<- j,↓C]
end K68
namespace K68
open PySem L2 Am
def aai{x w:ag}:wo false (tq x) (tq w) S=.ok (.bl<|decide<|x=w) S:=OM (by
 show tV (yg S 11) (x.map .int) (w.map .int)=_;exact vR x w)
theorem IU:∀{ls:List<|ag},(∀l∈ls,l≠[])->Yg (ls.map tq)=some ls
 | [],_=>rfl
 | l::ls,h=>by
  have f:=h l<|aL ..;have g:=IU λk d=>h k<|aQ _ d;show Yg (.tup (l.map .int)::ls.map tq)=_;unfold Yg;rw[ints_map]
  cases l with
  | nil=>exact absurd rfl f
  | cons k ks=>dsimp only;rw[g];rfl
def K_{S:jU}{n:Nat}{ls:List<|ag}(h:jS S n=some (ls.map tq))(hne:∀l∈ls,l≠[])(hl:ls.length<64):xj (.ref n) S=.ok (.ref S.length) (S++[.lst<|(kR ls).map tq]):=by
 show opt (jS S n) _=_;rw[h,j7,IU hne,j7,FW hl];rfl
abbrev ev (es:List<|ag×Nat):List (ag×A):=es.map λe=>(e.1,.ref e.2)
def xX(es:List<|ag×Nat):(ev es).map (·.1)=es.map (·.1):=by unfold ev;rw[bg];rfl
def HE{S:jU}{d:Nat}(h:kc S d=some kvs):mz (S.set d<|.dcf kvs) d=some kvs:=Xo<|by rw[bE<|Su.sC h]
def Nx.fz{S:jU}{d L:Nat}{os:Os}{nx:ag->Os}{rs:List<|ag×Nat}(h:kc S d=some (ev rs))(h2:rs.map (·.1)=os)(h3:∀e∈rs,jS S e.2=some ((nx e.1).map tq)/\e.2<L)(hd:d<L):Nx (S.set d<|.dcf<|ev rs) d L os nx:=
 ⟨⟨rs,HE h,h2,λe f=>⟨nB<|by rw[bM<|Su.mW h (h3 e f).1];exact j_ (h3 e f).1,(h3 e f).2⟩⟩,hd⟩
def aa8{S:jU}{d f:Nat}{os:Os}{nx rc:ag->Os}{rs:List<|ag×Nat}(h:kc S d=some (ev rs))(h2:rs.map (·.1)=os)(h3:∀e∈rs,jS S e.2=some ((nx e.1).map tq))(nd:os.Nodup)(ln:os.length<=1000)(hf:f<=1000000)(hrc:∀o∈os,rf os nx f [o] [o]=some (rc o)) :
  ∃(S':jU) (es:List<|ag×Nat),MI (.dct []) n9 [none,some 0] (EV<|jQ 0) (kB 0) oZ (jQ 0) (eFn mD<|jR (jQ 0)<|jR (jQ 1) jW) [.ref d,x1,x2,x3,x4] S=.ok (.ref S.length) S'/\kc S' S.length=some (ev es)/\es.map (·.1)=os/\(∀e∈es,kc S' e.2=some (mk<|rc e.1)/\S.length<e.2)/\(es.map (·.2)).Nodup/\mz S' d=some (ev rs)/\Kp (·=d) S S':=by
 have hd:=Su.sC h;have P:=Nx.fz h h2 (λe C=>⟨h3 e C,lJ<|h3 e C⟩) hd;obtain⟨S1,p⟩:∃S1,S1=S.set d (O.dcf<|ev rs):=⟨_,rfl⟩;rw[<- p]at P;have L:S1.length=S.length:=by rw[p,bU]
 have k1:Kp (·=d) S S1:=by rw[p];exact Kp.refl.pT (.inl rfl)
 have G:mz S1 d=some (ev rs):=by rw[p];exact HE h
 have hs:EV (jQ 0) [.ref d,x1,x2,x3,x4] S=.ok (qO<|os.map tq) S1:=by
  unfold EV;show opt (kc S d) _=_;rw[h,j7,<- p];have:(ev rs).map keA=os.map tq:=by rw[<- h2];unfold ev;rw[bg,bg];rfl
  rw[this]
 obtain⟨S2,q⟩:∃S2,S2=S1++[O.dct []]:=⟨_,rfl⟩;have N:kZ S1 S2:=by rw[q];kt_k
 have l2:S2.length=S.length+1:=by rw[q,aX,L];rfl
 have V:kc S2 S.length=some (ev []):=by rw[q,<- L];exact Su.nX
 obtain⟨τ',S',e1,es,p1,p2,p3,M,B⟩:=Ku (st:=n9) (s:=qO<|os.map tq) (g:=kB 0) (ek:=jQ 0) (ev:=eFn mD<|jR (jQ 0)<|jR (jQ 1) jW) (n:=S.length)
  (λi T=>∃es:List<|ag×Nat,kc T S.length=some (ev es)/\es.map (·.1)=os.take i/\(∀e∈es,kc T e.2=some (mk<|rc e.1)/\S.length<e.2)/\(es.map (·.2)).Nodup/\Kp (·=S.length) S2 T) (λτ=>∃y,τ=[y,.ref d]) (λi τ T t hq hP=>by
   obtain⟨y,rfl⟩:=hq;obtain⟨es,p1,p2,p3,M,B⟩:=hP;have t:i<(os.map tq).length:=t;rw[aG]at t;have W:os[i]∈os:=di t;have U:Nx T d S.length os nx:=(P.kp N λ_ _ z=>z).kp B λn hn z=>()
   have tl:=B.len;obtain⟨r,T1,x1,Y,q2,J⟩:=Hh hf (hrc _ W) U ();have F:=J.dct _ _ (λz=>z) p1;have new:os[i]∉(ev es).map (·.1):=by
    rw[xX,p2];intro z;obtain⟨j,Z,e⟩:=bQ.mp z;rw[iG]at e;have lj:j<i:=by rw[bY]at Z;lia
    have:=(cg nd).mp e
    lia
   have e5:n9 (.ref S.length) (tq os[i]) (.ref r) T1=.ok Unit.unit (T1.set S.length<|.dct<|ev<|es++[(os[i],r)]):=by
    have:=Su.rK (n:=S.length) (o:=os[i]) (v:=.ref r) (S:=T1);rw[F,j7,zG new]at this;refine this.trans ?_;have le:es.length=i:=by have:=cV List.length p2;rw[aG,bY]at this;lia
    rw[pJ<|by unfold ev;rw[aG];lia];unfold ev;rw[bu];rfl
   have K:Kp (·=S.length) T1 (T1.set S.length<|.dct<|ev<|es++[(os[i],r)]):=Kp.refl.pT<|.inl rfl;refine⟨tq os[i],[tq os[i],.ref d],T,tq os[i],T,.ref r,T1,_,?_,rfl,⟨_,rfl⟩,rfl,?_,e5,es++[(os[i],r)],?_,?_,λe C=>?_,?_,(B.trans J.of0).trans K⟩
   ·show(os.map tq)[i]?=_;rw[aO,aI t];rfl
   ·dsimp[kC,l6,bools,uq,x1]
   ·exact qo (by rw[bE<|Su.sC F])
   ·rw[bu,p2,bN,aI t];rfl
   ·rcases bG.mp C with z|z
    ·have:=p3 e z;exact⟨K.dct _ _ ()<|J.dct _ _ (λz=>z) this.1,this.2⟩
    ·rw[aP.mp z];exact⟨K.dct _ _ (by show ¬r=S.length;lia) Y,by show S.length<r;lia⟩
   ·rw[bu,cy];refine⟨M,bX.mpr ⟨(λz=>nomatch z),cY⟩,λa ha b hb z=>?_⟩;obtain⟨e,C,rfl⟩:=aY.mp ha;rw[aP.mp hb]at z;have:=Su.sC (p3 e C).1;have z:e.2=r:=z
    lia) (λ_ _=>rfl) (os.map tq).length 0 (lG [none,some 0] [.ref d,x1,x2,x3,x4]) S2 rfl ⟨_,rfl⟩ ⟨[],V,rfl,(nofun),cY,Kp.refl⟩
 refine⟨S',es,?_,p1,?_,p3,M,vD (vD G N λz=>z) B (),(k1.trans N.of0).old B λn hn _ z=>()⟩
 ·unfold MI;rw[hs,R.m9,<- q,L];show(yQ _ _ _ _ _ _ _ (os.map tq).length 0 _ _).nJ _=_;rw[e1];rfl
 ·have:(qO<|os.map tq).k=os.length:=aG ..;rw[this,bT]at p2;exact p2
end K68
namespace K68
open PySem L2 Am
structure Hs (S:jU)(n L:Nat)(gs:List Os):Prop where
 ex:∃hs:List<|Os×Nat,jS S n=some (hs.map λh=>.ref h.2)/\hs.map (·.1)=gs/\∀h∈hs,jS S h.2=some (h.1.map tq)/\L<h.2
abbrev un:A->ag
 | .tup xs=>xs.map ZH
 | _=>[]
def yY(o:ag):un (tq o)=o:=by
 show(o.map A.int).map ZH=o;rw[bg];exact ju _
abbrev Cr (rc:ag->Os)(o:ag):Os:=kR<|(rc o).filter λp=>decide<|o∈rc p
abbrev hq (rc:ag->Os)(o:ag):Bool:=decide<|(Cr rc o).head?=some o
def aaL{T:jU}{d D H:Nat}{es:List<|ag×Nat}{os:Os}{rc:ag->Os}{xs:ae}{e:ag×Nat}(h1:kc T D=some (ev es))(h2:es.map (·.1)=os)(h3:∀e∈es,mz T e.2=some (mk<|rc e.1))(he:e∈es)(nd:os.Nodup)(h4:kc T e.2=some (mk<|rc e.1))(h5:jS T H=some xs)(lx:xs.length<1000)(sub:∀p∈rc e.1,p∈os/\p≠[])(lr:(rc e.1).length<=63)(ne:Cr rc e.1≠[])(De:D≠e.2) :
  ∃(r:Nat) (T':jU),pL [.ref d,.ref D,.ref H,tq e.1,y] T=.nx [.ref d,.ref D,.ref H,tq e.1,.ref r] T'/\jS T' r=some ((Cr rc e.1).map tq)/\T.length<=r/\jS T' H=some (xs++if hq rc e.1=true then[.ref r]else[])/\mz T' e.2=some (mk<|rc e.1)/\Kp (λn=>n=e.2\/n=H) T T':=by
 have look:∀p∈os,∃f∈es,f.1=p/\kW (ev es) p=some (.ref f.2):=λp P=>Ef (by rw[h2];exact P);have ee:kW (ev es) e.1=some (.ref e.2):=by
  obtain⟨f,F,N,V⟩:=look e.1 (by rw[<- h2];exact aY.mpr ⟨e,he,rfl⟩);have:f=e:=by
   rw[<- h2]at nd;unfold List.Nodup at nd;rw[cL]at nd;obtain⟨i,hi,rfl⟩:=bQ.mp F;obtain⟨j,hj,rfl⟩:=bQ.mp he
   rcases Nat.lt_trichotomy i j with c|c|c
   ·exact absurd N (b_.mp nd i j hi hj c)
   ·subst c;rfl
   ·exact absurd N.symm<|b_.mp nd j i hj hi c
  rw[V,this]
 obtain⟨T1,g⟩:∃T1,T1=T.set e.2 (O.dcf<|mk<|rc e.1):=⟨_,rfl⟩;have U:Kp (·=e.2) T T1:=by rw[g];exact Kp.refl.pT (.inl rfl)
 have l1:T1.length=T.length:=by rw[g,bU]
 have d1:=U.dct _ _ De h1;have He:H≠e.2:=λz=>Su.mW h4 h5 z.symm;have c1:∀f∈es,mz T1 f.2=some (mk<|rc f.1):=λf F=>by
  by_cases c:f.2=e.2
  ·have:mk (rc f.1)=mk (rc e.1):=by
    have a:=h3 f F;rw[c,h3 e he]at a;exact(br a).symm
   rw[c,this,g];exact HE h4
  ·exact vD (h3 f F) U c
 have Z:sS (.ref D) (tq e.1) T=.ok (.ref e.2) T:=by rw[G5,h1,j7,ee,j7]
 have hs:EV (j4 sS (jQ 1)<|jQ 3) [.ref d,.ref D,.ref H,tq e.1,y] T=.ok (qO<|(rc e.1).map tq) T1:=by
  unfold EV;have:j4 sS (jQ 1) (jQ 3) [.ref d,.ref D,.ref H,tq e.1,y] T=.ok (.ref e.2) T:=by dsimp[kC,l6,uq,Z]
  rw[this,R.m9];show opt (kc T e.2) _=_;rw[h4,j7,<- g];have:(mk<|rc e.1).map keA=(rc e.1).map tq:=by unfold mk;rw[bg];rfl
  rw[this]
 have cf:=Rq (cap:=[some 3,some 1]) (t:=pR<|j4 (Lj false) (jQ 1)<|j4 sS (jQ 2)<|jQ 0) (e:=jQ 0) hs (λx=>decide<|e.1∈rc (un x)) (λx=>x) (λx Y=>by
  obtain⟨p,P,rfl⟩:=aY.mp Y;obtain⟨f,F,N,V⟩:=look p (sub p P).1;subst N;have i1:sS (.ref D) (tq f.1) T1=.ok (.ref f.2) T1:=by rw[G5,d1,j7,V,j7]
  have i2:Lj false (tq e.1) (.ref f.2) T1=.ok (.bl<|decide<|e.1∈rc f.1) T1:=by rw[WD,c1 f F,j7,isD,CK]
  rw[yY];show pR (j4 (Lj false) (jQ 1)<|j4 sS (jQ 2)<|jQ 0) [tq f.1,tq e.1,.ref D] T1=_;dsimp[kC,l6,bools,uq,i1,i2]) (λx Y _=>by
  obtain⟨p,P,rfl⟩:=aY.mp Y;show jQ 0 (tq p::_) T1=_;dsimp[kC,l6,uq])<|by rw[aG];lia
 have el:((((rc e.1).map tq).filter λx=>decide<|e.1∈rc (un x)).map λx=>x)=((rc e.1).filter λp=>decide<|e.1∈rc p).map tq:=by
  rw[map_id',fW];congr 1;refine jw λp _=>?_;show decide (e.1∈rc (un<|tq p))=_;rw[yY]
 rw[el]at cf;obtain⟨T2,B⟩:∃T2,T2=T1++[O.lst<|((rc e.1).filter λp=>decide<|e.1∈rc p).map tq]:=⟨_,rfl⟩;have k2:kZ T1 T2:=by rw[B];kt_k
 have M:=K_ (S:=T2) (n:=T1.length) (ls:=(rc e.1).filter λp=>decide<|e.1∈rc p) (by rw[B];exact j9) (λl hl=>(sub l (cA.mp hl).1).2)<|eY (c9 _ _) ();rw[<- B]at cf;obtain⟨T3,q⟩:∃T3,T3=T2++[O.lst<|(Cr rc e.1).map tq]:=⟨_,rfl⟩;have M:xj (.ref T1.length) T2=.ok (.ref T2.length) T3:=by rw[q];exact M
 have k3:kZ T2 T3:=by rw[q];kt_k
 have W:jS T3 T2.length=some ((Cr rc e.1).map tq):=by rw[q];exact j9
 have C:=k2.trans k3;have H3:jS T3 H=some xs:=C.lst _ _ (λz=>z)<|U.lst _ _ He h5;have c3:mz T3 e.2=some (mk<|rc e.1):=vD (c1 e he) C λz=>z;have G:Kp (λn=>n=e.2\/n=H) T T3:=(U.mono λ_ _ z=>.inl z).trans C.of0;have L:T.length<=T2.length:=by have:=k2.len;lia
 have lH:=lJ h5;obtain⟨a,t,ha⟩:∃a t,Cr rc e.1=a::t:=by
  cases c:Cr rc e.1 with
  | nil=>exact absurd c ne
  | cons a t=>exact⟨a,t,rfl⟩
 have J:jS T3 T2.length=some (tq a::t.map tq):=by rw[W,ha];rfl
 have k:=aai (S:=T3) (x:=a) (w:=e.1);have K:hq rc e.1=decide (a=e.1):=by
  unfold hq;rw[ha];exact fL.mpr ⟨λz=>br z,λz=>by rw[z];rfl⟩
 by_cases c:a=e.1
 ·have k4:Kp (λn=>n=e.2\/n=H) T3 (T3.set H<|.lst<|xs++[.ref T2.length]):=Kp.refl.pT<|.inl<|.inr rfl;refine⟨T2.length,T3.set H<|.lst<|xs++[.ref T2.length],?_,nB<|by rw[bM ()];exact j_ W,L,?_,vD c3 (show Kp (·=H) T3 _ from Kp.refl.pT<|.inl rfl)<|cR He,G.trans k4⟩
  ·unfold pL;rw[bf c]at k;dsimp[kC,l6,bools,↓cf,M,J,wH,uq,k,H3,pJ<|show xs.length<16777216 by lia]
  ·rw[K,aV<|bf c];exact nB<|by rw[bE<|lJ H3]
 ·refine⟨T2.length,T3,?_,W,L,?_,c3,G⟩
  ·unfold pL;rw[bz c]at k;dsimp[kC,l6,bools,↓cf,M,J,wH,uq,k]
  ·rw[K,aR<|by rw[iF];exact c,bZ];exact H3
end K68
namespace K68
open PySem L2 Am
abbrev zj (os:Os)(rc:ag->Os):List Os:=((kR os).filter<|hq rc).map<|Cr rc
def MT{S:jU}{d:Nat}{kvs:List<|ag×A}(h:mz S d=some kvs)(hne:∀k∈kvs.map (·.1),k≠[])(hl:kvs.length<64):DB (.ref d) S=.ok (.ref S.length) (S++[.lst<|(kR<|kvs.map (·.1)).map tq]):=by
 show opt (mz S d) _=_;rw[h,j7,FW<|Qa hne<|by rw[aG];exact hl];rfl
def zh{S:jU}{d f:Nat}{os:Os}{nx rc:ag->Os}{rs:List<|ag×Nat}(h:kc S d=some (ev rs))(h2:rs.map (·.1)=os)(h3:∀e∈rs,jS S e.2=some ((nx e.1).map tq))(nd:os.Nodup)(ln:os.length<=63)(hf:f<=1000000)(hrc:∀o∈os,rf os nx f [o] [o]=some (rc o))(hne:∀o∈os,o≠[])
  (sub:∀o∈os,(∀p∈rc o,p∈os)/\(rc o).length<=63/\Cr rc o≠[]) :
  ∃(r:Nat) (S':jU),oK [.ref d] S=.ok (.ref r) S'/\Hs S' r r (zj os rc)/\S.length<=r/\Kp (·=d) S S':=by
 obtain⟨S1,es,x1,d1,e1,e2,e3,e4,k1⟩:=aa8 (x1:=.unb) (x2:=.unb) (x3:=.unb) (x4:=.unb) h h2 h3 nd () hf hrc;have sl1:S.length<S1.length:=Su.sC d1;obtain⟨S2,G⟩:∃S2,S2=S1++[O.lst []]:=⟨_,rfl⟩;have k2:kZ S1 S2:=by rw[G];kt_k
 have l2:jS S2 S1.length=some []:=by rw[G];exact j9
 have sl2:S2.length=S1.length+1:=by rw[G,aX];rfl
 have c2:=vD e4 k2 λz=>z;have sf:=MT c2 (by rw[xX,h2];exact hne) (by rw[show(ev rs).length=os.length from by rw[<- h2,aG];exact aG ..];lia);rw[xX,h2]at sf;obtain⟨S3,N⟩:∃S3,S3=S2++[O.lst<|(kR os).map tq]:=⟨_,rfl⟩;rw[<- N]at sf;have k3:kZ S2 S3:=by rw[N];kt_k
 have m3:jS S3 S2.length=some ((kR os).map tq):=by rw[N];exact j9
 have L:=k2.trans k3;have ps:=kN os;have nds:(kR os).Nodup:=ps.nodup_iff.mpr nd;have lso:(kR os).length=os.length:=ps.length_eq;have V:∃(J B:A) (S':jU),mC uf (kB 3) pL [.ref d,.ref S.length,.ref S1.length,.unb,.unb] S2=.nx [.ref d,.ref S.length,.ref S1.length,J,B] S'/\Hs S' S1.length S1.length (zj os rc)/\Kp (λn=>S.length<=n) S3 S':=by
  refine nK (n:=S2.length) (xs:=(kR os).map tq) (S1:=S3) (show uf _ _=_ from lN (by dsimp[kC,l6,bools,sf]) m3)
   (λi τ T=>∃(J B:A) (hs:List<|Os×Nat),τ=[.ref d,.ref S.length,.ref S1.length,J,B]/\i<=(kR os).length/\kc T S.length=some (ev es)/\(∀e∈es,mz T e.2=some (mk<|rc e.1))/\(∀e∈es,e.1∈(kR os).drop i->kc T e.2=some (mk<|rc e.1))/\jS T S1.length=some (hs.map λh=>.ref h.2)/\hs.map (·.1)=(((kR os).take i).filter<|hq rc).map (Cr rc)/\hs.length<=i/\(∀h∈hs,jS T h.2=some (h.1.map tq)/\S1.length<h.2)/\jS T S2.length=some ((kR os).map tq)/\Kp (λn=>S.length<=n) S3 T)
   (λZ=>∃(J B:A) (S':jU),Z=.nx [.ref d,.ref S.length,.ref S1.length,J,B] S'/\Hs S' S1.length S1.length (zj os rc)/\Kp (λn=>S.length<=n) S3 S')
   ⟨_,_,[],rfl,bK _,L.dct _ _ (λz=>z) d1,(λe t=>XI<|L.dct _ _ (λz=>z) (e2 e t).1),(λe t _=>L.dct _ _ (λz=>z) (e2 e t).1),k3.lst _ _ (λz=>z) l2,by rw[eZ];rfl,bK _,(nofun),m3,Kp.refl⟩ (λi τ T z=>?_) ?_ ?_
  ·obtain⟨_,_,_,_,_,_,_,_,_,_,_,_,m,_⟩:=z;exact m
  ·rintro i z τ T hz ⟨J,B,hs,rfl,_,i1,M,i3,i4,i5,i6,i7,i8,kp⟩;rw[aO]at hz;obtain⟨o,Y,rfl⟩:=aW.mp hz;have hi:=(aJ.mp Y).1;have oso:o∈kR os:=a_ Y;have U:o∈os:=ps.mem_iff.mp oso;have:o∈es.map (·.1):=by rw[e1];exact U
   obtain⟨e,t,rfl⟩:=aY.mp this;have dr:e.1∈(kR os).drop i:=bQ.mpr ⟨0,by rw[List.length_drop];lia,by rw[List.getElem_drop];exact(aJ.mp Y).2⟩;have sb:=sub e.1 U;obtain⟨r,T1,b1,b2,b3,b4,b5,b6⟩:=aaL (d:=d) (y:=B) i1 e1 M t nd (i3 e t dr) i4 (by rw[aG];lia) (λp hp=>⟨sb.1 p hp,hne p<|sb.1 p hp⟩) sb.2.1 sb.2.2 (by have:=(e2 e t).2;lia);have eH:∀k∈es,k.2≠S1.length:=λk K z=>by
    have:=GX (M k K) i4;exact this z
   have P:Kp (λn=>n=e.2\/n=S1.length) T T1:=b6;have tl:=kp.len;have tl3:S2.length<S3.length:=lJ m3;refine⟨[.ref d,.ref S.length,.ref S1.length,tq e.1,B],T,rfl,.inl ⟨_,T1,b1,_,_,hs++(if hq rc e.1=true then[(Cr rc e.1,r)]else[]),rfl,hi,?_,?_,?_,?_,?_,?_,?_,?_,?_⟩⟩
   ·exact P.dct _ _ (λz=>z.elim (λz=>by have:=(e2 e t).2;lia) λz=>()) i1
   ·intro k K;by_cases c:k.2=e.2
    ·have a:=M k K;rw[c,M e t]at a;rw[c,b5];exact a
    ·exact vD (M k K) P λz=>z.elim c<|eH k K
   ·intro k K F;have ne:k.2≠e.2:=λc=>by
     have W:k≠e:=λz=>by
      rw[z]at F;obtain⟨j,hj,ej⟩:=bQ.mp F;rw[List.getElem_drop,<- (aJ.mp Y).2]at ej;have:=(cg nds).mp ej
      lia
     have C:=e3;unfold List.Nodup at C;rw[cL]at C;obtain⟨a,ha,rfl⟩:=bQ.mp K;obtain⟨b,hb,rfl⟩:=bQ.mp t
     rcases Nat.lt_trichotomy a b with q|q|q
     ·exact absurd c (b_.mp C a b ha hb q)
     ·subst q;exact W rfl
     ·exact absurd c.symm<|b_.mp C b a hb ha q
    have dr2:k.1∈(kR os).drop i:=by
     rw[<- List.drop_drop]at F;exact List.mem_of_mem_drop F
    exact P.dct _ _ (λz=>z.elim ne<|eH k K)<|i3 k K dr2
   ·rw[b4,bu];by_cases c:hq rc e.1=true
    ·rw[aV c,aV c];rfl
    ·rw[aR c,aR c];rfl
   ·rw[bu,i5,bN,Y,gR,bu];congr 1;show _=((([e.1]:Os).filter<|hq rc).map<|Cr rc);by_cases c:hq rc e.1=true
    ·rw[aV c,dh,aV c];rfl
    ·rw[aR c,dh,aR c];rfl
   ·rw[aX];split
    ·show hs.length+1<=i+1;lia
    ·show hs.length+0<=i+1;lia
   ·intro g hg
    rcases bG.mp hg with z|z
    ·have:=i7 g z;refine⟨P.lst _ _ (λw=>w.elim (λw=>?_) λw=>()) this.1,this.2⟩;exact GX (M e t) this.1 w.symm
    ·split at z
     ·rw[aP.mp z];exact⟨b2,by show S1.length<r;lia⟩
     ·cases z
   ·exact P.lst _ _ (λw=>w.elim (λw=>GX (M e t) i8 w.symm) λw=>()) i8
   ·exact kp.trans<|P.mono λn hn z=>z.elim (λz=>by have:=(e2 e t).2;lia) λz=>()
  ·rintro τ T ⟨J,B,hs,rfl,_,i1,M,i3,i4,i5,i6,i7,i8,kp⟩;rw[aG,bT]at i5;exact⟨J,B,T,rfl,⟨hs,i4,i5,i7⟩,kp⟩
 obtain⟨J,B,S4,x4,h4,k4⟩:=V;refine⟨S1.length,S4,?_,h4,dZ sl1,(k1.trans L.of0).old k4 λn hn _ z=>()⟩;unfold oK wY xh;dsimp[kC,l6,bools,nq,Nat.reduceAdd,Nat.reduceSub,↓x1,<- G,↓x4]
end K68
namespace Nu
open PySem L2
abbrev pU:Nat->Nat
 | 0=>1
 | n+1=>(n+1) * pU n
theorem CZ:∀n,0<pU n
 | 0=>Nat.one_pos
 | n+1=>Nat.mul_pos (succ_pos _)<|CZ n
def EL(n:Nat):pU n<=pU (n+1):=Nat.le_mul_of_pos_left _<|succ_pos _
def Bh{a:Nat}(h:a<=b):pU a<=pU b:=by
 induction h with
 | refl=>exact aM _
 | step _ d=>exact bJ d<|EL _
def VF{n:Nat}(h:n<=20):pU n<=2432902008176640000:=bJ (Bh h) ⋯
abbrev Ut:Nat->ag->Nat->ag
 | 0,_,_=>[]
 | n+1,l,m=>l.getD (m / pU n) 0::Ut n (l.eraseIdx<|m / pU n) (m % pU n)
def LV{n:Nat}(h:m<pU (n+1)):m / pU n<n+1:=(Nat.div_lt_iff_lt_mul<|CZ n).mpr h
def SV{l:ag}{q:Nat}(h:q<l.length):l.getD q 0=l[q]:=by rw[aK,aI h];rfl
end Nu
namespace K68
open PySem L2 Am
open Nu in
def CH{n:Nat}(h:n<=20):mS [.int n] S=.ok (.int<|pU n) S:=by
 have h1:pU (0+1)=1:=rfl;unfold mS vI vO;dsimp[kC,bools,nq,Nat.reduceAdd,Nat.reduceSub];refine Ie (lo:=2) (hi:=(n:Int)+1) (S1:=S) (show wG _ _=_ from Av (S1:=S) (by dsimp[kC,bools]) (by dsimp[kC,bools]) (uv ⋯ ⋯)<|uv () ())
  (λi τ S1=>(∃a,τ=[.int n,.int<|pU<|i+1,a])/\S1=S)
  (λr=>RS.end (RS.seq r<|mH<|jQ 1)=.ok (.int<|pU n) S) ⟨⟨.unb,by dsimp[h1];rfl⟩,rfl⟩ ?_ ?_
 ·rintro i τ S1 hi ⟨⟨a,rfl⟩,rfl⟩;left;have e:WZ (.int<|pU<|i+1) (.int<|2+(i:Int)) S1=.ok (.int<|pU<|i+2) S1:=by
   show gd (xU _ _) _=_;rw[FW (show xU ((pU (i+1):Nat):Int) (2+(i:Int))=true by
    unfold xU;rw[Bool.or_eq_true,fH,fH];exact .inr ⟨bf (),bf ()⟩)]
   rw[show pU (i+2)=(i+2) * pU (i+1)from rfl,mul_comm,Int.natCast_mul];rw[show(2:Int)+(i:Int)=((i+2:Nat):Int)by lia]
  unfold wI;dsimp[kC,bools,e];exact⟨_,_,rfl,⟨_,rfl⟩,rfl⟩
 ·rintro τ S1 ⟨⟨a,rfl⟩,rfl⟩;dsimp[kC,bools];rw[show pU (((n:Int)+1-2).toNat+1)=pU n by
   by_cases z:n=0
   ·subst z;rfl
   ·rw[show((n:Int)+1-2).toNat+1=n by lia]]
def Ow{n:Nat}{xs:ae}(h:jS S n=some xs):A.VB (.ref n) S=some (!xs.isEmpty):=by
 show(jS S n).map _=_;rw[h];rfl
open Nu in
def X3{n:Nat}(h2:n<=20)(hm:m<pU n):∃S',oN [.int n,.int m] S=.ok (.tup<|(Ut n (mJ 1<|(n:Int)+1) m).map .int) S'/\kZ S S':=by
 have Z:=VF h2;unfold oN xg xr;dsimp[kC,l6,bools,nq,Nat.reduceAdd,Nat.reduceSub,Rz,b7,bz<|show ¬(m:Int)<0 by lia,CH h2,bz<|show ¬(pU n:Int)<=(m:Int)by lia,Ly<|Pp (show(-1000000:Int)<=1 by decide) ⋯ (show -1000000<=(n:Int)+1 by lia) () ()];have G:(mJ 1<|(n:Int)+1).length=n:=by rw[tU];lia
 have B:=Ay (t:=uC) (c:=ud)
  (λτ S1=>∃(k q:Nat) (J:A) (d fs:ag),τ=[.int n,.int q,.ref S.length,.ref<|S.length+1,J]/\jS S1 S.length=some (d.map .int)/\jS S1 (S.length+1)=some (fs.map .int)/\d.length=k/\k<=20/\fs.length<=20-k/\q<pU k/\fs++Ut k d q=Ut n (mJ 1<|(n:Int)+1) m/\kZ S S1)
  (λτ S1=>((jS S1 S.length).getD []).length)
  (λr=>∃S',RS.end (RS.seq r<|mH<|ku (f1 ue)<|jR (jQ 3) jW)=.ok (.tup<|(Ut n (mJ 1<|(n:Int)+1) m).map .int) S'/\kZ S S') ?_ 1000000
 ·have N:(S++[O.lst<|(mJ 1<|(n:Int)+1).map A.int]).length=S.length+1:=by simp
  have K:jS (S++[O.lst<|(mJ 1<|(n:Int)+1).map A.int]++[O.lst []]) S.length=some ((mJ 1<|(n:Int)+1).map .int):=lA j9;have g2:jS (S++[O.lst<|(mJ 1<|(n:Int)+1).map A.int]++[O.lst []]) (S.length+1)=some (([]:ag).map .int):=by rw[<- N];exact j9
  rw[N];refine B _ _ ⟨n,m,.unb,mJ 1<|(n:Int)+1,[],rfl,K,g2,G,h2,bK _,hm,rfl,Kp.refl.lay.lay⟩ ?_;show((jS _ S.length).getD []).length<_;rw[K,dW,aG,G];lia
 ·rintro τ S1 ⟨k,q,J,d,fs,rfl,z,p,M,V,lf,hq,g,kp⟩;unfold uC;dsimp[kC,bools,Ow z]
  cases k with
  | zero=>
   left;have:d=[]:=List.eq_nil_of_length_eq_zero M;subst this;have g:fs++[]=_:=g;rw[bZ]at g;refine⟨S1,rfl,S1,?_,kp⟩;dsimp[kC,bools,p,g]
  | succ k=>
   right;have ne:(!(d.map A.int).isEmpty)=true:=by
    cases d with
    | nil=>cases M
    | cons _ _=>rfl
   refine⟨S1,by rw[ne],.inl ?_⟩;have W:=LV hq;have f:q / pU k<d.length:=()
   have fk:=VF (show k<=20 by lia);have Y:=CZ k;have ek:((d.length:Int)-1)=(k:Int):=()
   have P:(q:Int) / (pU k:Int)=((q / pU k:Nat):Int):=(Int.natCast_ediv _ _).symm;have U:=lJ z;have lF:=lJ p;have F:HF (.ref S.length) [.int ((q / pU k:Nat):Int)] S1=.ok (.int<|d.getD (q / pU k) 0) (S1.set S.length<|.lst<|(d.eraseIdx<|q / pU k).map .int):=by
    show opt (jS S1 S.length) _=_;generalize hgj:q / pU k=j at W f;rw[z,j7,FW (),PySem.seqIndex_of ()<|by rw[aG];lia,j7,cU,aO,aI f,fY,j7,SV f];congr 3;rw[iI,iI,bu,List.map_take,List.map_drop]
   have C:jS (S1.set S.length<|.lst<|(d.eraseIdx<|q / pU k).map .int) (S.length+1)=some (fs.map .int):=by rw[nk ()];exact p
   unfold ud;dsimp[kC,bools,z,aG,ek,CH<|show k<=20 by lia,p,Yv (show(0:Int)<(pU k:Int)by lia)<|show(pU k:Int)<18446744073709551616 by lia,P,F,C,pJ<|show fs.length<16777216 by lia,mul_r (show(-18446744073709551616:Int)<(pU k:Int)by lia)<|show(pU k:Int)<18446744073709551616 by lia];have T:(q:Int)-((q / pU k:Nat):Int) * (pU k:Int)=((q % pU k:Nat):Int):=by
    have:=Nat.div_add_mod q<|pU k;rw[mul_comm]at this;rw[<- Int.natCast_mul]
    lia
   rw[T];have L:jS ((S1.set S.length<|.lst<|(d.eraseIdx<|q / pU k).map .int).set (S.length+1)<|.lst<|fs.map A.int++[.int<|d.getD (q / pU k) 0]) S.length=some ((d.eraseIdx<|q / pU k).map .int):=by rw[nk ()];exact pB U
   refine⟨_,_,rfl,⟨k,q % pU k,_,d.eraseIdx<|q / pU k,fs++[d.getD (q / pU k) 0],rfl,L,?_,?_,(),by rw[aX];show fs.length+1<=_;lia,Nat.mod_lt _ Y,?_,(kp.set<|.inr<|aM _).set<|.inr ()⟩,?_⟩
   ·rw[pB<|by rw[bU];lia,bu];rfl
   ·rw[List.length_eraseIdx,aV f];lia
   ·rw[<- g,cJ];rfl
   ·rw[L,dW,dW,aG,aG,List.length_eraseIdx,aV f];lia
abbrev ao (n:Nat):Os:=(List.range<|Nu.pU n).map λm=>Nu.Ut n (mJ 1<|(n:Int)+1) m
def Ng{n:Nat}(hn:n<=4):∃S',mw [.int n] S=.ok (.ref S'.length) (S'++[.lst<|(ao n).map tq])/\kZ S S':=by
 have f4:Nu.pU n<=24:=bJ (Nu.Bh hn) ⋯;have k:=CH (S:=S) (n:=n) ();obtain⟨S',f,p⟩:=zO (cap:=[some 0]) (t:=oZ) (e:=eFn oN<|jR (jQ 1)<|jR (jQ 0) jW) (τ:=[.int (n:Int)]) (S:=S) (S1:=S) (src:=tR<|eFn mS<|jR (jQ 0) jW) (s:=uo 0<|Nu.pU n) (xs:=(List.range<|Nu.pU n).map λm:Nat=>A.int (m:Int)) (Bf (by dsimp[kC,l6,bools,k])<|uv () ()) (by rw[aG,bR];show((Nu.pU n:Int)-0).toNat=_;lia) (λ_=>False) (λT _ i d=>by
   rw[aG,bR]at d;show(if i<((Nu.pU n:Int)-0).toNat then some (A.int<|0+i)else none)=_;rw[aV (),aO,eK d,dm];rfl) (λ_ _=>rfl) (λ_=>true) (λx=>tq<|Nu.Ut n (mJ 1<|(n:Int)+1) (ZH x).toNat) (λx j T z=>⟨T,rfl,Kp.refl,λ_=>by
   obtain⟨m,g,rfl⟩:=aY.mp j;obtain⟨T2,e2,q⟩:=X3 (S:=T) (n:=n) (m:=m) ()<|cF.mp g;refine⟨T2,?_,q⟩;show eFn oN (jR (jQ 1)<|jR (jQ 0) jW) [.int m,.int n] T=_;dsimp[kC,l6,bools,e2];rfl⟩)<|by rw[aG,bR];lia
 refine⟨S',?_,p⟩;have el:((((List.range<|Nu.pU n).map λm:Nat=>A.int (m:Int)).filter λ_=>true).map λx=>tq<|Nu.Ut n (mJ 1<|(n:Int)+1) (ZH x).toNat)=(ao n).map tq:=by
  rw[fF.mpr λ_ _=>rfl,bg];unfold ao;rw[bg];rfl
 rw[el]at f;unfold mw ug ur;dsimp[kC,l6,bools,nq,Nat.reduceAdd,Nat.reduceSub,bz<|show ¬(n:Int)>4 by lia,↓f]
end K68
namespace K68
open PySem L2 Am
open Fw (rg)
abbrev YB (n:Nat)(os:Os)(o:ag):Os:=os.filter λp=>decide ((o,p)∈Ld os) && hof n p o
def Zw{L N:Nat}{os:Os}{o:ag}(hN:N<6)(hm:jS T m=some (os.map tq))(hL:Ks T L M<|Ld os)(ll:os.length<=1000)(lo:o.length=N)(lp:∀p∈os,p.length=N) :
  ∃T',kI [none,some 2,some 0] (kY<|jQ 1) (kB 0) (zU (pR<|j4 (BH false) (pP<|jR (jQ 2)<|jR (jQ 0) jW)<|jQ 1)<|tB<|eFn kH<|jR (jQ 0)<|jR (jQ 2) jW) (jQ 0) [tq o,.ref m,.ref L] T=.ok (.ref T'.length) (T'++[.lst<|(YB N os o).map tq])/\kZ T T':=by
 obtain⟨T',g,B⟩:=xC (cap:=[some 2,some 0]) (t:=zU (pR<|j4 (BH false) (pP<|jR (jQ 2)<|jR (jQ 0) jW)<|jQ 1)<|tB<|eFn kH<|jR (jQ 0)<|jR (jQ 2) jW) (e:=jQ 0) (τ:=[tq o,.ref m,.ref L]) (S:=T) (S1:=T) (src:=kY<|jQ 1) (xs:=os.map tq) (lN (by dsimp[kC,l6,bools]) hm) hm (λx=>decide ((o,un x)∈Ld os) && hof N (un x) o) (λx=>x) (λx j T1 k=>by
  obtain⟨p,q,rfl⟩:=aY.mp j;rw[yY];have f:=hL.kp k λz=>z;have d:BH false (.tup [tq o,tq p]) (.ref L) T1=.ok (.bl<|decide<|(o,p)∈Ld os) T1:=f.inq;show ∃T2,zU (pR<|j4 (BH false) (pP<|jR (jQ 2)<|jR (jQ 0) jW)<|jQ 1) (tB<|eFn kH<|jR (jQ 0)<|jR (jQ 2) jW) [tq p,.ref L,tq o] T1=_/\_/\(_->∃T3,jQ 0 [tq p,.ref L,tq o] T2=_/\_);by_cases c:(o,p)∈Ld os
  ·obtain⟨T2,e2,C⟩:=Y3 (S:=T1) (a:=p) (b:=o) hN (lp p q) lo;have e2:kH [tq p,tq o] T1=.ok (.bl<|hof N p o) T2:=e2;rw[bf c]at d;refine⟨T2,?_,C,λ_=>⟨T2,by dsimp[kC,l6,uq],Kp.refl⟩⟩;rw[bf c,Bool.true_and];dsimp[kC,l6,bools,uq,zf,d,e2]
  ·rw[bz c]at d;refine⟨T1,?_,Kp.refl,λ_=>⟨T1,by dsimp[kC,l6,uq],Kp.refl⟩⟩;rw[bz c,Bool.false_and];dsimp[kC,l6,bools,uq,zf,d])<|by rw[aG];lia
 refine⟨T',?_,B⟩;have el:(((os.map tq).filter λx=>decide ((o,un x)∈Ld os) && hof N (un x) o).map λx=>x)=(YB N os o).map tq:=by
  rw[map_id',fW];unfold YB;congr 1;refine jw λp _=>?_;show(decide ((o,un<|tq p)∈Ld os) && hof N (un<|tq p) o)=_;rw[yY]
 rw[el]at g;exact g
structure Okn (n f:Nat)(os:Os)(rc:ag->Os):Prop where
 n6:n<5
 n1:1<=n
 pm:∀o∈os,o.Perm (rg n)/\Iv.inv o<8
 nd:os.Nodup
 ln:os.length<=63
 ff:f<=1000000
 rr:∀o∈os,rf os (YB n os) f [o] [o]=some (rc o)
 sub:∀o∈os,(∀p∈rc o,p∈os)/\(rc o).length<=63/\Cr rc o≠[]
def HK{S:jU}{n f:Nat}{rc:ag->Os}(hn:n<=4)(h:Okn n f (ao n) rc):∃(r:Nat) (S':jU),kL [.int n] S=.ok (.ref r) S'/\Hs S' r r (zj (ao n) rc)/\S.length<=r/\kZ S S':=by
 obtain⟨d,x1,k0⟩:=Ng (S:=S) hn;obtain⟨S1,C⟩:∃S1,S1=d++[O.lst<|(ao n).map tq]:=⟨_,rfl⟩;have k1:kZ S S1:=by rw[C];exact k0.lay
 have l1:jS S1 d.length=some ((ao n).map tq):=by rw[C];exact j9
 rw[<- C]at x1;have ll:=h.ln;obtain⟨L,S2,x2,G,W⟩:=MQ h.n6 h.pm l1 ();have U:=W.lst _ _ (λz=>z) l1;have len1:=k1.len;have Y:=W.len;obtain⟨S3,t⟩:∃S3,S3=S2++[O.dct []]:=⟨_,rfl⟩;have N:kZ S2 S3:=by rw[t];kt_k
 have d3:kc S3 S2.length=some (ev []):=by rw[t];exact Su.nX
 have lm:d.length<S2.length:=lJ U;have lL:L<S2.length:=by
  obtain⟨kvs,z,_⟩:=G.ex;exact(aJ.mp<|qA z).1
 have Z:=N.lst _ _ (λz=>z) U;obtain⟨τ',S4,e4,es,p1,p2,p3,B⟩:=Ku (st:=n9) (s:=lU d.length ((ao n).map tq).length) (g:=kB 0) (ek:=jQ 0) (ev:=kI [none,some 2,some 0] (kY<|jQ 1) (kB 0) (zU (pR<|j4 (BH false) (pP<|jR (jQ 2)<|jR (jQ 0) jW)<|jQ 1)<|tB<|eFn kH<|jR (jQ 0)<|jR (jQ 2) jW)<|jQ 0) (n:=S2.length)
  (λi T=>∃es:List<|ag×Nat,kc T S2.length=some (ev es)/\es.map (·.1)=(ao n).take i/\(∀e∈es,jS T e.2=some ((YB n (ao n) e.1).map tq))/\Kp (·=S2.length) S3 T) (λτ=>∃y,τ=[y,.ref d.length,.ref L]) (λi τ T J hq hP=>by
   obtain⟨y,rfl⟩:=hq;obtain⟨es,p1,p2,p3,B⟩:=hP;have J:i<((ao n).map tq).length:=J;rw[aG]at J;have V:(ao n)[i]∈ao n:=di J;have K:=B.lst _ _ () Z;have qT:=(G.kp N λz=>z).kp B ();obtain⟨T1,y1,q1⟩:=Zw (o:=(ao n)[i]) (dQ h.n6) K qT () (pN (h.pm _ V).1) λp hp=>pN (h.pm p hp).1;obtain⟨T2,F⟩:∃T2,T2=T1++[O.lst<|(YB n (ao n) (ao n)[i]).map tq]:=⟨_,rfl⟩;rw[<- F]at y1;have G:kZ T T2:=by rw[F];exact q1.lay
   have t2:jS T2 T1.length=some ((YB n (ao n) (ao n)[i]).map tq):=by rw[F];exact j9
   have q:=G.dct _ _ (λz=>z) p1;have new:(ao n)[i]∉(ev es).map (·.1):=by
    rw[xX,p2];intro z;obtain⟨j,hj,e⟩:=bQ.mp z;rw[iG]at e;have lj:j<i:=by rw[bY]at hj;lia
    have:=(cg h.nd).mp e
    lia
   have e5:n9 (.ref S2.length) (tq (ao n)[i]) (.ref T1.length) T2=.ok Unit.unit (T2.set S2.length<|.dct<|ev<|es++[((ao n)[i],T1.length)]):=by
    have:=Su.rK (n:=S2.length) (o:=(ao n)[i]) (v:=.ref T1.length) (S:=T2);rw[q,j7,zG new]at this;refine this.trans ?_;have le:es.length=i:=by have:=cV List.length p2;rw[aG,bY]at this;lia
    rw[pJ<|by unfold ev;rw[aG];lia];unfold ev;rw[bu];rfl
   have M:Kp (·=S2.length) T2 (T2.set S2.length<|.dct<|ev<|es++[((ao n)[i],T1.length)]):=Kp.refl.pT<|.inl rfl;refine⟨tq (ao n)[i],[tq (ao n)[i],.ref d.length,.ref L],T,tq (ao n)[i],T,.ref T1.length,T2,_,?_,rfl,⟨_,rfl⟩,rfl,y1,e5,es++[((ao n)[i],T1.length)],?_,?_,λe he=>?_,(B.trans G.of0).trans M⟩
   ·show(jS T d.length).bind _=_;rw[K];show((ao n).map tq)[i]?=_;rw[aO,aI J];rfl
   ·exact qo (by rw[bE<|Su.sC q])
   ·rw[bu,p2,bN,aI J];rfl
   ·rcases bG.mp he with z|z
    ·have a:=G.lst _ _ (λz=>z)<|p3 e z;exact M.lst _ _ (λw=>Su.mW q a w.symm) a
    ·rw[aP.mp z];exact M.lst _ _ (λw=>Su.mW q t2 w.symm) t2) (λT hP=>by
   obtain⟨es,p1,p2,p3,B⟩:=hP;have K:=B.lst _ _ () Z;show(match jS T d.length with
    | some ys=>decide (ys.length<=((ao n).map tq).length)
    | none=>false)=true
   rw[K];exact bf<|aM _) ((ao n).map tq).length 0 (lG [none,some 1,some 2] [.int n,.ref d.length,.ref L]) S3 rfl ⟨_,rfl⟩ ⟨[],d3,rfl,(nofun),Kp.refl⟩
 have P:MI (.dct []) n9 [none,some 1,some 2] (kY<|jQ 1) (kB 0) oZ (jQ 0) (kI [none,some 2,some 0] (kY<|jQ 1) (kB 0) (zU (pR<|j4 (BH false) (pP<|jR (jQ 2)<|jR (jQ 0) jW)<|jQ 1)<|tB<|eFn kH<|jR (jQ 0)<|jR (jQ 2) jW)<|jQ 0) [.int n,.ref d.length,.ref L] S2=.ok (.ref S2.length) S4:=by
  have hs:kY (jQ 1) [.int n,.ref d.length,.ref L] S2=.ok (lU d.length ((ao n).map tq).length) S2:=lN (by dsimp[kC,l6]) U;unfold MI;rw[hs,R.m9,<- t];show(yQ _ _ _ _ _ _ _ ((ao n).map tq).length 0 _ _).nJ _=_;rw[e4];rfl
 have p2:es.map (·.1)=ao n:=by
  have:(lU d.length ((ao n).map tq).length).k=(ao n).length:=aG ..;rw[this,bT]at p2;exact p2
 obtain⟨r,S5,x5,h5,l5,k5⟩:=zh p1 p2 p3 h.nd () h.ff h.rr (λo V z=>by have:=pN (h.pm o V).1;rw[z]at this;have:=h.n1;simp at *;lia) h.sub;have len3:S3.length=S2.length+1:=by rw[t,aX];rfl
 have len4:=B.len;refine⟨r,S5,?_,h5,(),(((k1.trans W).trans N).old B λm hm _ z=>()).old k5 λm hm _ z=>()⟩;unfold kL qH qN;dsimp[kC,l6,bools,nq,Nat.reduceAdd,Nat.reduceSub,x1,x2,↓P,x5]
end K68
namespace K68
open PySem L2 Am
abbrev lz (os:Os)(t:List Os)(o:ag):Os:=(((os.zip t).find? λe=>decide<|e.1=o).map (·.2)).getD []
abbrev nxl (n:Nat)(L:List nG)(os:Os)(o:ag):Os:=os.filter λp=>decide ((o,p)∈L) && hof n p o
theorem z9{os:Os}{nx nx':ag->Os}(h:∀o∈os,nx o=nx' o):∀(f:Nat) (R W:Os),rf os nx f R W=rf os nx' f R W
 | 0,_,_=>rfl
 | f+1,R,W=>by
  unfold rf;have e:(R.length<1000/\W.length<1000/\∀o∈W,o∈os/\(nx o).length<1000) ↔ (R.length<1000/\W.length<1000/\∀o∈W,o∈os/\(nx' o).length<1000):=
   ⟨λz=>⟨z.1,z.2.1,λo d=>⟨(z.2.2 o d).1,by rw[<- h o (z.2.2 o d).1];exact(z.2.2 o d).2⟩⟩,λz=>⟨z.1,z.2.1,λo d=>⟨(z.2.2 o d).1,by rw[h o (z.2.2 o d).1];exact(z.2.2 o d).2⟩⟩⟩
  by_cases c:R.length<1000/\W.length<1000/\∀o∈W,o∈os/\(nx o).length<1000
  ·rw[aV c,aV<|e.mp c]
   cases j:W.getLast? with
   | none=>rfl
   | some g=>
    have:=h g (c.2.2 g<|List.mem_of_getLast? j).1;dsimp only;rw[this];exact z9 h f _ _
  ·rw[aR c,aR λz=>c<|e.mpr z]
def CY{n:Nat}{L:List nG}{X:List Os}(h4:n<5)(h1:1<=n)(pm:∀o∈ao n,o.Perm (Fw.rg n)/\Iv.inv o<8)(nd:(ao n).Nodup)(ln:(ao n).length<=63)(ld:Ld (ao n)=L)(nx:∀o∈ao n,nxl n L (ao n) o=lz (ao n) X o)(rr:∀o∈ao n,rf (ao n) (lz (ao n) X) 200 [o] [o]=some (lz (ao n) C o))
  (sub:∀o∈ao n,(∀p∈lz (ao n) C o,p∈ao n)/\(lz (ao n) C o).length<=63/\Cr (lz (ao n) C) o≠[]):Okn n 200 (ao n) (lz (ao n) C):=⟨h4,h1,pm,nd,ln,by decide,λo d=>by
 rw[z9 (nx':=lz (ao n) X) λp f=>by rw[<- nx p f,<- ld];rfl];exact rr o d,sub⟩
abbrev Lq1:List nG:=[]
abbrev Xq1:List Os:=[[]]
abbrev Xg:List Os:=[[[1]]]
abbrev Gq1:List Os:=[[[1]]]
abbrev Lq2:List nG:=[([1,2],[2,1]),([2,1],[1,2])]
abbrev Xq2:List Os:=[[[2,1]],[]]
abbrev W7:List Os:=[[[1,2],[2,1]],[[2,1]]]
abbrev Gq2:List Os:=[[[1,2]],[[2,1]]]
abbrev Lq3:List nG:=[([1,2,3],[1,3,2]),([1,3,2],[1,2,3]),([1,2,3],[2,1,3]),([2,1,3],[1,2,3]),([1,3,2],[2,3,1]),([2,3,1],[1,3,2]),([2,1,3],[2,3,1]),([2,3,1],[2,1,3]),([1,3,2],[3,1,2]),([3,1,2],[1,3,2]),([2,1,3],[3,1,2]),([3,1,2],[2,1,3]),([2,3,1],[3,2,1]),([3,2,1],[2,3,1]),([3,1,2],[3,2,1]),([3,2,1],[3,1,2])]
abbrev Xq3:List Os:=[[[1,3,2],[2,1,3]],[[3,1,2]],[[2,3,1]],[[2,1,3],[3,2,1]],[[1,3,2],[3,2,1]],[]]
abbrev YY:List Os:=[[[1,2,3],[1,3,2],[2,1,3],[2,3,1],[3,2,1],[3,1,2]],[[1,3,2],[3,1,2],[3,2,1]],[[2,1,3],[2,3,1],[3,2,1]],[[2,3,1],[2,1,3],[3,2,1]],[[3,1,2],[1,3,2],[3,2,1]],[[3,2,1]]]
abbrev Gq3:List Os:=[[[1,2,3]],[[1,3,2],[3,1,2]],[[2,1,3],[2,3,1]],[[3,2,1]]]
abbrev Lq4:List nG:=[([1,2,3,4],[1,2,4,3]),([1,2,4,3],[1,2,3,4]),([1,2,3,4],[1,3,2,4]),([1,3,2,4],[1,2,3,4]),([1,2,4,3],[1,3,4,2]),([1,3,4,2],[1,2,4,3]),([1,3,2,4],[1,3,4,2]),([1,3,4,2],[1,3,2,4]),([1,2,4,3],[1,4,2,3]),([1,4,2,3],[1,2,4,3]),([1,3,2,4],[1,4,2,3]),([1,4,2,3],[1,3,2,4]),([1,3,4,2],[1,4,3,2]),([1,4,3,2],[1,3,4,2]),([1,4,2,3],[1,4,3,2]),([1,4,3,2],[1,4,2,3]),([1,2,3,4],[2,1,3,4]),([2,1,3,4],[1,2,3,4]),([1,2,4,3],[2,1,4,3]),([2,1,4,3],[1,2,4,3]),([2,1,3,4],[2,1,4,3]),([2,1,4,3],[2,1,3,4]),([1,3,2,4],[2,3,1,4]),([2,3,1,4],[1,3,2,4]),([2,1,3,4],[2,3,1,4]),([2,3,1,4],[2,1,3,4]),([1,3,4,2],[2,3,4,1]),([2,3,4,1],[1,3,4,2]),([2,1,4,3],[2,3,4,1]),([2,3,4,1],[2,1,4,3]),([2,3,1,4],[2,3,4,1]),([2,3,4,1],[2,3,1,4]),([1,4,2,3],[2,4,1,3]),([2,4,1,3],[1,4,2,3]),([2,1,4,3],[2,4,1,3]),([2,4,1,3],[2,1,4,3]),([2,3,1,4],[2,4,1,3]),([2,4,1,3],[2,3,1,4]),([1,4,3,2],[2,4,3,1]),([2,4,3,1],[1,4,3,2]),([2,3,4,1],[2,4,3,1]),([2,4,3,1],[2,3,4,1]),([2,4,1,3],[2,4,3,1]),([2,4,3,1],[2,4,1,3]),([1,3,2,4],[3,1,2,4]),([3,1,2,4],[1,3,2,4]),([2,1,3,4],[3,1,2,4]),([3,1,2,4],[2,1,3,4]),([1,3,4,2],[3,1,4,2]),([3,1,4,2],[1,3,4,2]),([2,1,4,3],[3,1,4,2]),([3,1,4,2],[2,1,4,3]),([3,1,2,4],[3,1,4,2]),([3,1,4,2],[3,1,2,4]),([2,3,1,4],[3,2,1,4]),([3,2,1,4],[2,3,1,4]),([3,1,2,4],[3,2,1,4]),([3,2,1,4],[3,1,2,4]),([2,3,4,1],[3,2,4,1]),([3,2,4,1],[2,3,4,1]),([3,1,4,2],[3,2,4,1]),([3,2,4,1],[3,1,4,2]),([3,2,1,4],[3,2,4,1]),([3,2,4,1],[3,2,1,4]),([1,3,2,4],[3,4,1,2]),([3,4,1,2],[1,3,2,4]),([1,4,3,2],[3,4,1,2]),([3,4,1,2],[1,4,3,2]),([2,4,1,3],[3,4,1,2]),([3,4,1,2],[2,4,1,3]),([3,1,4,2],[3,4,1,2]),([3,4,1,2],[3,1,4,2]),([3,2,1,4],[3,4,1,2]),([3,4,1,2],[3,2,1,4]),([2,4,3,1],[3,4,2,1]),([3,4,2,1],[2,4,3,1]),([3,2,4,1],[3,4,2,1]),([3,4,2,1],[3,2,4,1]),([3,4,1,2],[3,4,2,1]),([3,4,2,1],[3,4,1,2]),([1,4,2,3],[4,1,2,3]),([4,1,2,3],[1,4,2,3]),([2,1,4,3],[4,1,2,3]),([4,1,2,3],[2,1,4,3]),([3,1,2,4],[4,1,2,3]),([4,1,2,3],[3,1,2,4]),([1,4,3,2],[4,1,3,2]),([4,1,3,2],[1,4,3,2]),([3,1,4,2],[4,1,3,2]),([4,1,3,2],[3,1,4,2]),([4,1,2,3],[4,1,3,2]),([4,1,3,2],[4,1,2,3]),([2,4,1,3],[4,2,1,3]),([4,2,1,3],[2,4,1,3]),([3,2,1,4],[4,2,1,3]),([4,2,1,3],[3,2,1,4]),([4,1,2,3],[4,2,1,3]),([4,2,1,3],[4,1,2,3]),([2,1,4,3],[4,2,3,1]),([4,2,3,1],[2,1,4,3]),([2,4,3,1],[4,2,3,1]),([4,2,3,1],[2,4,3,1]),([3,2,4,1],[4,2,3,1]),([4,2,3,1],[3,2,4,1]),([4,1,3,2],[4,2,3,1]),([4,2,3,1],[4,1,3,2]),([4,2,1,3],[4,2,3,1]),([4,2,3,1],[4,2,1,3]),([3,4,1,2],[4,3,1,2]),([4,3,1,2],[3,4,1,2]),([4,1,3,2],[4,3,1,2]),([4,3,1,2],[4,1,3,2]),([4,2,1,3],[4,3,1,2]),([4,3,1,2],[4,2,1,3]),([3,4,2,1],[4,3,2,1]),([4,3,2,1],[3,4,2,1]),([4,2,3,1],[4,3,2,1]),([4,3,2,1],[4,2,3,1]),([4,3,1,2],[4,3,2,1]),([4,3,2,1],[4,3,1,2])]
abbrev Xq4:List Os:=[[[1,2,4,3],[1,3,2,4],[2,1,3,4]],[[1,4,2,3],[2,1,4,3]],[[1,3,4,2],[3,1,2,4]],[[1,3,2,4],[1,4,3,2],[3,1,4,2]],[[1,2,4,3],[1,4,3,2],[4,1,2,3]],[[4,1,3,2]],[[2,1,4,3],[2,3,1,4]],[[2,4,1,3]],[[2,1,3,4],[2,3,4,1],[3,2,1,4]],[[2,1,4,3],[2,3,1,4],[2,4,3,1],[3,2,4,1]],[[2,1,4,3],[2,4,3,1],[4,2,1,3]],[[4,2,3,1]],[[1,3,2,4],[3,1,4,2],[3,2,1,4]],[[3,4,1,2]],[[3,2,4,1]],[[3,2,1,4],[3,4,2,1]],[[1,4,3,2],[3,1,4,2],[3,2,1,4],[3,4,2,1],[4,3,1,2]],[[3,2,4,1],[4,3,2,1]],[[1,4,2,3],[2,1,4,3],[4,1,3,2],[4,2,1,3]],[[1,4,3,2],[4,3,1,2]],[[4,2,3,1]],[[2,4,3,1],[4,2,1,3],[4,3,2,1]],[[4,1,3,2],[4,3,2,1]],[]]
abbrev Zs:List Os:=[[[1,2,3,4],[1,2,4,3],[1,3,2,4],[2,1,3,4],[2,1,4,3],[2,3,1,4],[2,3,4,1],[3,2,1,4],[3,2,4,1],[3,4,2,1],[4,3,2,1],[2,4,3,1],[4,2,3,1],[4,2,1,3],[2,4,1,3],[1,3,4,2],[3,1,2,4],[3,1,4,2],[3,4,1,2],[1,4,3,2],[4,3,1,2],[4,1,3,2],[1,4,2,3],[4,1,2,3]],[[1,2,4,3],[1,4,2,3],[2,1,4,3],[2,4,1,3],[2,4,3,1],[4,2,1,3],[4,2,3,1],[4,3,2,1],[1,4,3,2],[4,1,2,3],[4,1,3,2],[4,3,1,2]],[[1,3,2,4],[1,3,4,2],[3,1,2,4],[3,1,4,2],[3,2,1,4],[3,2,4,1],[3,4,2,1],[4,3,2,1],[3,4,1,2],[1,4,3,2],[4,3,1,2],[4,1,3,2]],[[1,3,4,2],[1,3,2,4],[1,4,3,2],[3,1,4,2],[3,4,1,2],[3,2,1,4],[3,4,2,1],[4,3,1,2],[4,1,3,2],[4,3,2,1],[3,2,4,1],[3,1,2,4]],[[1,4,2,3],[1,2,4,3],[1,4,3,2],[4,1,2,3],[2,1,4,3],[4,1,3,2],[4,2,1,3],[4,2,3,1],[2,4,3,1],[4,3,2,1],[4,3,1,2],[2,4,1,3]],[[1,4,3,2],[4,1,3,2],[4,3,1,2],[4,3,2,1]],[[2,1,3,4],[2,1,4,3],[2,3,1,4],[2,3,4,1],[3,2,1,4],[3,2,4,1],[3,4,2,1],[4,3,2,1],[2,4,3,1],[4,2,3,1],[4,2,1,3],[2,4,1,3]],[[2,1,4,3],[2,4,1,3],[2,4,3,1],[4,2,1,3],[4,2,3,1],[4,3,2,1]],[[2,3,1,4],[2,1,3,4],[2,3,4,1],[3,2,1,4],[3,2,4,1],[3,4,2,1],[4,3,2,1],[2,1,4,3],[2,4,3,1],[4,2,3,1],[4,2,1,3],[2,4,1,3]],[[2,3,4,1],[2,1,4,3],[2,3,1,4],[2,4,3,1],[3,2,4,1],[3,2,1,4],[3,4,2,1],[4,3,2,1],[4,2,3,1],[4,2,1,3],[2,1,3,4],[2,4,1,3]],[[2,4,1,3],[2,1,4,3],[2,4,3,1],[4,2,1,3],[4,2,3,1],[4,3,2,1]],[[2,4,3,1],[4,2,3,1],[4,2,1,3],[4,3,2,1]],[[3,1,2,4],[1,3,2,4],[3,1,4,2],[3,2,1,4],[3,2,4,1],[3,4,2,1],[4,3,2,1],[3,4,1,2],[1,4,3,2],[4,3,1,2],[4,1,3,2],[1,3,4,2]],[[3,1,4,2],[3,4,1,2],[1,4,3,2],[3,2,1,4],[3,4,2,1],[4,3,1,2],[4,1,3,2],[4,3,2,1],[3,2,4,1]],[[3,2,1,4],[3,2,4,1],[3,4,2,1],[4,3,2,1]],[[3,2,4,1],[3,2,1,4],[3,4,2,1],[4,3,2,1]],[[3,4,1,2],[1,4,3,2],[3,1,4,2],[3,2,1,4],[3,4,2,1],[4,3,1,2],[4,1,3,2],[4,3,2,1],[3,2,4,1]],[[3,4,2,1],[3,2,4,1],[4,3,2,1],[3,2,1,4]],[[4,1,2,3],[1,4,2,3],[2,1,4,3],[4,1,3,2],[4,2,1,3],[4,2,3,1],[2,4,3,1],[4,3,2,1],[1,4,3,2],[4,3,1,2],[2,4,1,3],[1,2,4,3]],[[4,1,3,2],[1,4,3,2],[4,3,1,2],[4,3,2,1]],[[4,2,1,3],[4,2,3,1],[2,4,3,1],[4,3,2,1]],[[4,2,3,1],[2,4,3,1],[4,2,1,3],[4,3,2,1]],[[4,3,1,2],[4,1,3,2],[4,3,2,1],[1,4,3,2]],[[4,3,2,1]]]
abbrev Gq4:List Os:=[[[1,2,3,4]],[[1,2,4,3],[1,4,2,3],[4,1,2,3]],[[1,3,2,4],[1,3,4,2],[3,1,2,4]],[[1,4,3,2],[4,1,3,2],[4,3,1,2]],[[2,1,3,4],[2,3,1,4],[2,3,4,1]],[[2,1,4,3],[2,4,1,3]],[[2,4,3,1],[4,2,1,3],[4,2,3,1]],[[3,1,4,2],[3,4,1,2]],[[3,2,1,4],[3,2,4,1],[3,4,2,1]],[[4,3,2,1]]]
def pm1:∀o∈ao 1,o.Perm (Fw.rg 1)/\Iv.inv o<8:=by decide +kernel
def nd1:(ao 1).Nodup:=by decide +kernel
def lq1:Ld (ao 1)=Lq1:=by decide +kernel
def nx1:∀o∈ao 1,nxl 1 Lq1 (ao 1) o=lz (ao 1) Xq1 o:=by decide +kernel
def rr1:∀o∈ao 1,rf (ao 1) (lz (ao 1) Xq1) 200 [o] [o]=some (lz (ao 1) Xg o):=by decide +kernel
def sb1:∀o∈ao 1,(∀p∈lz (ao 1) Xg o,p∈ao 1)/\(lz (ao 1) Xg o).length<=63/\Cr (lz (ao 1) Xg) o≠[]:=by decide +kernel
def gt1:zj (ao 1) (lz (ao 1) Xg)=Gq1:=by decide +kernel
def on1:Okn 1 200 (ao 1) (lz (ao 1) Xg):=CY ⋯ ⋯ pm1 nd1 ∅ lq1 nx1 rr1 sb1
def pm2:∀o∈ao 2,o.Perm (Fw.rg 2)/\Iv.inv o<8:=by decide +kernel
def nd2:(ao 2).Nodup:=by decide +kernel
def lq2:Ld (ao 2)=Lq2:=by decide +kernel
def nx2:∀o∈ao 2,nxl 2 Lq2 (ao 2) o=lz (ao 2) Xq2 o:=by decide +kernel
def rr2:∀o∈ao 2,rf (ao 2) (lz (ao 2) Xq2) 200 [o] [o]=some (lz (ao 2) W7 o):=by decide +kernel
def sb2:∀o∈ao 2,(∀p∈lz (ao 2) W7 o,p∈ao 2)/\(lz (ao 2) W7 o).length<=63/\Cr (lz (ao 2) W7) o≠[]:=by decide +kernel
def gt2:zj (ao 2) (lz (ao 2) W7)=Gq2:=by decide +kernel
def on2:Okn 2 200 (ao 2) (lz (ao 2) W7):=CY ⋯ ⋯ pm2 nd2 ∅ lq2 nx2 rr2 sb2
def pm3:∀o∈ao 3,o.Perm (Fw.rg 3)/\Iv.inv o<8:=by decide +kernel
def nd3:(ao 3).Nodup:=by decide +kernel
def lq3:Ld (ao 3)=Lq3:=by decide +kernel
def nx3:∀o∈ao 3,nxl 3 Lq3 (ao 3) o=lz (ao 3) Xq3 o:=by decide +kernel
def rr3:∀o∈ao 3,rf (ao 3) (lz (ao 3) Xq3) 200 [o] [o]=some (lz (ao 3) YY o):=by decide +kernel
def sb3:∀o∈ao 3,(∀p∈lz (ao 3) YY o,p∈ao 3)/\(lz (ao 3) YY o).length<=63/\Cr (lz (ao 3) YY) o≠[]:=by decide +kernel
def gt3:zj (ao 3) (lz (ao 3) YY)=Gq3:=by decide +kernel
def on3:Okn 3 200 (ao 3) (lz (ao 3) YY):=CY ⋯ ⋯ pm3 nd3 ∅ lq3 nx3 rr3 sb3
def pm4:∀o∈ao 4,o.Perm (Fw.rg 4)/\Iv.inv o<8:=by decide +kernel
def nd4:(ao 4).Nodup:=by decide +kernel
def lq4:Ld (ao 4)=Lq4:=by decide +kernel
def nx4:∀o∈ao 4,nxl 4 Lq4 (ao 4) o=lz (ao 4) Xq4 o:=by decide +kernel
def rr4:∀o∈ao 4,rf (ao 4) (lz (ao 4) Xq4) 200 [o] [o]=some (lz (ao 4) Zs o):=by decide +kernel
def sb4:∀o∈ao 4,(∀p∈lz (ao 4) Zs o,p∈ao 4)/\(lz (ao 4) Zs o).length<=63/\Cr (lz (ao 4) Zs) o≠[]:=by decide +kernel
def gt4:zj (ao 4) (lz (ao 4) Zs)=Gq4:=by decide +kernel
def on4:Okn 4 200 (ao 4) (lz (ao 4) Zs):=CY ⋯ ⋯ pm4 nd4 ∅ lq4 nx4 rr4 sb4
end K68
namespace K68
open PySem L2 Am
def FY{xs:ag}{n:Nat}(px:xs.Perm<|mJ 1<|(n:Int)+1):xs.length=n:=by have:=ND px ();lia
def Hy{xs:ag}{n:Int}(px:xs.Perm<|mJ 1<|n+1):xs.Nodup:=px.nodup_iff.mpr<|se _ _
def Va{xs:ag}{n:Nat}(px:xs.Perm<|mJ 1<|(n:Int)+1)(h2:n<=1000):∃(ys:ag) (S':jU),tO [.tup<|xs.map .int] S=.ok (.tup<|ys.map .int) S'/\Bl.Dm xs ys/\ys.Perm (mJ 1<|(n:Int)+1)/\kZ S S':=by
 have M:=FY px;unfold tO HP GI;dsimp[kC,bools,nq,Nat.reduceAdd,Nat.reduceSub,aG,M];rw[aaW (k:=n) j9 ()];dsimp[kC,bools];have f:(S++[O.lst [.int 0]]).length=S.length+1:=by simp
 rw[f];refine Pw (xs:=xs.map .int) (S1:=S++[O.lst [.int 0]]++[O.lst<|List.replicate n<|.int 0]) (Rt<|by dsimp[kC,bools])
  (λt τ S'=>∃(q B:A) (ps:ag),τ=[.tup<|xs.map .int,.ref<|S.length+1,q,B]/\jS S' (S.length+1)=some (ps.map .int)/\ps.length=n/\(∀(p:Nat) (h:p<xs.length),p<t->ps[(xs[p]-1).toNat]?=some ((p:Int)+1))/\kZ S S')
  (λr=>∃(ys:ag) (S':jU),RS.end (RS.seq r _)=.ok (.tup<|ys.map .int) S'/\Bl.Dm xs ys/\ys.Perm (mJ 1<|(n:Int)+1)/\kZ S S') ⟨.unb,.unb,List.replicate n 0,rfl,?_,by simp,λ_ _ h=>absurd h<|eB _,Kp.refl.lay.lay⟩ ?_ ?_
 ·rw[List.map_replicate,<- f];exact j9
 ·rintro t x τ S' F ⟨q,B,ps,rfl,j,G,d,C⟩;rw[aO]at F;obtain⟨v,hv,rfl⟩:=aW.mp F;obtain⟨N,ev⟩:=aJ.mp hv;have mv:=ER px<|a_ hv;refine⟨_,_,by dsimp[kC,bools,o6<|show([_,_]:ae).length=2 from rfl];rfl,.inl ?_⟩;have K:Em ps.length (v-1)=some (v-1).toNat:=yS () ();have J:=lJ j;unfold E5;dsimp[kC,bools,j,aG,K];refine⟨_,_,rfl,_,_,ps.set (v-1).toNat<|(t:Int)+1,rfl,?_,by rw[bU];exact G,λp g L=>?_,C.set<|.inr ()⟩
  ·rw[pB J,jH]
  ·by_cases e:p=t
   ·subst e;rw[ev,bE ()]
   ·have ne:(xs[p]-1).toNat≠(v-1).toNat:=λz=>by
     have mp:=ER px<|di g;have:xs[p]=xs[t]:=by rw[ev];lia
     exact e<|(cg<|Hy px).mp this
    rw[bM<|cR ne];exact d p g ()
 ·rintro τ S' ⟨q,B,ps,rfl,j,G,d,C⟩;rw[aG]at d;refine⟨ps,S',by dsimp[kC,bools,j],⟨(),λp h=>d p h h⟩,?_,C⟩;refine(yZ (se _ _) (λv hv=>?_)<|by rw[tU];lia).symm;have:=rQ.mp hv;have g:(v-1).toNat<xs.length:=()
  have:=a_ (d (v-1).toNat g g)
  rwa [show(((v-1).toNat:Nat):Int)+1=v by lia]at this
theorem Ew{s:Src}{e:Ex}(P:Nat->ae->jU->Prop)(step:∀i acc T,i<s.k->P i acc T->∃x y T2,s.get i T=some x/\e (x::lG cap τ) T=.ok y T2/\P (i+1) (acc++[y]) T2)(hfin:∀acc T,P s.k acc T->s.fin T=true) :
  ∀k i τ' T acc,k+i=s.k->(∃y,τ'=y::lG cap τ)->P i acc T->∃zs S',mX s (kB 0) oZ e k i τ' T=.ok zs S'/\P s.k (acc++zs) S'/\zs.length=k
 | 0,i,τ',T,acc,hk,_,hP=>by
  have:i=s.k:=()
  subst this;exact⟨[],T,by unfold mX;rw[aV<|hfin _ _ hP],by rw[bZ];exact hP,rfl⟩
 | k+1,i,τ',T,acc,hk,hy,hP=>by
  obtain⟨d,rfl⟩:=hy;obtain⟨x,y,T2,e1,e2,p2⟩:=step i acc T () hP;obtain⟨zs,S',h1,h2,h3⟩:=Ew P step hfin k (i+1) (x::lG cap τ) T2 (acc++[y]) () ⟨x,rfl⟩ p2;refine⟨y::zs,S',?_,by rw[cJ]at h2;exact h2,by rw[bA,h3]⟩;unfold mX;rw[e1,j7];rw[Oa,R.kK,show oZ ((d::lG cap τ).set 0 x) T=.ok true T from rfl,R.kK];show((e (x::lG cap τ) T).nJ _)=_;rw[e2,R.kK];show(mX s (kB 0) oZ e k (i+1) (x::lG cap τ) T2).nJ _=_;rw[h1,R.kK]
def AQ{n:Nat}{xs:ae}{src:Ic}{e:Ex}(hs:src τ S=.ok (lU n xs.length) S1)(P:Nat->ae->jU->Prop)(hx:∀i acc T,P i acc T->jS T n=some xs)(p0:P 0 [] S1)
  (step:∀(i:Nat) (x:A) acc T,xs[i]?=some x->P i acc T->∃y T2,e (x::lG cap τ) T=.ok y T2/\P (i+1) (acc++[y]) T2) (hl:xs.length<=16777216) :
  ∃ys S',kI (none::cap) src (kB 0) oZ e τ S=.ok (.ref S'.length) (S'++[.lst ys])/\P xs.length ys S'/\ys.length=xs.length:=by
 obtain⟨zs,S',h1,h2,h3⟩:=Ew (s:=lU n xs.length) (cap:=cap) (e:=e) (τ:=τ) P (λi acc T d hP=>by
  have d:i<xs.length:=d;obtain⟨y,T2,e1,p1⟩:=step i xs[i] acc T (aI d) hP;refine⟨xs[i],y,T2,?_,e1,p1⟩;show(jS T n).bind _=_;rw[hx _ _ _ hP];exact aI d) (λacc T hP=>by
  show(match jS T n with
   | some ys=>decide (ys.length<=xs.length)
   | none=>false)=true
  rw[hx _ _ _ hP];exact bf<|aM _) xs.length 0 (lG (none::cap) τ) S1 [] rfl ⟨_,rfl⟩ p0
 rw[jJ]at h2;refine⟨zs,S',?_,h2,h3⟩;unfold kI;rw[hs,R.m9];show(mX _ _ _ _ xs.length 0 _ S1).nJ _=_;rw[h1,R.kK];exact mR ()
abbrev Lv (g:Os):Os:=kR<|g.map He.bk
abbrev sV (g:Os):ag:=g.headD []
abbrev BX (gs:List Os):List Os:=(M3<|gs.map λg=>sV<|Lv g).map λi=>(gs.map Lv).getD i []
def bko{o:ag}{n:Nat}(p:o.Perm<|Fw.rg n)(hn:n<=20):∃S',tO [tq o] S=.ok (tq<|He.bk o) S'/\kZ S S':=by
 have lo:o.length=n:=by rw[p.length_eq,Wd.mO]
 obtain⟨ys,S',e,b,d,k⟩:=Va (S:=S) (xs:=o) (n:=n) p ();have:ys=He.bk o:=He.LI ⟨p,d,b⟩<|He.NC p;rw[this]at e;exact⟨S',e,k⟩
def wb1{S:jU}{n:Nat}{g:Os}(h:jS S m=some (g.map tq))(hp:∀o∈g,o.Perm<|Fw.rg n)(h1:1<=n)(hn:n<=20)(lg:g.length<=63) :
  ∃R S',ku (f1 xj) (jR (kI [none] (kY<|jQ 0) (kB 0) oZ<|eFn tO<|jR (jQ 0) jW) jW) [.ref m] S=.ok (.ref R) S'/\jS S' R=some ((Lv g).map tq)/\S.length<=R/\kZ S S':=by
 obtain⟨S1,k,C⟩:=xC (cap:=[]) (t:=oZ) (e:=eFn tO<|jR (jQ 0) jW) (τ:=[.ref m]) (S:=S) (S1:=S) (src:=kY<|jQ 0) (xs:=g.map tq) (lN (by dsimp[kC,l6,bools]) h) h (λ_=>true) (λx=>tq<|He.bk<|un x) (λx q T G=>⟨T,rfl,Kp.refl,λ_=>by
  obtain⟨o,j,rfl⟩:=aY.mp q;obtain⟨T2,e2,f⟩:=bko (S:=T) (hp o j) hn;refine⟨T2,?_,f⟩;show eFn tO (jR (jQ 0) jW) [tq o] T=_;rw[yY];dsimp[kC,l6,bools,uq,e2]⟩)<|by rw[aG];lia
 have el:(((g.map tq).filter λ_=>true).map λx=>tq<|He.bk<|un x)=(g.map He.bk).map tq:=by
  rw[fF.mpr λ_ _=>rfl,bg,bg];refine bW λo _=>?_;show tq (He.bk<|un<|tq o)=tq (He.bk o);rw[yY]
 rw[el]at k;obtain⟨S2,d⟩:∃S2,S2=S1++[O.lst<|(g.map He.bk).map tq]:=⟨_,rfl⟩;rw[<- d]at k;have F:jS S2 S1.length=some ((g.map He.bk).map tq):=by rw[d];exact j9
 have f:kZ S S2:=by rw[d];exact C.lay
 have p:=K_ F (λl B=>by
  obtain⟨o,j,rfl⟩:=aY.mp B;intro z;have:=cV List.length z;rw[(He.NC<|hp o j).lu]at this;have:n=0:=this
  lia)<|by rw[aG];lia
 refine⟨S2.length,S2++[O.lst<|(kR<|g.map He.bk).map tq],?_,j9,f.len,f.lay⟩;dsimp[kC,l6,bools,↓k,p]
theorem M4:∀{hs:List<|Os×Nat},(∀h∈hs,jS S h.2=some (h.1.map tq))->(∀h∈hs,h.1≠[])->X9 S (hs.map λh=>.ref h.2)=some (hs.map λh=>sV h.1)
 | [],_,_=>rfl
 | h::hs,h1,h2=>by
  have e:=h1 h<|aL ..;have ne:=h2 h<|aL ..;have j:=M4 (S:=S) (hs:=hs) (λz d=>h1 z<|aQ _ d) λz d=>h2 z<|aQ _ d;show((fsH<|jS S h.2).bind λks=>(X9 S<|hs.map λh=>.ref h.2).map λg=>ks::g)=_;rw[e,j];obtain⟨f,q⟩:=h
  cases f with
  | nil=>exact absurd rfl ne
  | cons o f=>
   show((A.ints<|o.map .int).bind λks=>some (ks::_))=_;rw[ints_map];rfl
def N5{S:jU}{L:Nat}{hs:List<|Os×Nat}(h1:∀h∈hs,jS S h.2=some (h.1.map tq)/\L<h.2)(h2:∀h∈hs,h.1≠[])(nd:(hs.map λh=>sV h.1).Nodup)(hl:hs.length<64) :
  ∃S',LB (hs.map λh=>.ref h.2) S=.ok (.ref S.length) S'/\Hs S' S.length L ((M3<|hs.map λh=>sV h.1).map λi=>(hs.map (·.1)).getD i [])/\kZ S S':=by
 have r:=M4 (λh f=>(h1 h f).1) h2;have a:=SE r nd (by rw[aG];exact hl);have lt:∀i∈M3 (hs.map λh=>sV h.1),i<hs.length:=λi d=>by
  have:=cF.mp ((vV _ _).mem_iff.mp d)
  rwa [aG]at this
 refine⟨_,a,⟨(M3<|hs.map λh=>sV h.1).map λi=>hs.getD i ([],0),?_,?_,?_⟩,Kp.refl.lay⟩
 ·rw[j9,bg];congr 1;refine bW λi d=>?_;have:=lt i d;show(hs.map λh=>A.ref h.2).getD i .non=.ref (hs.getD i ([],0)).2;rw[aK,aO,aK,aI this];rfl
 ·rw[bg];refine bW λi d=>?_;have:=lt i d;show(hs.getD i ([],0)).1=(hs.map (·.1)).getD i [];rw[aK,aK,aO,aI this];rfl
 ·intro h f;obtain⟨i,d,rfl⟩:=aY.mp f;have:=lt i d;have g:hs.getD i ([],0)∈hs:=by rw[aK,aI this];exact di this
  exact⟨lA (h1 _ g).1,(h1 _ g).2⟩
def QG{S:jU}{L:Nat}{hs:List<|Os×Nat}(h0:jS S m=some (hs.map λh=>.ref h.2))(h1:∀h∈hs,jS S h.2=some (h.1.map tq)/\L<h.2)(h2:∀h∈hs,h.1≠[])(nd:(hs.map λh=>sV h.1).Nodup)(hl:hs.length<64) :
  ∃S',GL (.ref m) S=.ok (.ref S.length) S'/\Hs S' S.length L ((M3<|hs.map λh=>sV h.1).map λi=>(hs.map (·.1)).getD i [])/\kZ S S':=by
 obtain⟨S',a,b,c⟩:=N5 h1 h2 nd hl;exact⟨S',(by show opt (jS S m) _=_;rw[h0,j7];exact a),b,c⟩
def Ox{S:jU}{r L n:Nat}{gs:List Os}(h:Hs S r L gs)(hp:∀g∈gs,(∀o∈g,o.Perm<|Fw.rg n)/\g.length<=63/\Lv g≠[])(h1:1<=n)(hn:n<=20)(lg:gs.length<=63)(nd:(gs.map λg=>sV<|Lv g).Nodup) :
  ∃R S',nu [.ref r] S=.ok (.ref R) S'/\Hs S' R (S.length-1) (BX gs)/\S.length<=R/\kZ S S':=by
 obtain⟨hs,B,F,a3⟩:=h.ex;have lr:=lJ B;have V:hs.length=gs.length:=by rw[<- F,aG]
 obtain⟨ys,S1,P,⟨bs,b1,d,p,J⟩,ly⟩:=AQ (cap:=[]) (e:=ku (f1 xj)<|jR (kI [none] (kY<|jQ 0) (kB 0) oZ<|eFn tO<|jR (jQ 0) jW) jW) (τ:=[.ref r]) (S:=S) (S1:=S) (src:=kY<|jQ 0) (xs:=hs.map λh=>.ref h.2) (lN (by dsimp[kC,l6,bools]) B)
  (λi acc T=>∃bs:List<|Os×Nat,acc=bs.map (λh=>.ref h.2)/\bs.map (·.1)=(gs.take i).map Lv/\(∀h∈bs,jS T h.2=some (h.1.map tq)/\S.length-1<h.2)/\kZ S T) (λi acc T z=>by
   obtain⟨_,_,_,_,k⟩:=z;exact k.lst _ _ (λz=>z) B) ⟨[],rfl,rfl,(nofun),Kp.refl⟩ (λi x acc T K z=>by
   obtain⟨bs,rfl,d,p,k⟩:=z;rw[aO]at K;obtain⟨q,hq,rfl⟩:=aW.mp K;have N:=a_ hq;have Z:=k.lst _ _ (λz=>z) (a3 q N).1;have mg:q.1∈gs:=by rw[<- F];exact cu N
   have hg:gs[i]?=some q.1:=by rw[<- F,aO,hq];rfl
   obtain⟨R,T2,e2,C,r2,j⟩:=wb1 Z (hp _ mg).1 h1 hn (hp _ mg).2.1;have M:=k.len;refine⟨.ref R,T2,e2,bs++[(Lv q.1,R)],by rw[bu];rfl,?_,λz U=>?_,k.trans j⟩
   ·rw[bu,d,bN,hg,bu];rfl
   ·rcases bG.mp U with w|w
    ·exact⟨j.lst _ _ (λz=>z) (p z w).1,(p z w).2⟩
    ·rw[aP.mp w];exact⟨C,by show S.length-1<R;lia⟩) (by rw[aG];lia)
 rw[aG,V,bT]at d;obtain⟨S2,f⟩:∃S2,S2=S1++[O.lst ys]:=⟨_,rfl⟩;rw[<- f]at P;have j:kZ S1 S2:=by rw[f];kt_k
 have C:jS S2 S1.length=some (bs.map λh=>.ref h.2):=by rw[f,<- b1];exact j9
 have G:(bs.map λh=>sV h.1)=gs.map λg=>sV (Lv g):=by
  rw[show(bs.map λh=>sV h.1)=(bs.map (·.1)).map sV from by rw[bg];rfl,d,bg];rfl
 obtain⟨S3,W,h3,Y⟩:=QG (L:=S.length-1) C (λh t=>⟨j.lst _ _ (λz=>z) (p h t).1,(p h t).2⟩) (λh t=>by
  have:h.1∈gs.map Lv:=by rw[<- d];exact cu t
  obtain⟨g,hg,e⟩:=aY.mp this;rw[<- e];exact(hp g hg).2.2) (by rw[G];exact nd) (by have:=cV List.length d;rw[aG,aG]at this;lia)
 rw[G,d]at h3;have M:=(J.trans j).len;refine⟨S2.length,S3,?_,h3,M,(J.trans j).trans Y⟩;unfold nu uU uw;dsimp[kC,l6,bools,nq,Nat.reduceAdd,Nat.reduceSub,↓P,W]
end K68
namespace Stp
open PySem L2 Iv
abbrev mm (a:ag)(i j:Nat):ag:=(a.drop<|i+1).take<|j-i-1
abbrev btw (x y m:Int):Bool:=decide (x<m) && decide (m<y)
abbrev isS (a:ag)(i j:Nat):Bool:=!(mm a i j).any λm=>btw (if a.getD j 0<a.getD i 0 then a.getD j 0 else a.getD i 0) (if a.getD j 0>a.getD i 0 then a.getD j 0 else a.getD i 0) m
end Stp
namespace Eu
open PySem L2 Bl
open Wd (ex XQ)
open Fw (rg O6)
abbrev al (n:Nat):List (ag):=(List.range<|Nu.pU n).map<|Nu.Ut n<|rg n
abbrev sg (z:ag):Int:=if Iv.inv z % 2=1 then -1 else 1
open Classical in
abbrev sm (n:Nat)(P:ag->Prop):Int:=((al n).map λz=>if P z then sg z else 0).sum
end Eu
namespace Eu
open PySem L2 Bl Am
open Fw (rg)
structure Done (n:Nat)(u w:ag)(es:List (ag×Bool)):Prop where
 nd:(es.map (·.1)).Nodup
 pm:∀e∈es,e.1.Perm (rg n)
 up:∀e∈es,Below u e.1
 fl:∀e∈es,(e.2=true ↔ Below e.1 w)
 st:u∈es.map (·.1)
 cl:∀e∈es,e.2=true->∀i j,i<j->j<n->e.1.getD i 0<e.1.getD j 0->Stp.isS e.1 i j=true->Iv.sw e.1 i j∈es.map (·.1)
abbrev ext (n:Nat)(p:ag):List (ag):=((rg n).filter λt=>decide<|t∉p).map λt=>p++[t]
abbrev inj (n:Nat):Nat->List (ag)
 | 0=>[[]]
 | k+1=>(inj n k).flatMap<|ext n
theorem DN{n:Nat}:∀{k:Nat}{p:ag},p∈inj n k ↔ p.length=k/\p.Nodup/\∀t∈p,t∈rg n
 | 0,p=>by
  unfold inj;rw[aP];constructor
  ·rintro rfl;simp
  ·rintro⟨h,_⟩;exact fG.mp h
 | k+1,p=>by
  unfold inj;rw[gD];constructor
  ·rintro⟨q,hq,g⟩;obtain⟨t,f,rfl⟩:=aY.mp g;obtain⟨h1,h2⟩:=cA.mp f;obtain⟨a,b,c⟩:=DN.mp hq;have h2:t∉q:=b8 h2;refine⟨by simp[a],?_,λx d=>?_⟩
   ·rw[cy];refine⟨b,by simp,λx d y hy z=>h2 ?_⟩;have:y=t:=by simpa using hy
    rw[<- this,<- z];exact d
   ·rcases bG.mp d with z|z
    ·exact c x z
    ·have:x=t:=by simpa using z
     rw[this];exact h1
  ·rintro⟨h1,h2,h3⟩
   rcases List.eq_nil_or_concat p with c|⟨q,t,c⟩
   ·rw[c]at h1;simp at h1
   ·rw[List.concat_eq_append]at c;subst c;rw[cy]at h2;refine⟨q,DN.mpr ⟨by simpa using h1,h2.1,λx d=>h3 x<|gg _ d⟩,aY.mpr ⟨t,cA.mpr ⟨h3 t<|by simp,bf λz=>h2.2.2 t z t (by simp) rfl⟩,rfl⟩⟩
theorem Jt{n:Nat}:∀(k:Nat),(inj n k).length<=n ^ k
 | 0=>aM _
 | k+1=>by
  have:∀(l:List<|ag),(l.flatMap<|ext n).length<=l.length * n:=λl=>by
   induction l with
   | nil=>exact bK _
   | cons p l d=>
    rw[gf,aX,bA,add_mul,fM];have:(ext n p).length<=n:=by
     unfold ext;rw[aG];exact bJ (c9 _ _)<|by rw[Wd.mO];exact aM _
    lia
  unfold inj;exact bJ (this _)<|by rw[Nat.pow_succ];exact iZ _<|Jt k
end Eu
namespace K68
open PySem L2 Am
open Bl
open Fw (rg)
open Eu (inj ext)
meta abbrev Ej (w:ag):A:=.tup<|w.map .int
def Pc{S:jU}{n:Nat}{xs ys:ae}(h1:jS S n=some xs)(h2:jS S m=some ys)(h3:xs.length+ys.length<=16777216):zA (.ref n) [.ref m] S=.ok .non (S.set n<|.lst<|xs++ys):=by
 show opt (jS S n) _=_;rw[h1];show opt (jS S m) _=_;rw[h2];exact FW h3
theorem Ce{f:A->A->bi}:∀{L:ae},(∀x∈L,f x x=some true)->tV f L L=some true
 | [],_=>rfl
 | x::L,h=>by
  show(f x x).bind (λp=>(tV f L L).map λq=>p && q)=_;rw[h x<|aL ..,Ce λy hy=>h y<|aQ _ hy];rfl
def Zv{xs ys:ag}(h:xs.length+ys.length<=16777216):nV (.tup<|xs.map .int) (.tup<|ys.map .int) S=.ok (.tup<|(xs++ys).map .int) S:=by
 skip
 rw[bu];exact FW<|by rw[aG,aG];exact h
def aa7{n k:Nat}(h:n<=6)(hk:k<=n):n ^ k<=46656:=bJ (Nat.pow_le_pow_left h k)<|bJ (Nat.pow_le_pow_right ⋯ (show k<=6 by lia)) ⋯
theorem zW{n:Nat}(h:n<=6):∀(l:List<|ag),(l.flatMap<|ext n).length<=l.length * 6
 | []=>bK _
 | p::l=>by
  rw[gf,aX,bA,add_mul,fM];have:(ext n p).length<=n:=by
   unfold ext;rw[aG];exact bJ (c9 _ _)<|by rw[Wd.mO];exact aM _
  have:=zW h l
  lia
def Uo{S:jU}{n:Nat}(h6:n<=6):∃(V:Nat) (S':jU),tY [.int n] S=.ok (.ref V) S'/\jS S' V=some ((inj n n).map Ej)/\kZ S S'/\S.length<=V:=by
 unfold tY yD yH;dsimp[kC,bools,nq,Nat.reduceAdd,Nat.reduceSub,o6<|show 0<=sizeLine from bK _];refine Ie (lo:=0) (hi:=(n:Int)) (S1:=S++[O.lst [.tup []]]) (show y9 _ _=_ from Bf (by dsimp[kC,bools])<|uv () ())
  (λi τ T=>∃(F:Nat) (M N K:A),τ=[.int n,.ref F,M,N,K]/\jS T F=some ((inj n i).map Ej)/\kZ S T/\S.length<=F)
  (λr=>∃(V:Nat) (S':jU),RS.end (RS.seq r _)=.ok (.ref V) S'/\jS S' V=some ((inj n n).map Ej)/\kZ S S'/\S.length<=V) ⟨S.length,_,_,_,rfl,j9,Kp.refl.lay,aM _⟩ ?_ ?_
 ·rintro i τ T hi ⟨F,M,N,K,rfl,B,kp,G⟩;left;have lF:=lJ B;have Z:=kp.len;have hin:i<n:=()
  have il:=Eu.Jt (n:=n) i;have pw:=aa7 h6 (show i<=n by lia);unfold za;dsimp[kC,bools];have J:jS (T++[O.lst []]) F=some ((inj n i).map Ej):=lA B;obtain⟨k,U,ef,hW,kU⟩:=nK (n:=F) (xs:=(inj n i).map Ej) (S1:=T++[O.lst []]) (g:=kB 4) (c:=u9) (τ:=[.int n,.ref F,.int<|0+(i:Int),.ref T.length,K]) (S:=T++[O.lst []]) (show y_ _ _=_ from lN (by dsimp[kC,bools]) J)
   (λj τ d=>(∃k,τ=[.int n,.ref F,.int<|0+(i:Int),.ref T.length,k])/\jS d F=some ((inj n i).map Ej)/\jS d T.length=some ((((inj n i).take j).flatMap<|ext n).map Ej)/\kZ S d)
   (λr=>∃(k:A) (U:jU),r=.nx [.int n,.ref F,.int<|0+(i:Int),.ref T.length,k] U/\jS U T.length=some ((inj n<|i+1).map Ej)/\kZ S U) ⟨⟨_,rfl⟩,J,j9,kp.lay⟩ (λj τ d hh=>hh.2.1) (by
    rintro j z τ d W ⟨⟨k,rfl⟩,C,f,q⟩;rw[aO]at W;obtain⟨p,hp,rfl⟩:=aW.mp W;have P:=(Eu.DN.mp<|a_ hp).1;refine⟨[.int n,.ref F,.int<|0+(i:Int),.ref T.length,Ej p],d,rfl,.inl ?_⟩;have Y:=AB (lo:=1) (hi:=(n:Int)+1) (cap:=[some 4]) (src:=wJ (eC<|.int 1)<|j4 nV (jQ 0)<|eC<|.int 1) (t:=pR<|j4 (Bu true) (jQ 0)<|jQ 1) (e:=j4 nV (jQ 1)<|pP<|jR (jQ 0)<|jW) (τ:=[.int n,.ref F,.int<|0+(i:Int),.ref T.length,Ej p]) (S:=d) (S1:=d)
     (Av (S1:=d) (by dsimp[kC,bools]) (by dsimp[kC,bools]) (uv () ())<|uv () ())
     (λt=>decide<|t∉p) (λt=>Ej<|p++[t]) (λt _ _=>by
      have e:Bu true (.int t) (Ej p) d=.ok (.bl<|decide<|t∉p) d:=by
       show opt (VR d (.int t)<|p.map .int) _=_;rw[xD,j7];by_cases c:t∈p
       ·rw[bf c,bz λz=>z c];rfl
       ·rw[bz c,bf c];rfl
      dsimp[kC,bools,e]) (λt _ _ _=>by
      have e:nV (Ej p) (.tup [.int t]) d=.ok (Ej<|p++[t]) d:=Zv (ys:=[t]) (by rw[P];show _+1<=_;lia);dsimp[kC,bools,nZ<|show([_]:ae).length<=16777216 by simp,e]) ()
    have ee:(((mJ 1<|(n:Int)+1).filter λt=>decide<|t∉p).map λt=>Ej<|p++[t])=(ext n p).map Ej:=by unfold ext;rw[bg];rfl
    rw[ee]at Y;have ht:(inj n i).take (j+1)=(inj n i).take j++[p]:=by
     obtain⟨hj,e⟩:=aJ.mp hp;rw[List.take_succ_eq_append_getElem hj,e]
    have fl1:=zW h6<|(inj n i).take j;have L:=zW h6 [p];rw[gf,jz,bZ]at L;have htl:((inj n i).take j).length<=46656:=by rw[bY];lia
    have x1:=Pc (S:=d++[.lst<|(ext n p).map Ej]) (lA f) j9 (by
     rw[aG,aG];have:[p].length=1:=rfl
     lia)
    have lW:=lJ f;unfold u9;dsimp[kC,bools,f,Y,x1];refine⟨_,_,rfl,⟨_,rfl⟩,?_,?_,q.lay.set<|.inr Z⟩
    ·rw[nk ()];exact lA C
    ·rw[pB<|by rw[aX];exact bV lW<|jC _ _,ht,gG,bu,gf,jz,bZ]) (by
    rintro τ d ⟨⟨k,rfl⟩,C,f,q⟩;rw[aG,bT]at f;exact⟨k,d,rfl,f,q⟩)
  rw[ef];dsimp[kC,bools];exact⟨_,_,rfl,T.length,_,_,_,rfl,hW,kU,Z⟩
 ·rintro τ T ⟨F,M,N,K,rfl,B,kp,G⟩;rw[show((n:Int)-0).toNat=n by lia]at B;dsimp[kC,bools];exact⟨F,T,rfl,B,kp,G⟩
end K68
namespace K68
open PySem L2 Am
abbrev Hg (r:ag)(x:Int):ag:=(mJ 0 (r.length:Int)).filter λk=>decide<|r.getD k.toNat 0>x
meta abbrev Aj:=List<|ag
abbrev tw (k:Int):Nat->Aj->Aj->Int->Nat->Option (Aj×Aj)
 | 0,_,_,_,_=>none
 | f+1,T0,Q0,x,p=>
  let T:=if p=T0.length then T0++[[]]else T0
  let Q:=if p=T0.length then Q0++[[]]else Q0
  if p<T.length/\p<Q.length/\T.length<=10/\Q.length<=10/\(T.getD p []).length<=10/\(Q.getD p []).length<=10 then
   match Hg (T.getD p []) x with
   | []=>some (T.set p<|T.getD p []++[x],Q.set p<|Q.getD p []++[k+1])
   | s::_=>tw k f (T.set p<|(T.getD p []).set s.toNat x) Q ((T.getD p []).getD s.toNat 0)<|p+1
  else none
structure Tw (B:Nat)(S:jU)(n m:Nat)(rs qs:am)(T Q:Aj):Prop where
 t:Tab S n rs T
 q:Tab S m qs Q
 dj:∀r∈n::rs,r∉m::qs
 ge:∀r,r∈n::rs\/r∈m::qs->B<=r
def Tw.wm{B n:Nat}(h:Tw B S n m rs qs T Q)(k:kZ S S'):Tw B S' n m rs qs T Q:=⟨h.t.wm k,h.q.wm k,h.dj,h.ge⟩
def Tw.Z0{B n i r:Nat}{S:jU}{T:Aj}{ys:ag}(h:Tw B S n m rs qs T Q)(hi:rs[i]?=some r):Tw B (S.set r<|.lst<|ys.map .int) n m rs qs (T.set i ys) Q/\Kp (λr=>B<=r) S (S.set r<|.lst<|ys.map .int):=by
 have d:r∈n::rs:=aQ _<|a_ hi;refine⟨⟨h.t.set hi,h.q.kp (show Kp (·=r) S _ from Kp.refl.pT<|.inl rfl) λa ha z=>h.dj r d<|z ▸ ha,h.dj,h.ge⟩,Kp.refl.pT<|.inl<|h.ge r<|.inl d⟩
def Tw.adf{B n i r:Nat}{S:jU}{Q:Aj}{ys:ag}(h:Tw B S n m rs qs T Q)(hi:qs[i]?=some r):Tw B (S.set r<|.lst<|ys.map .int) n m rs qs T (Q.set i ys)/\Kp (λr=>B<=r) S (S.set r<|.lst<|ys.map .int):=by
 have d:r∈m::qs:=aQ _<|a_ hi;refine⟨⟨h.t.kp (show Kp (·=r) S _ from Kp.refl.pT<|.inl rfl) λa ha z=>h.dj a ha<|z ▸ d,h.q.set hi,h.dj,h.ge⟩,Kp.refl.pT<|.inl<|h.ge r<|.inr d⟩
def Tw.V0{B n:Nat}{S:jU}(h:Tw B S n m rs qs T Q):Tw B ((S++[O.lst []]).set n<|.lst<|(rs++[S.length]).map .ref) n m (rs++[S.length]) qs (T++[[]]) Q/\Kp (λr=>B<=r) S ((S++[O.lst []]).set n<|.lst<|(rs++[S.length]).map .ref):=by
 have hn:=h.ge n<|.inl<|aL ..;have f:=h.t.lt n<|aL ..;have k:Kp (·=n) S ((S++[O.lst []]).set n<|.lst<|(rs++[S.length]).map .ref):=Kp.refl.lay.pT<|.inl rfl;refine⟨⟨h.t.push (ys:=[]),h.q.kp k λa ha z=>h.dj n (aL ..)<|z ▸ ha,λr d hq=>?_,λr d=>?_⟩,Kp.refl.lay.pT<|.inl hn⟩
 ·rcases bH.mp d with z|z
  ·exact h.dj r (by rw[z];exact aL ..) hq
  ·rcases bG.mp z with z|z
   ·exact h.dj r (aQ _ z) hq
   ·have:=h.q.lt r hq;rw[aP.mp z]at this;exact f6 _ this
 ·rcases d with d|d
  ·rcases bH.mp d with z|z
   ·rw[z];exact hn
   ·rcases bG.mp z with z|z
    ·exact h.ge r (.inl<|aQ _ z)
    ·rw[aP.mp z];lia
  ·exact h.ge r<|.inr d
def Tw.sw{B n:Nat}(h:Tw B S n m rs qs T Q):Tw B S m n qs rs Q T:=⟨h.q,h.t,λr d hq=>h.dj r hq d,λr d=>h.ge r d.symm⟩
def Zt{B n p:Nat}{T Q:Aj}{row:A}(h:Tw B S n m rs qs T Q)(lT:T.length<=10)(lQ:Q.length<=10) :
  ∃(rs' qs':am) (S':jU),zc (pR<|j4 (wo false) (jQ 5)<|ku (f1 qU)<|jR (jQ 1) jW) (ki (ny<|Ek m5 (jQ 1)<|jR (n8 jW) jW)<|ny<|Ek m5 (jQ 2)<|jR (n8 jW) jW) r9 [row,.ref n,.ref m,x3,x4,.int p,x6] S=.nx [row,.ref n,.ref m,x3,x4,.int p,x6] S' /\
   Tw B S' n m rs' qs' (if p=T.length then T++[[]]else T) (if p=T.length then Q++[[]]else Q)/\Kp (λr=>B<=r) S S':=by
 have g:=h.t.top;have G:=h.t.len;have L:=h.q.len;by_cases c:p=T.length
 ·have k:((p:Int) == ((rs.length:Nat):Int))=true:=by rw[beq_iff_eq,G,c]
  obtain⟨h1,J⟩:=h.V0;obtain⟨S1,d⟩:∃S1,S1=(S++[O.lst []]).set n (.lst<|(rs++[S.length]).map .ref):=⟨_,rfl⟩;rw[<- d]at h1 J;obtain⟨h2,K⟩:=h1.sw.V0;refine⟨_,_,_,?_,by rw[aV c,aV c];exact h2.sw,J.trans K⟩;have f:∀T:jU,newL ([]:ae) T=.ok (.ref T.length) (T++[.lst []]):=λT=>nZ (show 0<=16777216 by decide);have C:jS (S++[O.lst []]) n=some (rs.map .ref):=lA g;have j:jS (S1++[O.lst []]) m=some (qs.map .ref):=lA h1.q.top;have F:∀{T:jU} {a:Nat} {xs:ae},jS T a=some xs->(A.ref a).lst? T=some xs:=λz=>z;dsimp[kC,l6,bools,g,aG,k,F g,f,C,pJ<|show rs.length<16777216 by lia,pJ<|show qs.length<16777216 by lia];rw[show(S++[O.lst []]).set n (.lst<|rs.map A.ref++[.ref S.length])=S1 by rw[d,bu];rfl];dsimp[kC,l6,bools,h1.q.top,f,j,aG,pJ<|show qs.length<16777216 by lia,bu];rfl
 ·have k:((p:Int) == ((rs.length:Nat):Int))=false:=by rw[c6,G];lia
  refine⟨rs,qs,S,?_,by rw[aR c,aR c];exact h,Kp.refl⟩;dsimp[kC,l6,bools,g,aG,k]
end K68
namespace K68
open PySem L2 Am
def IV{a:Nat}{xs:ae}(h:jS S a=some xs)(h':jS S b=some []):yg S 12 (.ref a) (.ref b)=some xs.isEmpty:=by
 show(jS S a).bind (λxs=>(jS S b).bind λys=>tV (yg S 11) xs ys)=_;rw[h,dw,h',dw]
 cases xs<;>rfl
def TR{B n p r q:Nat}{S:jU}{T Q:Aj}{x k:Int}{row:A}(h:Tw B S n m rs qs T Q)(hr:rs[p]?=some r)(hq:qs[p]?=some q)(hR:(T.getD p []).length<=10)(hQ:(Q.getD p []).length<=10)(bS:B<=S.length) :
  ∃(y4:A) (p':Nat) (y6:A) (S':jU) (T' Q':Aj),ki (kM (kI [none,some 4,some 1,some 5] (tR<|ku (f1 qU)<|jR (j4 pS (jQ 1)<|jQ 5) jW) (kB 0) (pR<|j4 MJ (j4 pS (j4 pS (jQ 2)<|jQ 3)<|jQ 0)<|jQ 1)<|jQ 0)<|kB 6)
 (zc (pR<|j4 (wo false) (jQ 6)<|n8 jW)
 (ki (ny<|Ek m5 (j4 pS (jQ 1)<|jQ 5)<|jR (jQ 4) jW)
 (ki (ny<|Ek m5 (j4 pS (jQ 2)<|jQ 5)<|jR (j4 nV (jQ 3)<|eC<|.int 1) jW)
 (kM (eC .non)<|kB 4)))
 (ki (kM (pP<|jR (j4 pS (j4 pS (jQ 1)<|jQ 5)<|j4 pS (jQ 6)<|eC<|.int 0)<|jR (jQ 4) jW)<|Bs 2<|tP (kB 4)<|tP (Vn (j4 pS (jQ 1)<|jQ 5)<|j4 pS (jQ 6)<|eC<|.int 0) Br)
 (kM (j4 nV (jQ 5)<|eC<|.int 1)<|kB 5))) [row,.ref n,.ref m,.int k,.int x,.int p,x6] S=.nx [row,.ref n,.ref m,.int k,y4,.int p',y6] S'/\Tw B S' n m rs qs T' Q'/\Kp (λr=>B<=r) S S' /\
   ((Hg (T.getD p []) x=[]/\y4=.non/\T'=T.set p (T.getD p []++[x])/\Q'=Q.set p (Q.getD p []++[k+1]))\/∃s t,Hg (T.getD p []) x=s::t/\y4=.int ((T.getD p []).getD s.toNat 0)/\p'=p+1/\T'=T.set p ((T.getD p []).set s.toNat x)/\Q'=Q):=by
 obtain⟨hp,f⟩:=h.t.rows.get hr;obtain⟨hpq,F⟩:=h.q.rows.get hq;have M:uY (rs.map A.ref) (p:Int)=some (.ref r):=Bp rfl (by rw[aO,hr];rfl);have a2:uY (qs.map A.ref) (p:Int)=some (.ref q):=Bp rfl (by rw[aO,hq];rfl);have tp:=h.t.top;have tq':=h.q.top;generalize hRR:T.getD p []=R at *
 generalize hQQ:Q.getD p []=U at *
 have N:=AB (lo:=0) (hi:=(R.length:Int)) (cap:=[some 4,some 1,some 5]) (t:=pR<|j4 MJ (j4 pS (j4 pS (jQ 2)<|jQ 3)<|jQ 0)<|jQ 1) (e:=jQ 0) (τ:=[row,.ref n,.ref m,.int k,.int x,.int p,x6]) (src:=tR<|ku (f1 qU)<|jR (j4 pS (jQ 1)<|jQ 5) jW) (S:=S) (S1:=S)
  (Bf (by dsimp[kC,l6,bools,tp,M,f,aG])<|uv () ()) (λk=>decide<|R.getD k.toNat 0>x) A.int
  (λk k0 k1=>by
   have:=M_ (r:=R) (i:=k) (k:=k.toNat) () ();show pR (j4 MJ (j4 pS (j4 pS (jQ 2)<|jQ 3)<|jQ 0)<|jQ 1) [.int k,.int x,.ref n,.int p] S=_;dsimp[kC,l6,bools,tp,M,f,this]) (λk _ _ _=>by
   show jQ 0 (.int k::_) S=_;dsimp[kC,l6]) ()
 obtain⟨S1,G⟩:∃S1,S1=S++[O.lst<|(Hg R x).map .int]:=⟨_,rfl⟩;have N:kI [none,some 4,some 1,some 5] (tR<|ku (f1 qU)<|jR (j4 pS (jQ 1)<|jQ 5) jW) (kB 0) (pR<|j4 MJ (j4 pS (j4 pS (jQ 2)<|jQ 3)<|jQ 0)<|jQ 1) (jQ 0) [row,.ref n,.ref m,.int k,.int x,.int p,x6] S=.ok (.ref S.length) S1:=by rw[G];exact N
 have k1:kZ S S1:=by rw[G];kt_k
 have g1:jS S1 S.length=some ((Hg R x).map .int):=by rw[G];exact j9
 obtain⟨S2,C⟩:∃S2,S2=S1++[O.lst []]:=⟨_,rfl⟩;have Z:newL ([]:ae) S1=.ok (.ref S1.length) S2:=by rw[C];o_rec
 have k2:kZ S1 S2:=by rw[C];kt_k
 have g2:jS S2 S1.length=some []:=by rw[C];exact j9
 have P:=k2.lst _ _ (λz=>z) g1;have g:=OM<|IV P g2;have d:=k1.trans k2;have h2:=h.wm d;have L:=h2.t.top;have V:=h2.q.top;have j:=d.lst _ _ (λz=>z) f;have K:=d.lst _ _ (λz=>z) F;have rq:r≠q:=λz=>h.dj r (aQ _<|a_ hr) (by rw[z];exact aQ _<|a_ hq);have rm:r≠m:=λz=>h.dj r (aQ _<|a_ hr) (by rw[z];exact aL ..)
 cases hs:Hg R x with
 | nil=>
  rw[hs]at g;obtain⟨h3,W⟩:=h2.Z0 (ys:=R++[x]) hr;obtain⟨h4,k4⟩:=h3.adf (ys:=U++[k+1]) hq;refine⟨.non,p,.ref S.length,_,_,_,?_,h4,(d.of0.trans W).trans k4,.inl ⟨rfl,rfl,rfl,rfl⟩⟩;have Y:jS (S2.set r<|.lst<|R.map A.int++[.int x]) m=some (qs.map .ref):=nB (by rw[bM rm];exact j_ V);have J:jS (S2.set r<|.lst<|R.map A.int++[.int x]) q=some (U.map .int):=nB (by rw[bM rq];exact j_ K);have g:wo false (.ref S.length) (.ref S1.length) S2=.ok (.bl true) S2:=g;dsimp[kC,l6,bools,↓N,Z,g,L,M,j,aG,pJ<|show R.length<16777216 by lia,Y,a2,J,pJ<|show U.length<16777216 by lia,bu,bC,fP]
 | cons s t=>
  rw[hs]at g P;have ms:s∈Hg R x:=by rw[hs];exact aL ..
  have ms:=rQ.mp (cA.mp ms).1;have g:wo false (.ref S.length) (.ref S1.length) S2=.ok (.bl false) S2:=g;rw[bC]at P;have e1:uY (R.map A.int) s=some (.int<|R.getD s.toNat 0):=M_ (k:=s.toNat) () ();have e2:Em R.length s=some s.toNat:=yS () ();obtain⟨h3,W⟩:=h2.Z0 (ys:=R.set s.toNat x) hr;refine⟨.int<|R.getD s.toNat 0,p+1,.ref S.length,_,_,_,?_,h3,d.of0.trans W,.inr ⟨s,t,rfl,rfl,rfl,rfl,rfl⟩⟩;dsimp[kC,l6,bools,↓N,Z,g,L,M,j,P,wH,e1,zf,aG,e2,jH];rfl
end K68
namespace K68
open PySem L2 Am
def ac2{x:Int}:Ho true (.int x) .non S=.ok (.bl true) S:=rfl
def acP:Ho true .non .non S=.ok (.bl false) S:=rfl
def Jd{t:Te}{c:Am.Sm}{N:Nat}(h:t τ S=.ok true S)(hb:c τ S=.nx τ' S'):lR t c (N+1) τ S=lR t c N τ' S':=by
 conv=>lhs;unfold lR
 rw[h];show(match c τ S with
  | .nx τ' S'=>lR t c N τ' S'
  | .ct τ' S'=>lR t c N τ' S'
  | .bk τ' S'=>.nx τ' S'
  | r=>r)=_
 rw[hb]
def Vq{t:Te}{c:Am.Sm}{N:Nat}(h:t τ S=.ok false S):lR t c (N+1) τ S=.nx τ S:=by
 conv=>lhs;unfold lR
 rw[h];rfl
theorem PC{B n:Nat}{row:A}{k:Int}{res:Aj×Aj}:∀(f N:Nat) {S:jU}{rs qs:am}{T Q:Aj}{x:Int}{p:Nat}{x6:A},f+1<=N->tw k f T Q x p=some res->Tw B S n m rs qs T Q->B<=S.length ->
  ∃(y4 y5 y6:A) (rs' qs':am) (S':jU),lR nQ pM N [row,.ref n,.ref m,.int k,.int x,.int p,x6] S=.nx [row,.ref n,.ref m,.int k,y4,y5,y6] S'/\Tw B S' n m rs' qs' res.1 res.2/\Kp (λr=>B<=r) S S'
 | 0,_,_,_,_,_,_,_,_,_,_,h,_,_=>nomatch h
 | f+1,0,_,_,_,_,_,_,_,_,hN,_,_,_=>absurd hN (Nat.not_succ_le_zero _)
 | f+1,N+1,S,rs,qs,T,Q,x,p,x6,hN,h,hT,bS=>by
  obtain⟨C,d⟩:∃C,C=(if p=T.length then T++[[]]else T):=⟨_,rfl⟩;obtain⟨z,j⟩:∃z,z=(if p=T.length then Q++[[]]else Q):=⟨_,rfl⟩;unfold tw at h;dsimp only at h;rw[<- d,<- j]at h;by_cases g:p<C.length/\p<z.length/\C.length<=10/\z.length<=10/\(C.getD p []).length<=10/\(z.getD p []).length<=10
  case neg=>rw[aR g]at h;cases h
  rw[aV g]at h;obtain⟨g1,g2,F,K,g5,g6⟩:=g;have lT:T.length<=10:=by
   by_cases c:p=T.length
   ·rw[d,aV c,aX]at F;lia
   ·rw[d,aR c]at F;exact F
  have Y:Q.length<=10:=by
   by_cases c:p=T.length
   ·rw[j,aV c,aX]at K;lia
   ·rw[j,aR c]at K;exact K
  obtain⟨rs',qs',S1,x1,h1,L⟩:=Zt (p:=p) (x3:=.int k) (x4:=.int x) (x6:=x6) (row:=row) hT lT Y;rw[<- d,<- j]at h1;have l1:=h1.t.len;have l2:=h1.q.len;have U:=L.len;obtain⟨y4,V,y6,S2,T2,Q2,W,h2,M,Z⟩:=TR (x:=x) (k:=k) (row:=row) (x6:=x6) h1 (aI<|show p<rs'.length by lia) (aI<|show p<qs'.length by lia) g5 g6 ();have P:=M.len;have hb:pM [row,.ref n,.ref m,.int k,.int x,.int p,x6] S=.nx [row,.ref n,.ref m,.int k,y4,.int V,y6] S2:=by
   unfold pM;dsimp[kC,↓x1];exact W
  have t0:nQ [row,.ref n,.ref m,.int k,.int x,.int p,x6] S=.ok true S:=by
   unfold nQ;dsimp[kC,l6,bools,ac2]
  rcases Z with⟨c1,rfl,rfl,rfl⟩|⟨s,t,c1,rfl,rfl,rfl,rfl⟩
  ·rw[c1]at h
   cases h
   obtain⟨O,rfl⟩:∃O,N=O+1:=⟨N-1,()⟩;refine⟨.non,.int V,y6,rs',qs',S2,?_,h2,L.trans M⟩;rw[Jd t0 hb];exact Vq (by
    unfold nQ;dsimp[kC,l6,bools,acP])
  ·rw[c1]at h;obtain⟨z4,z5,z6,G,J,S3,x3,h3,k3⟩:=PC f N (x6:=y6) () h h2 ();refine⟨z4,z5,z6,G,J,S3,?_,h3,(L.trans M).trans k3⟩;rw[Jd t0 hb];exact x3
abbrev Dk:Nat->ag->Aj->Aj->Option (Aj×Aj)
 | _,[],T,Q=>some (T,Q)
 | k,x::xs,T,Q=>match tw (k:Int) 20 T Q x 0 with
  | some r=>Dk (k+1) xs r.1 r.2
  | none=>none
theorem Fy:∀(xs:ag) (k:Nat) (x:Int) (T Q:Aj),Dk k (xs++[x]) T Q=(Dk k xs T Q).bind λr=>(tw ((k+xs.length:Nat):Int) 20 r.1 r.2 x 0).bind λr=>some (r.1,r.2)
 | [],k,x,T,Q=>by
  show(match tw (k:Int) 20 T Q x 0 with
   | some r=>Dk (k+1) [] r.1 r.2
   | none=>none)=_
  show _=(tw ((k+0:Nat):Int) 20 T Q x 0).bind _;rw[Nat.add_zero]
  cases tw (k:Int) 20 T Q x 0<;>rfl
 | y::xs,k,x,T,Q=>by
  show(match tw (k:Int) 20 T Q y 0 with
   | some r=>Dk (k+1) (xs++[x]) r.1 r.2
   | none=>none)=Option.bind (match tw (k:Int) 20 T Q y 0 with
   | some r=>Dk (k+1) xs r.1 r.2
   | none=>none) _
  cases tw (k:Int) 20 T Q y 0 with
  | none=>rfl
  | some r=>
   show Dk (k+1) (xs++[x]) r.1 r.2=(Dk (k+1) xs r.1 r.2).bind _;rw[Fy xs (k+1) x r.1 r.2,bA,show k+1+xs.length=k+(xs.length+1)by lia]
def UN {xs ys:ag}{k:Nat}{T Q:Aj}(h:Dk k (xs++ys) T Q≠none):Dk k xs T Q≠none:=by
 revert k T Q
 induction xs with
 | nil=>intro k T Q _ z;cases z
 | cons x xs d=>
  intro k T Q h z;revert h z;show(match tw (k:Int) 20 T Q x 0 with
   | some r=>Dk (k+1) (xs++ys) r.1 r.2
   | none=>none)≠none->(match tw (k:Int) 20 T Q x 0 with
   | some r=>Dk (k+1) xs r.1 r.2
   | none=>none)=none->False
  cases tw (k:Int) 20 T Q x 0 with
  | none=>exact λh _=>h rfl
  | some r=>exact λh z=>d h z
def Yz{S:jU}{res:Aj×Aj}(h:Dk 0 o [] []=some res) :
  ∃(n m:Nat) (rs qs:am) (S':jU),nj [tq o] S=.ok (.tup [.ref n,.ref m]) S'/\Tw S.length S' n m rs qs res.1 res.2/\kZ S S':=by
 obtain⟨S1,k⟩:∃S1,S1=S++[O.lst []]:=⟨_,rfl⟩;have k1:kZ S S1:=by rw[k];kt_k
 have l1:jS S1 S.length=some []:=by rw[k];exact j9
 have n1:S1.length=S.length+1:=by rw[k,aX];rfl
 have J:newL ([]:ae) S=.ok (.ref S.length) S1:=by rw[k];o_rec
 obtain⟨S2,j⟩:∃S2,S2=S1++[O.lst []]:=⟨_,rfl⟩;have P:kZ S1 S2:=by rw[j];kt_k
 have Y:jS S2 S1.length=some []:=by rw[j];exact j9
 have K:newL ([]:ae) S1=.ok (.ref S1.length) S2:=by rw[j];o_rec
 have h0:Tw S.length S2 S.length S1.length [] [] [] []:=⟨Tab.nil<|P.lst _ _ (λz=>z) l1,Tab.nil Y,(λr G hq=>by rw[aP.mp G]at hq;have:=aP.mp hq;lia),λr G=>by
  rcases G with z|z
  ·rw[aP.mp z];exact aM _
  ·rw[aP.mp z];lia⟩
 have t:∃(q g f d:A) (rs qs:am) (S':jU),mC rV (Bs 2<|tP (kB 3)<|tP (kB 4) Br) sy [tq o,.ref S.length,.ref S1.length,.unb,.unb,.unb,.unb] S2=.nx [tq o,.ref S.length,.ref S1.length,q,g,f,d] S'/\Tw S.length S' S.length S1.length rs qs res.1 res.2/\Kp (λr=>S.length<=r) S2 S':=by
  refine Pw (xs:=o.map .int) (S1:=S2) (show rV _ _=_ from Rt<|by dsimp[kC,l6,uq];rfl)
   (λi τ T=>∃(q g f d:A) (rs qs:am) (r:Aj×Aj),τ=[tq o,.ref S.length,.ref S1.length,q,g,f,d]/\Dk 0 (o.take i) [] []=some r/\Tw S.length T S.length S1.length rs qs r.1 r.2/\Kp (λr=>S.length<=r) S2 T)
   (λZ=>∃(q g f d:A) (rs qs:am) (S':jU),Z=.nx [tq o,.ref S.length,.ref S1.length,q,g,f,d] S'/\Tw S.length S' S.length S1.length rs qs res.1 res.2/\Kp (λr=>S.length<=r) S2 S')
   ⟨_,_,_,_,[],[],([],[]),rfl,by rw[eZ];rfl,h0,Kp.refl⟩ ?_ ?_
  ·rintro i z τ T L ⟨q,g,f,d,rs,qs,r,rfl,e,C,kp⟩;rw[aO]at L;obtain⟨x,N,rfl⟩:=aW.mp L;have hi:=(aJ.mp N).1;have e1:o.take (i+1)=o.take i++[x]:=by rw[bN,N];rfl
   have ne:Dk 0 (o.take<|i+1) [] []≠none:=by
    refine UN (ys:=o.drop<|i+1) ?_;rw[gc,h];exact λz=>nomatch z
   have e2:=Fy (o.take i) 0 x [] [];rw[e,bY,cC,Nat.min_eq_left<|dZ hi]at e2;have e2:Dk 0 (o.take i++[x]) [] []=(tw (i:Int) 20 r.1 r.2 x 0).bind λr=>some (r.1,r.2):=e2
   cases c:tw (i:Int) 20 r.1 r.2 x 0 with
   | none=>rw[c,<- e1]at e2;exact absurd e2 ne
   | some r2=>
    rw[c,<- e1]at e2;have len:=kp.len;have M:S2.length=S1.length+1:=by rw[j,aX];rfl
    obtain⟨z4,z5,z6,F,B,T1,W,h1,q1⟩:=PC (row:=tq o) (p:=0) (x6:=d) 20 1000000 ⋯ c C ();refine⟨[tq o,.ref S.length,.ref S1.length,.int i,.int x,f,d],T,rfl,.inl ⟨[tq o,.ref S.length,.ref S1.length,.int i,z4,z5,z6],T1,?_,_,_,_,_,F,B,r2,rfl,e2,h1,kp.trans q1⟩⟩;unfold sy;dsimp[kC,l6,bools];exact W
  ·rintro τ T ⟨q,g,f,d,rs,qs,r,rfl,e,C,kp⟩;rw[aG,bT,h]at e
   cases e
   exact⟨q,g,f,d,rs,qs,T,rfl,C,kp⟩
 obtain⟨q,g,f,d,rs,qs,S3,U,h3,V⟩:=t;refine⟨S.length,S1.length,rs,qs,S3,?_,h3,(k1.trans P).old V λn hn _ z=>()⟩;unfold nj uT uA;dsimp[kC,l6,bools,nq,Nat.reduceAdd,Nat.reduceSub,J,K,↓U,zf,Nn]
end K68
namespace K68
open PySem L2 Am
abbrev Gv (H:List Os)(o:ag):Os:=(H.filter λh=>decide<|o∈h).flatten
def RU(H:List Os)(h:Os)(o:ag):Gv (H++[h]) o=Gv H o++if o∈h then h else[]:=by
 unfold Gv;rw[gR,jc];congr 1;by_cases c:o∈h
 ·rw[aV c,dh,aV<|bf c];exact List.flatten_singleton
 ·rw[aR c,dh,aR<|by rw[bz c];exact bF];rfl
def Uh(H:List Os)(o:ag):(Gv H o).length<=H.flatten.length:=by
 induction H with
 | nil=>exact aM _
 | cons h H d=>
  unfold Gv at d ⊢;rw[dh,dF,aX];split
  ·rw[dF,aX];lia
  ·lia
def YS{S:jU}{n:Nat}(hn:n<=4)(nd:(ao n).Nodup):∃(D:Nat) (es:List<|ag×Nat) (S':jU),MI (.dct []) n9 [none] (kY<|eFn mw<|jR (jQ 0) jW) (kB 0) oZ (jQ 0) (n8 jW) (.int n::τr) S=.ok (.ref D) S' /\
  kc S' D=some (ev es)/\es.map (·.1)=ao n/\(∀e∈es,jS S' e.2=some []/\S.length<=e.2)/\(es.map (·.2)).Nodup/\S.length<=D/\kZ S S':=by
 obtain⟨p,Z,k0⟩:=Ng (S:=S) hn;obtain⟨S2,q⟩:∃S2,S2=p++[O.lst<|(ao n).map tq]:=⟨_,rfl⟩;have k2:kZ S S2:=by rw[q];exact k0.lay
 have U:jS S2 p.length=some ((ao n).map tq):=by rw[q];exact j9
 rw[<- q]at Z;have F:=k2.len;have lao:(ao n).length<=24:=by
  unfold ao;rw[aG,bR];exact bJ (Nu.Bh hn) ⋯
 obtain⟨S3,t⟩:∃S3,S3=S2++[O.dct []]:=⟨_,rfl⟩;have J:kZ S2 S3:=by rw[t];kt_k
 have d3:kc S3 S2.length=some (ev []):=by rw[t];exact Su.nX
 have lm:p.length<S2.length:=lJ U;have Y:=J.lst _ _ (λz=>z) U;obtain⟨τ',S4,e4,es,p1,p2,p3,K,B⟩:=Ku (st:=n9) (s:=lU p.length ((ao n).map tq).length) (g:=kB 0) (ek:=jQ 0) (ev:=n8 jW) (n:=S2.length)
  (λi T=>∃es:List<|ag×Nat,kc T S2.length=some (ev es)/\es.map (·.1)=(ao n).take i/\(∀e∈es,jS T e.2=some []/\S.length<=e.2/\e.2<T.length)/\(es.map (·.2)).Nodup/\Kp (·=S2.length) S3 T) (λτ=>∃y,τ=[y]) (λi τ T G hq hP=>by
   obtain⟨y,rfl⟩:=hq;obtain⟨es,p1,p2,p3,K,B⟩:=hP;have G:i<((ao n).map tq).length:=G;rw[aG]at G;have N:=B.lst _ _ () Y;obtain⟨T2,f⟩:∃T2,T2=T++[O.lst []]:=⟨_,rfl⟩;have L:kZ T T2:=by rw[f];kt_k
   have W:jS T2 T.length=some []:=by rw[f];exact j9
   have d:=L.dct _ _ (λz=>z) p1;have P:newL ([]:ae) T=.ok (.ref T.length) T2:=by rw[f];o_rec
   have new:(ao n)[i]∉(ev es).map (·.1):=by
    rw[xX,p2];intro z;obtain⟨j,hj,e⟩:=bQ.mp z;rw[iG]at e;have lj:j<i:=by rw[bY]at hj;lia
    have:=(cg nd).mp e
    lia
   have e5:n9 (.ref S2.length) (tq (ao n)[i]) (.ref T.length) T2=.ok Unit.unit (T2.set S2.length<|.dct<|ev<|es++[((ao n)[i],T.length)]):=by
    have:=Su.rK (n:=S2.length) (o:=(ao n)[i]) (v:=.ref T.length) (S:=T2);rw[d,j7,zG new]at this;refine this.trans ?_;have le:es.length=i:=by have:=cV List.length p2;rw[aG,bY]at this;lia
    rw[pJ<|by unfold ev;rw[aG];lia];unfold ev;rw[bu];rfl
   have M:Kp (·=S2.length) T2 (T2.set S2.length<|.dct<|ev<|es++[((ao n)[i],T.length)]):=Kp.refl.pT<|.inl rfl;have V:T2.length=T.length+1:=by rw[f,aX];rfl
   have k3l:=J.len;have p5l:=B.len;refine⟨tq (ao n)[i],[tq (ao n)[i]],T,tq (ao n)[i],T,.ref T.length,T2,_,?_,rfl,⟨_,rfl⟩,rfl,(by dsimp[kC,l6,P]),e5,es++[((ao n)[i],T.length)],?_,?_,λe C=>?_,?_,(B.trans L.of0).trans M⟩
   ·show(jS T p.length).bind _=_;rw[N];show((ao n).map tq)[i]?=_;rw[aO,aI G];rfl
   ·exact qo (by rw[bE<|Su.sC d])
   ·rw[bu,p2,bN,aI G];rfl
   ·rw[bU,V]
    rcases bG.mp C with z|z
    ·have a:=L.lst _ _ (λz=>z) (p3 e z).1;exact⟨M.lst _ _ (λw=>Su.mW d a w.symm) a,(p3 e z).2.1,by have:=(p3 e z).2.2;lia⟩
    ·rw[aP.mp z];exact⟨M.lst _ _ (λw=>Su.mW d W w.symm) W,by show S.length<=T.length;lia,by show T.length<_;lia⟩
   ·rw[bu];refine cy.mpr ⟨K,(cP _ _),λa ha b hb z=>?_⟩;rw[aP.mp hb]at z;obtain⟨e,C,rfl⟩:=aY.mp ha;have:=(p3 e C).2.2;have z:e.2=T.length:=z
    lia) (λT hP=>by
   obtain⟨es,p1,p2,p3,K,B⟩:=hP;have N:=B.lst _ _ () Y;show(match jS T p.length with
    | some ys=>decide (ys.length<=((ao n).map tq).length)
    | none=>false)=true
   rw[N];exact bf<|aM _) ((ao n).map tq).length 0 (lG [none] (.int n::τr)) S3 rfl ⟨_,rfl⟩ ⟨[],d3,rfl,(nofun),cY,Kp.refl⟩
 have p2:es.map (·.1)=ao n:=by
  have:(lU p.length ((ao n).map tq).length).k=(ao n).length:=aG ..;rw[this,bT]at p2;exact p2
 have len3:=J.len;refine⟨S2.length,es,S4,?_,p1,p2,λe C=>⟨(p3 e C).1,(p3 e C).2.1⟩,K,F,(k2.trans J).old B λm hm _ z=>()⟩;have hs:kY (eFn mw<|jR (jQ 0) jW) (.int n::τr) S=.ok (lU p.length ((ao n).map tq).length) S2:=lN (by dsimp[kC,l6,bools,Z]) U;unfold MI;rw[hs,R.m9,<- t];show(yQ _ _ _ _ _ _ _ ((ao n).map tq).length 0 _ _).nJ _=_;rw[e4];rfl
def bl2{D n g:Nat}{os:Os}{es:List<|ag×Nat}{H:List Os}{h:Os}(d:kc S D=some (ev es))(ek:es.map (·.1)=os)(osn:os.Nodup)(en:(es.map (·.2)).Nodup)(hg:jS S g=some (h.map tq))(gn:g∉es.map (·.2))(he:∀e∈es,jS S e.2=some ((Gv H e.1).map tq))(hh:∀o∈h,o∈os)(hnd:h.Nodup)(hl:H.flatten.length+h.length<=10000) :
  ∃(y:A) (S':jU),mC pW (kB 4) qd [.int n,r0,.ref D,.ref g,y4] S=.nx [.int n,r0,.ref D,.ref g,y] S'/\(∀e∈es,jS S' e.2=some ((Gv (H++[h]) e.1).map tq))/\Kp (λm=>m∈es.map (·.2)) S S':=by
 have P:D∉es.map (·.2):=λz=>by
  obtain⟨e,p,z⟩:=aY.mp z;exact Su.mW d (he e p) z.symm
 refine nK (n:=g) (xs:=h.map tq) (S:=S) (S1:=S) (show pW _ _=_ from lN (S1:=S) (by dsimp[kC,l6,bools]) hg)
  (λt τ T=>∃y,τ=[.int n,r0,.ref D,.ref g,y]/\(∀e∈es,jS T e.2=some ((Gv H e.1++if e.1∈h.take t then h else[]).map tq))/\Kp (λm=>m∈es.map (·.2)) S T)
  (λZ=>∃(y:A) (S':jU),Z=.nx [.int n,r0,.ref D,.ref g,y] S'/\(∀e∈es,jS S' e.2=some ((Gv (H++[h]) e.1).map tq))/\Kp (λm=>m∈es.map (·.2)) S S')
  ⟨_,rfl,λe p=>by rw[eZ,aR (λz=>nomatch z),bZ];exact he e p,Kp.refl⟩ (λt τ T z=>?_) ?_ ?_
 ·obtain⟨_,_,_,k⟩:=z;exact k.lst _ _ gn hg
 ·rintro t z τ T L ⟨y,rfl,F,C⟩;rw[aO]at L;obtain⟨o,G,rfl⟩:=aW.mp L;have W:=a_ G;have V:o∈es.map (·.1):=by rw[ek];exact hh o W
  obtain⟨e,B,K,O⟩:=Ef V;have dT:=C.dct _ _ P d;have Y:=C.lst _ _ gn hg;have ix:sS (.ref D) (tq o) T=.ok (.ref e.2) T:=by rw[G5,dT,j7];show opt (kW (ev es) o) _=_;rw[show kW (ev es) o=_ from O,j7]
  have le:=F e B;have N:o∉h.take t:=λz=>by
   obtain⟨j,U,f⟩:=bQ.mp z;rw[bY]at U;rw[iG]at f;obtain⟨lt,e2⟩:=aJ.mp G;have:=(cg hnd).mp (f.trans e2.symm)
   lia
  rw[K,aR N,bZ]at le;have nl:=Uh H o;have ex:=Pc le Y (by rw[aG,aG];lia);refine⟨[.int n,r0,.ref D,.ref g,tq o],T,rfl,.inl ⟨[.int n,r0,.ref D,.ref g,tq o],T.set e.2<|.lst<|(Gv H o).map tq++h.map tq,?_,_,rfl,λf q=>?_,C.trans<|Kp.refl.pT<|.inl<|cu B⟩⟩
  ·unfold qd;dsimp[kC,l6,bools,uq,ix,le,ex]
  ·have M:h.take (t+1)=h.take t++[o]:=by rw[bN,G];rfl
   by_cases c:f=e
   ·subst c;rw[pB<|lJ le,K,M,aV<|bL _<|aP.mpr rfl,bu]
   ·have ne:f.2≠e.2:=λz=>by
     obtain⟨a,ha,rfl⟩:=bQ.mp q;obtain⟨b,hb,rfl⟩:=bQ.mp B;have:(es.map (·.2))[a]'(by rw[aG];exact ha)=(es.map (·.2))[b]'(by rw[aG];exact hb):=by rw[cQ,cQ];exact z
     have:=(cg en).mp this;subst this;exact c rfl
    have J:f.1≠o:=λz=>by
     exact c (by
      have k1:(es.map (·.1)).Nodup:=by rw[ek];exact osn
      obtain⟨a,ha,rfl⟩:=bQ.mp q;obtain⟨b,hb,rfl⟩:=bQ.mp B;have:(es.map (·.1))[a]'(by rw[aG];exact ha)=(es.map (·.1))[b]'(by rw[aG];exact hb):=by rw[cQ,cQ];exact z.trans K.symm
      have:=(cg k1).mp this;subst this;rfl)
    rw[nk<|cR ne,F f q,M];have:(f.1∈h.take t++[o]) ↔ f.1∈h.take t:=⟨λz=>(bG.mp z).elim id λw=>absurd (aP.mp w) J,λz=>gg _ z⟩;by_cases c2:f.1∈h.take t
    ·rw[aV c2,aV<|this.mpr c2]
    ·rw[aR c2,aR λz=>c2<|this.mp z]
 ·rintro τ T ⟨y,rfl,F,C⟩;refine⟨y,T,rfl,λe B=>?_,C⟩;have:=F e B;rw[aG,bT]at this;rw[RU];exact this
end K68
namespace K68
open PySem L2 Am
structure Okb (n f:Nat)(G:List Os)(rc:ag->Os):Prop where
 n1:1<=n
 pm:∀g∈G,(∀o∈g,o.Perm<|Fw.rg n)/\g.length<=63/\Lv g≠[]
 nd:(G.map λg=>sV<|Lv g).Nodup
 ln:G.length<=63
 hh:∀h∈G++BX G,(∀o∈h,o∈ao n)/\h.Nodup
 fl:(G++BX G).flatten.length<=5000/\(G++BX G).length<=5000
 ff:f<=1000000
 rr:∀o∈ao n,rf (ao n) (Gv<|G++BX G) f [o] [o]=some (rc o)
 sub:∀o∈ao n,(∀p∈rc o,p∈ao n)/\(rc o).length<=63/\Cr rc o≠[]
def Lr{H:List Os}:(H.take i).flatten.length<=H.flatten.length:=by
 have:H.flatten=(H.take i).flatten++(H.drop i).flatten:=by rw[<- jc,gc]
 rw[this,aX];lia
def Pz{H:List Os}{i:Nat}{h:Os}(e:H[i]?=some h):(H.take i).flatten.length+h.length<=H.flatten.length:=by
 have:(H.take<|i+1).flatten.length=(H.take i).flatten.length+h.length:=by
  rw[bN,e,jc,aX];show _+([h].flatten).length=_;rw[List.flatten_singleton]
 rw[<- this];exact Lr
def bl1{D n r:Nat}{G:List Os}{es:List<|ag×Nat}{f:Nat}{rc:ag->Os}(b:Okb n f G rc)(hn:n<=4)(osn:(ao n).Nodup)(hr:Hs S r r G)(d:kc S D=some (ev es))(ek:es.map (·.1)=ao n)(en:(es.map (·.2)).Nodup)(he:∀e∈es,jS S e.2=some []/\r<e.2)(hx:∀hs:List<|Os×Nat,jS S r=some (hs.map λh=>A.ref h.2)->∀h∈hs,h.2∉es.map (·.2)) :
  ∃(y z:A) (S':jU),mC p9 (kB 3) p6 [.int n,.ref r,.ref D,y3,y4] S=.nx [.int n,.ref r,.ref D,y,z] S'/\(∀e∈es,jS S' e.2=some ((Gv (G++BX G) e.1).map tq))/\kc S' D=some (ev es)/\Kp (λm=>m∈es.map (·.2)) S S':=by
 obtain⟨R,S1,x1,h1,l1,N⟩:=Ox hr b.pm b.n1 () b.ln b.nd;obtain⟨p,P,a2,a3⟩:=hr.ex;obtain⟨bs,b1,V,b3⟩:=h1.ex;have M:=N.lst _ _ (λz=>z) P;have la:p.length=G.length:=by rw[<- a2,aG]
 have lb:bs.length=(BX G).length:=by rw[<- V,aG]
 have fl:=b.fl;rw[aX]at fl;have ad:=Jq M b1 (by rw[aG,aG];lia);obtain⟨S2,q⟩:∃S2,S2=S1++[O.lst<|p.map (λh=>A.ref h.2)++bs.map λh=>A.ref h.2]:=⟨_,rfl⟩;rw[<- q]at ad;have k2:kZ S1 S2:=by rw[q];kt_k
 have l2:jS S2 S1.length=some ((p++bs).map λh=>.ref h.2):=by rw[q,bu];exact j9
 have j:=N.trans k2;have Y:=j.dct _ _ (λz=>z) d;have eS:∀e∈es,e.2<S.length:=λe m=>lJ (he e m).1;have hn:∀h∈p++bs,jS S2 h.2=some (h.1.map tq)/\h.2∉es.map (·.2):=λh hh=>by
  rcases bG.mp hh with z|z
  ·exact⟨j.lst _ _ (λz=>z) (a3 h z).1,hx p P h z⟩
  ·refine⟨k2.lst _ _ (λz=>z) (b3 h z).1,λw=>?_⟩;obtain⟨e,g,B⟩:=aY.mp w;have:=eS e g;have:=(b3 h z).2;have B:e.2=h.2:=B
   lia
 have C:(p++bs).map (·.1)=G++BX G:=by rw[bu,a2,V]
 have sl:S1.length∉es.map (·.2):=λw=>by
  obtain⟨e,g,B⟩:=aY.mp w;have:=eS e g;have B:e.2=S1.length:=B;have:=N.len
  lia
 have W:D∉es.map (·.2):=λz=>by
  obtain⟨e,L,z⟩:=aY.mp z;exact Su.mW d (he e L).1 z.symm
 refine nK (n:=S1.length) (xs:=(p++bs).map λh=>A.ref h.2) (S:=S) (S1:=S2) (show p9 _ _=_ from lN (S1:=S2) (by dsimp[kC,l6,bools,x1,ad]) l2)
  (λi τ T=>∃y z,τ=[.int n,.ref r,.ref D,y,z]/\(∀e∈es,jS T e.2=some ((Gv ((G++BX G).take i) e.1).map tq))/\Kp (λm=>m∈es.map (·.2)) S2 T)
  (λZ=>∃(y z:A) (S':jU),Z=.nx [.int n,.ref r,.ref D,y,z] S'/\(∀e∈es,jS S' e.2=some ((Gv (G++BX G) e.1).map tq))/\kc S' D=some (ev es)/\Kp (λm=>m∈es.map (·.2)) S S')
  ⟨_,_,rfl,λe g=>by rw[eZ];exact j.lst _ _ (λz=>z) (he e g).1,Kp.refl⟩ (λi τ T z=>?_) ?_ ?_
 ·obtain⟨_,_,_,_,k⟩:=z;exact k.lst _ _ sl l2
 ·rintro i z τ T U ⟨y,z',rfl,K,t⟩;rw[aO]at U;obtain⟨h,hh,rfl⟩:=aW.mp U;have J:=a_ hh;have F:(G++BX G)[i]?=some h.1:=by rw[<- C,aO,hh];rfl
  have hG:=b.hh h.1<|a_ F;have fm:=Pz F;obtain⟨y5,T1,e1,q1,kk⟩:=bl2 (n:=n) (r0:=.ref r) (y4:=z') (H:=(G++BX G).take i) (t.dct _ _ W Y) ek osn en (t.lst _ _ (hn h J).2 (hn h J).1) (hn h J).2 K hG.1 hG.2 ();refine⟨[.int n,.ref r,.ref D,.ref h.2,z'],T,rfl,.inl ⟨[.int n,.ref r,.ref D,.ref h.2,y5],T1,?_,_,_,rfl,λe g=>?_,t.trans kk⟩⟩
  ·unfold p6;exact e1
  ·rw[bN,F];exact q1 e g
 ·rintro τ T ⟨y,z,rfl,K,t⟩;refine⟨y,z,T,rfl,λe g=>?_,t.dct _ _ W Y,j.of0.trans t⟩;have:=K e g;rw[aG,show(p++bs).length=(G++BX G).length by rw[<- C,aG],bT]at this;exact this
def UU{S:jU}{n f f2:Nat}{rc rc2:ag->Os}(hn:n<=4)(h:Okn n f (ao n) rc)(b:Okb n f2 (zj (ao n) rc) rc2):∃(r:Nat) (S':jU),kX [.int n] S=.ok (.ref r) S'/\Hs S' r r (zj (ao n) rc2)/\S.length<=r/\kZ S S':=by
 obtain⟨r,S1,x1,h1,l1,N⟩:=HK (S:=S) hn h;obtain⟨D,es,S2,U,P,ek,p,en,lD,j⟩:=YS (S:=S1) (τr:=[.ref r,.unb,.unb,.unb]) hn h.nd;have lr1:r<S1.length:=by
  obtain⟨_,z,_⟩:=h1.ex;exact lJ z
 have B:Hs S2 r r (zj (ao n) rc):=by
  obtain⟨hs,t,L,k⟩:=h1.ex;exact⟨hs,j.lst _ _ (λz=>z) t,L,λq hq=>⟨j.lst _ _ (λz=>z) (k q hq).1,(k q hq).2⟩⟩
 obtain⟨y,z,S3,x3,V,d3,K⟩:=bl1 (y3:=.unb) (y4:=.unb) b hn h.nd B P ek en (λe d=>⟨(p e d).1,by have:=(p e d).2;lia⟩) (λhs e q hq w=>by
  obtain⟨F,t,L,k⟩:=h1.ex;rw[j.lst _ _ (λz=>z) t]at e;have e:=br e;have:A.ref q.2∈F.map (λh=>A.ref h.2):=by rw[e];exact cu (f:=λh:Os×Nat=>A.ref h.2) hq
  obtain⟨M,C,G⟩:=aY.mp this;have G:M.2=q.2:=A.ref.inj G;have lt:=lJ (k M C).1;obtain⟨J,d,g⟩:=aY.mp w;have g:J.2=q.2:=g;have:=(p J d).2
  lia)
 have ln:=h.ln;obtain⟨r4,O,W,Z,l4,k4⟩:=zh d3 ek V h.nd () b.ff b.rr (λo T z=>by have:=pN (h.pm o T).1;rw[z]at this;have:=h.n1;simp at *;lia) b.sub;have e1:=N.len;have e2:=j.len;have e3:=K.len;refine⟨r4,O,?_,Z,(),((N.trans j).old K λm Y _ z=>?_).old k4 λm Y _ z=>()⟩
 ·unfold kX rL rZ;dsimp[kC,l6,bools,nq,Nat.reduceAdd,Nat.reduceSub,x1,↓U,↓x3,W]
 ·obtain⟨e,d,g⟩:=aY.mp z;have:=(p e d).2;have g:e.2=m:=g
  lia
def UH{S:jU}{n f f2:Nat}{rc rc2:ag->Os}(hn:n<=4)(h:Okn n f (ao n) rc)(b:Okb n f2 (zj (ao n) rc) rc2):∃(r L:Nat) (S':jU),mF [.int n] S=.ok (.ref r) S'/\Hs S' r L (BX<|zj (ao n) rc)/\S.length<=r/\kZ S S':=by
 obtain⟨r,S1,g,h1,q,d⟩:=HK (S:=S) hn h;obtain⟨R,S2,k,h2,p,j⟩:=Ox h1 b.pm b.n1 () b.ln b.nd;have:=d.len;refine⟨R,_,S2,?_,h2,(),d.trans j⟩;unfold mF rR rX;dsimp[kC,l6,bools,nq,Nat.reduceAdd,Nat.reduceSub,g,k]
end K68
namespace K68
open PySem L2 Am
def Eg{n:Nat}{G X:List Os}(n1:1<=n)(pm:∀g∈G,(∀o∈g,o.Perm<|Fw.rg n)/\g.length<=63/\Lv g≠[])(nd:(G.map λg=>sV<|Lv g).Nodup)(ln:G.length<=63)(hW:BX G=W)(hh:∀h∈G++W,(∀o∈h,o∈ao n)/\h.Nodup)(fl:(G++W).flatten.length<=5000/\(G++W).length<=5000)
  (nx:∀o∈ao n,Gv (G++W) o=lz (ao n) X o) (rr:∀o∈ao n,rf (ao n) (lz (ao n) X) 500 [o] [o]=some (lz (ao n) C o)) (sub:∀o∈ao n,(∀p∈lz (ao n) C o,p∈ao n)/\(lz (ao n) C o).length<=63/\Cr (lz (ao n) C) o≠[]):Okb n 500 G (lz (ao n) C):=⟨n1,pm,nd,ln,by rw[hW];exact hh,by rw[hW];exact fl,by decide,λo d=>by
 rw[hW,z9 (nx':=lz (ao n) X) nx];exact rr o d,sub⟩
abbrev Wq1:List Os:=[[[1]]]
abbrev Yq1:List Os:=[[[1],[1]]]
abbrev Dq1:List Os:=[[[1]]]
def wq1:BX Gq1=Wq1:=by decide +kernel
def ob1:Okb 1 500 (zj (ao 1)<|lz (ao 1) Xg) (lz (ao 1) Dq1):=by
 rw[gt1];exact Eg (X:=Yq1) ⋯ ∅ ∅ ∅ wq1 ∅ ∅ ∅ ∅ ∅
abbrev Wq2:List Os:=[[[1,2]],[[2,1]]]
abbrev Yq2:List Os:=[[[1,2],[1,2]],[[2,1],[2,1]]]
abbrev Dq2:List Os:=[[[1,2]],[[2,1]]]
def wq2:BX Gq2=Wq2:=by decide +kernel
def ob2:Okb 2 500 (zj (ao 2)<|lz (ao 2) W7) (lz (ao 2) Dq2):=by
 rw[gt2];exact Eg (X:=Yq2) ⋯ ∅ ∅ ∅ wq2 ∅ ∅ ∅ ∅ ∅
abbrev Wq3:List Os:=[[[1,2,3]],[[1,3,2],[2,3,1]],[[2,1,3],[3,1,2]],[[3,2,1]]]
abbrev Yq3:List Os:=[[[1,2,3],[1,2,3]],[[1,3,2],[3,1,2],[1,3,2],[2,3,1]],[[2,1,3],[2,3,1],[2,1,3],[3,1,2]],[[2,1,3],[2,3,1],[1,3,2],[2,3,1]],[[1,3,2],[3,1,2],[2,1,3],[3,1,2]],[[3,2,1],[3,2,1]]]
abbrev Dq3:List Os:=[[[1,2,3]],[[1,3,2],[3,1,2],[2,3,1],[2,1,3]],[[2,1,3],[2,3,1],[3,1,2],[1,3,2]],[[2,3,1],[2,1,3],[1,3,2],[3,1,2]],[[3,1,2],[1,3,2],[2,1,3],[2,3,1]],[[3,2,1]]]
def wq3:BX Gq3=Wq3:=by decide +kernel
def ob3:Okb 3 500 (zj (ao 3)<|lz (ao 3) YY) (lz (ao 3) Dq3):=by
 rw[gt3];exact Eg (X:=Yq3) ⋯ ∅ ∅ ∅ wq3 ∅ ∅ ∅ ∅ ∅
abbrev Wq4:List Os:=[[[1,2,3,4]],[[1,2,4,3],[1,3,4,2],[2,3,4,1]],[[1,3,2,4],[1,4,2,3],[2,3,1,4]],[[1,4,3,2],[2,4,3,1],[3,4,2,1]],[[2,1,3,4],[3,1,2,4],[4,1,2,3]],[[2,1,4,3],[3,1,4,2]],[[2,4,1,3],[3,4,1,2]],[[3,2,1,4],[4,2,1,3],[4,3,1,2]],[[3,2,4,1],[4,1,3,2],[4,2,3,1]],[[4,3,2,1]]]
abbrev Yq4:List Os:=[[[1,2,3,4],[1,2,3,4]],[[1,2,4,3],[1,4,2,3],[4,1,2,3],[1,2,4,3],[1,3,4,2],[2,3,4,1]],[[1,3,2,4],[1,3,4,2],[3,1,2,4],[1,3,2,4],[1,4,2,3],[2,3,1,4]],[[1,3,2,4],[1,3,4,2],[3,1,2,4],[1,2,4,3],[1,3,4,2],[2,3,4,1]],[[1,2,4,3],[1,4,2,3],[4,1,2,3],[1,3,2,4],[1,4,2,3],[2,3,1,4]],[[1,4,3,2],[4,1,3,2],[4,3,1,2],[1,4,3,2],[2,4,3,1],[3,4,2,1]],[[2,1,3,4],[2,3,1,4],[2,3,4,1],[2,1,3,4],[3,1,2,4],[4,1,2,3]],[[2,1,4,3],[2,4,1,3],[2,1,4,3],[3,1,4,2]],[[2,1,3,4],[2,3,1,4],[2,3,4,1],[1,3,2,4],[1,4,2,3],[2,3,1,4]],[[2,1,3,4],[2,3,1,4],[2,3,4,1],[1,2,4,3],[1,3,4,2],[2,3,4,1]],[[2,1,4,3],[2,4,1,3],[2,4,1,3],[3,4,1,2]],[[2,4,3,1],[4,2,1,3],[4,2,3,1],[1,4,3,2],[2,4,3,1],[3,4,2,1]],[[1,3,2,4],[1,3,4,2],[3,1,2,4],[2,1,3,4],[3,1,2,4],[4,1,2,3]],[[3,1,4,2],[3,4,1,2],[2,1,4,3],[3,1,4,2]],[[3,2,1,4],[3,2,4,1],[3,4,2,1],[3,2,1,4],[4,2,1,3],[4,3,1,2]],[[3,2,1,4],[3,2,4,1],[3,4,2,1],[3,2,4,1],[4,1,3,2],[4,2,3,1]],[[3,1,4,2],[3,4,1,2],[2,4,1,3],[3,4,1,2]],[[3,2,1,4],[3,2,4,1],[3,4,2,1],[1,4,3,2],[2,4,3,1],[3,4,2,1]],[[1,2,4,3],[1,4,2,3],[4,1,2,3],[2,1,3,4],[3,1,2,4],[4,1,2,3]],[[1,4,3,2],[4,1,3,2],[4,3,1,2],[3,2,4,1],[4,1,3,2],[4,2,3,1]],[[2,4,3,1],[4,2,1,3],[4,2,3,1],[3,2,1,4],[4,2,1,3],[4,3,1,2]],[[2,4,3,1],[4,2,1,3],[4,2,3,1],[3,2,4,1],[4,1,3,2],[4,2,3,1]],[[1,4,3,2],[4,1,3,2],[4,3,1,2],[3,2,1,4],[4,2,1,3],[4,3,1,2]],[[4,3,2,1],[4,3,2,1]]]
abbrev Dq4:List Os:=[[[1,2,3,4]],[[1,2,4,3],[1,4,2,3],[4,1,2,3],[1,3,4,2],[2,3,4,1],[2,1,3,4],[2,3,1,4],[1,3,2,4],[3,1,2,4]],[[1,3,2,4],[1,3,4,2],[3,1,2,4],[1,4,2,3],[2,3,1,4],[2,1,3,4],[2,3,4,1],[1,2,4,3],[4,1,2,3]],[[1,3,4,2],[1,3,2,4],[3,1,2,4],[1,2,4,3],[2,3,4,1],[2,1,3,4],[2,3,1,4],[1,4,2,3],[4,1,2,3]],[[1,4,2,3],[1,2,4,3],[4,1,2,3],[1,3,2,4],[2,3,1,4],[2,1,3,4],[2,3,4,1],[1,3,4,2],[3,1,2,4]],[[1,4,3,2],[4,1,3,2],[4,3,1,2],[2,4,3,1],[3,4,2,1],[3,2,1,4],[3,2,4,1],[4,2,3,1],[4,2,1,3]],[[2,1,3,4],[2,3,1,4],[2,3,4,1],[3,1,2,4],[4,1,2,3],[1,2,4,3],[1,4,2,3],[1,3,2,4],[1,3,4,2]],[[2,1,4,3],[2,4,1,3],[3,1,4,2],[3,4,1,2]],[[2,3,1,4],[2,1,3,4],[2,3,4,1],[1,3,2,4],[1,4,2,3],[1,2,4,3],[4,1,2,3],[3,1,2,4],[1,3,4,2]],[[2,3,4,1],[2,1,3,4],[2,3,1,4],[1,2,4,3],[1,3,4,2],[1,3,2,4],[3,1,2,4],[4,1,2,3],[1,4,2,3]],[[2,4,1,3],[2,1,4,3],[3,4,1,2],[3,1,4,2]],[[2,4,3,1],[4,2,1,3],[4,2,3,1],[1,4,3,2],[3,4,2,1],[3,2,1,4],[3,2,4,1],[4,1,3,2],[4,3,1,2]],[[3,1,2,4],[1,3,2,4],[1,3,4,2],[2,1,3,4],[4,1,2,3],[1,2,4,3],[1,4,2,3],[2,3,1,4],[2,3,4,1]],[[3,1,4,2],[3,4,1,2],[2,1,4,3],[2,4,1,3]],[[3,2,1,4],[3,2,4,1],[3,4,2,1],[4,2,1,3],[4,3,1,2],[1,4,3,2],[4,1,3,2],[4,2,3,1],[2,4,3,1]],[[3,2,4,1],[3,2,1,4],[3,4,2,1],[4,1,3,2],[4,2,3,1],[2,4,3,1],[4,2,1,3],[4,3,1,2],[1,4,3,2]],[[3,4,1,2],[3,1,4,2],[2,4,1,3],[2,1,4,3]],[[3,4,2,1],[3,2,1,4],[3,2,4,1],[1,4,3,2],[2,4,3,1],[4,2,1,3],[4,2,3,1],[4,1,3,2],[4,3,1,2]],[[4,1,2,3],[1,2,4,3],[1,4,2,3],[2,1,3,4],[3,1,2,4],[1,3,2,4],[1,3,4,2],[2,3,4,1],[2,3,1,4]],[[4,1,3,2],[1,4,3,2],[4,3,1,2],[3,2,4,1],[4,2,3,1],[2,4,3,1],[4,2,1,3],[3,2,1,4],[3,4,2,1]],[[4,2,1,3],[2,4,3,1],[4,2,3,1],[3,2,1,4],[4,3,1,2],[1,4,3,2],[4,1,3,2],[3,2,4,1],[3,4,2,1]],[[4,2,3,1],[2,4,3,1],[4,2,1,3],[3,2,4,1],[4,1,3,2],[1,4,3,2],[4,3,1,2],[3,2,1,4],[3,4,2,1]],[[4,3,1,2],[1,4,3,2],[4,1,3,2],[3,2,1,4],[4,2,1,3],[2,4,3,1],[4,2,3,1],[3,2,4,1],[3,4,2,1]],[[4,3,2,1]]]
def wq4:BX Gq4=Wq4:=by decide +kernel
def ob4:Okb 4 500 (zj (ao 4)<|lz (ao 4) Zs) (lz (ao 4) Dq4):=by
 rw[gt4];exact Eg (X:=Yq4) ⋯ ∅ ∅ ∅ wq4 ∅ ∅ ∅ ∅ ∅
end K68
namespace K68
open PySem L2 Am
meta abbrev Q3:=List<|ag×Nat×Os
meta abbrev D3:=List<|ag×Os
abbrev qk (q:Q3):List (ag×A):=q.map λe=>(e.1,.ref e.2.1)
abbrev O0 (q:Q3):D3:=q.map λe=>(e.1,e.2.2)
abbrev gO (D:D3)(k:ag):Os:=((D.find? λe=>decide<|e.1=k).map (·.2)).getD []
abbrev pO (D:D3)(k:ag)(os:Os):D3:=if (D.find? λe=>decide<|e.1=k).isSome=true then D.map (λe=>if e.1=k then(e.1,os)else e)else D++[(k,os)]
abbrev pQ (q:Q3)(k:ag)(r:Nat)(os:Os):Q3:=if (q.find? λe=>decide<|e.1=k).isSome=true then q.map (λe=>if e.1=k then(e.1,r,os)else e)else q++[(k,r,os)]
def VA(q:Q3)(k:ag):(O0 q).find? (λe=>decide<|e.1=k)=(q.find? λe=>decide<|e.1=k).map λe=>(e.1,e.2.2):=by
 unfold O0;rw[fK];rfl
def aaE(q:Q3)(k:ag):kW (qk q) k=(q.find? λe=>decide<|e.1=k).map λe=>.ref e.2.1:=by
 unfold kW qk;rw[fK,dJ];rfl
def adm(q:Q3)(k:ag)(r:Nat)(os:Os):O0 (pQ q k r os)=pO (O0 q) k os:=by
 unfold pQ pO;rw[VA,dG];split
 ·unfold O0;rw[bg,bg];refine bW λe _=>?_;show(λe:ag×Nat×Os=>(e.1,e.2.2)) (if e.1=k then(e.1,r,os)else e)=if e.1=k then(e.1,os)else(e.1,e.2.2)
  split<;>rfl
 ·unfold O0;rw[bu];rfl
def acs(q:Q3)(k:ag)(r:Nat)(os:Os):putD (qk q) k (.ref r)=qk (pQ q k r os):=by
 unfold pQ putD;rw[aaE,dG];split
 ·unfold qk;rw[bg,bg];refine bW λe _=>?_;show(if e.1=k then(e.1,A.ref r)else(e.1,A.ref e.2.1))=(λe:ag×Nat×Os=>(e.1,A.ref e.2.1)) (if e.1=k then(e.1,r,os)else e);split<;>rfl
 ·unfold qk;rw[bu];rfl
def ZA{q:Q3}{k:ag}{r:Nat}{os:Os}{e:ag×Nat×Os}(h:e∈pQ q k r os):e∈q\/e=(k,r,os):=by
 unfold pQ at h;split at h
 ·obtain⟨f,d,rfl⟩:=aY.mp h;split
  ·rename_i c;exact .inr (by rw[c])
  ·exact .inl d
 ·exact(bG.mp h).imp id aP.mp
structure Dq (S:jU)(d B:Nat)(D:D3):Prop where
 ex:∃q:Q3,kc S d=some (qk q)/\O0 q=D/\∀e∈q,jS S e.2.1=some (e.2.2.map tq)/\B<=e.2.1
def Dq.put{S:jU}{d B r:Nat}{D:D3}{k o:ag}(h:Dq S d B D)(hD:D.length<=1000)(hs:(gO D k).length<=1000)(he:jS S r=some [])(hB:B<=S.length) :
  ∃(x:A) (T T':jU),RL (.ref d) [.tup<|k.map .int,.ref r] S=.ok x S/\nV x (.ref S.length) (S++[O.lst [tq o]])=.ok (.ref<|S.length+1) T/\n9 (.ref d) (.tup<|k.map .int) (.ref<|S.length+1) T=.ok Unit.unit T'/\Dq T' d B (pO D k<|gO D k++[o])/\Kp (·=d) S T':=by
 obtain⟨q,h1,h2,h3⟩:=h.ex;have K:q.length=D.length:=by rw[<- h2];unfold O0;rw[aG]
 have f:∃n,(kW (qk q) k).getD (.ref r)=.ref n/\jS S n=some ((gO D k).map tq):=by
  have e0:gO D k=((q.find? λe=>decide<|e.1=k).map λe=>e.2.2).getD []:=by
   unfold gO;rw[<- h2,VA,dJ];rfl
  rw[aaE,e0]
  cases c:q.find? λe=>decide (e.1=k)with
  | none=>exact⟨r,rfl,he⟩
  | some e=>exact⟨e.2.1,rfl,(h3 e<|cI c).1⟩
 obtain⟨n,G,J⟩:=f;have F:(S++[O.lst [tq o]]).length=S.length+1:=by rw[aX];rfl
 have C:=Jq (lA (o:=O.lst [tq o]) J) (j9 (S:=S) (xs:=[tq o])) (by rw[aG];show _+1<=_;lia);rw[F]at C;obtain⟨T,j⟩:∃T,T=S++[O.lst [tq o]]++[O.lst<|(gO D k).map tq++[tq o]]:=⟨_,rfl⟩;have t:kZ S T:=by rw[j];exact Kp.refl.lay.lay
 have lay:jS T (S.length+1)=some ((gO D k++[o]).map tq):=by rw[j,bu,<- F];exact j9
 have dT:=t.dct _ _ (λz=>z) h1;rw[<- j]at C;have g:Kp (·=d) T (T.set d<|.dct<|qk<|pQ q k (S.length+1)<|gO D k++[o]):=Kp.refl.pT<|.inl rfl;refine⟨.ref n,T,_,by rw[Su.Jc,h1,j7,G],C,?_,⟨pQ q k (S.length+1)<|gO D k++[o],Su.DK<|Su.sC dT,by rw[adm,h2],λe p=>?_⟩,t.of0.trans g⟩
 ·rw[Su.rK,dT,j7,acs q k (S.length+1)<|gO D k++[o]];exact pJ (by unfold qk;rw[aG];lia)
 ·rcases ZA p with z|z
  ·have a:=t.lst _ _ (λz=>z) (h3 e z).1;exact⟨g.lst _ _ (λw=>Su.mW dT a w.symm) a,(h3 e z).2⟩
  ·rw[z];exact⟨g.lst _ _ (λw=>Su.mW dT lay w.symm) lay,by show B<=S.length+1;lia⟩
def Dq.sort{S:jU}{d B:Nat}{D:D3}(h:Dq S d (B+1) D)(ne:∀e∈D,e.2≠[])(nd:(D.map λe=>sV e.2).Nodup)(hl:D.length<64) :
  ∃S',X8 (.ref d) S=.ok (.ref S.length) S'/\Hs S' S.length B ((M3<|D.map λe=>sV e.2).map λi=>(D.map (·.2)).getD i [])/\kZ S S':=by
 obtain⟨q,h1,h2,h3⟩:=h.ex;have z:∀e∈q,(e.1,e.2.2)∈D:=λe g=>by rw[<- h2];exact cu (f:=λe:ag×Nat×Os=>(e.1,e.2.2)) g
 have e1:(D.map λe=>sV e.2)=(q.map λe=>(e.2.2,e.2.1)).map λh:Os×Nat=>sV h.1:=by rw[<- h2];unfold O0;rw[bg,bg];rfl
 have e2:D.map (·.2)=(q.map λe=>(e.2.2,e.2.1)).map λh:Os×Nat=>h.1:=by rw[<- h2];unfold O0;rw[bg,bg];rfl
 have e3:(qk q).map (·.2)=(q.map λe=>(e.2.2,e.2.1)).map λh:Os×Nat=>A.ref h.2:=by unfold qk;rw[bg,bg];rfl
 have C:q.length=D.length:=by rw[<- h2];unfold O0;rw[aG]
 rw[e1]at nd;obtain⟨S1,p,k,t⟩:=N5 (S:=S) (L:=B) (hs:=q.map λe=>(e.2.2,e.2.1)) (λh j=>by
  obtain⟨e,g,rfl⟩:=aY.mp j;exact⟨(h3 e g).1,by have:=(h3 e g).2;show B<e.2.1;lia⟩) (λh j=>by
  obtain⟨e,g,rfl⟩:=aY.mp j;exact ne (e.1,e.2.2)<|z e g) nd<|by rw[aG];lia
 rw[e1,e2];refine⟨S1,?_,k,t⟩;show opt (kc S d) _=_;rw[h1,j7,e3];exact p
end K68
namespace K68
open PySem L2 Am
def VL{n:Nat}(h:jS S n=some xs):yw (.ref n) (.ty "list") S=.ok (.bl true) S:=by
 show opt ((jS S n).map _) _=_;rw[h];rfl
def KC{n k:Nat}(h:jS S n=some (List.replicate k<|.bl true)):HC (.ref n) S=.ok (.bl true) S:=by
 show opt (jS S n) _=_;rw[h];have:A.G6 (List.replicate k<|.bl true)=some (List.replicate k true):=by
  have:=NU (λ_:Nat=>true) (List.range k)
  rwa [jL,jL,bR]at this
 show opt (A.G6 _) _=_;rw[this];show Am.R.ok (A.bl<|(List.replicate k true).all λb=>b) S=_;rw[show((List.replicate k true).all λb=>b)=true from fJ.mpr λx d=>(List.mem_replicate.mp d).2]
theorem Gk{f:A->A->bi}:∀{as bs:List<|Os×Nat},as.map (·.1)=bs.map (·.1)->(∀a∈as,∀b∈bs,a.1=b.1->f (.ref a.2) (.ref b.2)=some true)->tV f (as.map λh=>.ref h.2) (bs.map λh=>.ref h.2)=some true
 | [],[],_,_=>rfl
 | a::as,b::bs,e,h=>by
  rw[bC,bC]at e
  injection e with e1 e2
  show(f (.ref a.2)<|.ref b.2).bind (λp=>(tV f (as.map λh=>.ref h.2)<|bs.map λh=>.ref h.2).map λq=>p && q)=_;rw[h a (aL ..) b (aL ..) e1,Gk e2 λx d y hy=>h x (aQ _ d) y<|aQ _ hy];rfl
def ZW{r L:Nat}{G:List Os}(h:Hs S r L G)(h':Hs S s M G):yg S 12 (.ref r) (.ref s)=some true:=by
 obtain⟨t,d,j,k⟩:=h.ex;obtain⟨bs,p,f,q⟩:=h'.ex;show(jS S r).bind (λxs=>(jS S s).bind λys=>tV (yg S 11) xs ys)=_;rw[d,dw,p,dw];refine Gk (j.trans f.symm) λa ha b hb e=>?_;show(jS S a.2).bind (λxs=>(jS S b.2).bind λys=>tV (yg S 10) xs ys)=_;rw[(k a ha).1,dw,(q b hb).1,dw,e];refine Ce λx g=>?_;obtain⟨l,_,rfl⟩:=aY.mp g;show tV (yg S 9) (l.map .int) (l.map .int)=_;rw[vR,bf rfl]
def Hs.kp{r L:Nat}{G:List Os}(h:Hs S r L G)(k:kZ S S'):Hs S' r L G:=by
 obtain⟨hs,h1,h2,h3⟩:=h.ex;exact⟨hs,k.lst _ _ (λz=>z) h1,h2,λz d=>⟨k.lst _ _ (λz=>z) (h3 z d).1,(h3 z d).2⟩⟩
def JY{r L:Nat}{G:List Os}{c:Ex}(h:Hs S r L G)(hl:G.length<=1000)(h0:jQ 0 τ S=.ok (.ref r) S)(step:∀(g:Os) (a:Nat) (T:jU),g∈G->jS T a=some (g.map tq)->∃T2,c [.ref a] T=.ok (.bl true) T2/\kZ T T2) :
  ∃S',ku (f1 HC) (jR (kI [none] (kY<|jQ 0) (kB 0) oZ c) jW) τ S=.ok (.bl true) S'/\kZ S S':=by
 obtain⟨hs,h1,h2,h3⟩:=h.ex;have C:hs.length=G.length:=by rw[<- h2,aG]
 obtain⟨ys,S1,p,⟨j,t⟩,_⟩:=AQ (cap:=[]) (e:=c) (τ:=τ) (S:=S) (S1:=S) (src:=kY<|jQ 0) (xs:=hs.map λh=>.ref h.2) (lN h0 h1)
  (λi acc T=>acc=List.replicate i (.bl true)/\kZ S T) (λi acc T z=>z.2.lst _ _ (λz=>z) h1) ⟨rfl,Kp.refl⟩ (λi x acc T d z=>by
   obtain⟨rfl,k⟩:=z;rw[aO]at d;obtain⟨q,hq,rfl⟩:=aW.mp d;have f:=a_ hq;obtain⟨T2,e2,B⟩:=step q.1 q.2 T (by rw[<- h2];exact cu f)<|k.lst _ _ (λz=>z) (h3 q f).1;exact⟨.bl true,T2,e2,List.replicate_succ'.symm,k.trans B⟩) (by rw[aG];lia)
 subst j;have al:=KC (S:=S1++[O.lst<|List.replicate (hs.map λh=>A.ref h.2).length<|.bl true]) j9;refine⟨S1++[O.lst<|List.replicate (hs.map λh=>A.ref h.2).length<|.bl true],?_,t.lay⟩;dsimp[kC,l6,bools,↓p,al]
def VW{r L:Nat}{G:List Os}(h:Hs S r L G)(h':Hs S s M G)(hl:G.length<=1000)(hg:∀g∈G,g.length<=1000):∃S',k9 [.ref r,.ref s] S=.ok (.bl true) S'/\kZ S S':=by
 obtain⟨S1,B,f⟩:=JY (c:=ku (f2 yw)<|jR (jQ 0)<|jR (eC<|.ty "list") jW) (τ:=[.ref r,.ref s]) h hl (by dsimp[kC,l6,bools]) λg a T hg d=>⟨T,by dsimp[kC,l6,bools,VL d],Kp.refl⟩;have ne:wo true (.ref r) (.ref s) S1=.ok (.bl false) S1:=YD<|ZW (h.kp f)<|h'.kp f;obtain⟨S2,p,C⟩:=JY (S:=S1) (c:=ku (f1 HC)<|jR (kI [none] (kY<|jQ 0) (kB 0) oZ<|ku (f2 yw)<|jR (jQ 0)<|jR (eC<|.ty "tuple") jW) jW) (τ:=[.ref r,.ref s]) (h.kp f) hl (by dsimp[kC,l6,bools]) λg a T j d=>by
  obtain⟨T1,k,q⟩:=xC (cap:=[]) (t:=oZ) (e:=ku (f2 yw)<|jR (jQ 0)<|jR (eC<|.ty "tuple") jW) (τ:=[.ref a]) (S:=T) (S1:=T) (src:=kY<|jQ 0) (xs:=g.map tq) (lN (by dsimp[kC,l6,bools]) d) d (λ_=>true) (λ_=>.bl true) (λx z U J=>⟨U,rfl,Kp.refl,λ_=>by
   obtain⟨o,F,rfl⟩:=aY.mp z;refine⟨U,?_,Kp.refl⟩;show ku (f2 yw) (jR (jQ 0)<|jR (eC<|.ty "tuple") jW) [tq o] U=_;dsimp[kC,l6,bools,uq,show yw (tq o) (.ty "tuple") U=.ok (.bl true) U from rfl]⟩) (by rw[aG];have:=hg g j;lia)
  rw[fF.mpr λ_ _=>rfl,jL,aG]at k;have al:=KC (S:=T1++[O.lst<|List.replicate g.length<|.bl true]) j9;exact⟨T1++[O.lst<|List.replicate g.length<|.bl true],by dsimp[kC,l6,bools,↓k,al],q.lay⟩
 obtain⟨hs,h1,_,_⟩:=h.ex;refine⟨S2,?_,f.trans C⟩;unfold k9 p_ pY;dsimp[kC,l6,bools,nq,Nat.reduceAdd,Nat.reduceSub,VL h1,b7,↓B,ne,↓p]
end K68
namespace K68
open PySem L2 Am
open Eu (inj)
abbrev Mt (o:ag):ag:=(((Dk 0 o [] []).map (·.1)).getD []).map λr=>(r.length:Int)
def SK(h:(Dk 0 o [] []).isSome=true)(hl:(Mt o).length<=1000) :
  ∃S',ku (f1 ue) (jR (kI [none] (kY<|j4 pS (eFn nj<|jR (jQ 2) jW)<|eC<|.int 0) (kB 0) oZ<|ku (f1 qU)<|jR (jQ 0) jW) jW) [x0,x1,tq o,x3] S=.ok (.tup<|(Mt o).map .int) S'/\kZ S S':=by
 obtain⟨d,f⟩:=dI.mp h;obtain⟨n,m,C,J,S1,e1,tw,G⟩:=Yz (S:=S) f;have es:Mt o=d.1.map λr=>(r.length:Int):=by unfold Mt;rw[f];rfl
 have top:=tw.t.top;have q:=tw.t.len;rw[es,aG]at hl;obtain⟨ys,S2,B,⟨k,rfl⟩,_⟩:=AQ (cap:=[]) (e:=ku (f1 qU)<|jR (jQ 0) jW) (τ:=[x0,x1,tq o,x3]) (S:=S) (S1:=S1) (src:=kY<|j4 pS (eFn nj<|jR (jQ 2) jW)<|eC<|.int 0) (xs:=C.map .ref) (lN (by dsimp[kC,l6,bools,uq,e1,wH]) top)
  (λi acc T=>acc=((d.1.take i).map λr=>(r.length:Int)).map .int/\T=S1) (λi acc T z=>by rw[z.2];exact top) ⟨rfl,rfl⟩ (λi x acc T j z=>by
   obtain⟨rfl,rfl⟩:=z;rw[aO]at j;obtain⟨r,f,rfl⟩:=aW.mp j;obtain⟨g,p⟩:=tw.t.rows.get f;refine⟨.int ((d.1.getD i []).length:Int),T,?_,?_,rfl⟩
   ·show ku (f1 qU) (jR (jQ 0) jW) [.ref r] T=_;dsimp[kC,l6,bools,p,aG]
   ·rw[bN,aI g,bu,bu,aK,aI g];rfl) (by rw[aG];lia)
 rw[aG,q,bT,<- es]at k;subst k;refine⟨S2++[O.lst<|(Mt o).map .int],?_,G.lay⟩;have F:jS (S2++[O.lst<|(Mt o).map A.int]) S2.length=some ((Mt o).map .int):=j9;dsimp[kC,l6,bools,↓B,F]
abbrev du (n i:Nat):D3:=((inj n n).take i).foldl (λD o=>pO D (Mt o)<|gO D (Mt o)++[o]) []
structure Okd (n:Nat):Prop where
 hl:(inj n n).length<=24
 tw:∀o∈inj n n,(Dk 0 o [] []).isSome=true/\(Mt o).length<=1000
 ln:∀i,i<25->(du n i).length<64/\∀e∈du n i,e.2.length<=63
 nd:((du n (inj n n).length).map λe=>sV e.2).Nodup
 ne:∀e∈du n (inj n n).length,e.2≠[]
abbrev Sl (n:Nat):List Os:=(M3<|(du n (inj n n).length).map λe=>sV e.2).map λi=>((du n (inj n n).length).map (·.2)).getD i []
def Yq{D:D3}{k:ag}(h:∀e∈D,e.2.length<=b):(gO D k).length<=b:=by
 unfold gO
 cases c:D.find? λe=>decide (e.1=k)with
 | none=>exact bK _
 | some e=>exact h e<|cI c
def Dq.wm{d B:Nat}{D:D3}(h:Dq S d B D)(k:kZ S S'):Dq S' d B D:=by
 obtain⟨q,h1,h2,h3⟩:=h.ex;exact⟨q,k.dct _ _ (λz=>z) h1,h2,λe f=>⟨k.lst _ _ (λz=>z) (h3 e f).1,(h3 e f).2⟩⟩
def WA{S:jU}{n:Nat}(h6:n<=6)(ok:Okd n):∃(R:Nat) (S':jU),rF [.int n] S=.ok (.ref R) S'/\Hs S' R S.length (Sl n)/\S.length<=R/\kZ S S':=by
 obtain⟨S1,g⟩:∃S1,S1=S++[O.dct []]:=⟨_,rfl⟩;have W:kZ S S1:=by rw[g];kt_k
 have d1:kc S1 S.length=some []:=by rw[g];exact Su.nX
 have n1:S1.length=S.length+1:=by rw[g,aX];rfl
 have nd1:ze [.int n,.unb,.unb,.unb] S=.ok (.ref S.length) S1:=by rw[g];rfl
 obtain⟨V,S2,x2,Y,F,v2⟩:=Uo (S:=S1) (n:=n) h6;have hl:=ok.hl;have t:∃(f d:A) (S':jU),mC vC (kB 2) vN [.int n,.ref S.length,.unb,.unb] S1=.nx [.int n,.ref S.length,f,d] S'/\Dq S' S.length (S.length+1) (du n (inj n n).length)/\Kp (·=S.length) S2 S':=by
  refine nK (n:=V) (xs:=(inj n n).map Ej) (S:=S1) (S1:=S2) (show vC _ _=_ from lN (by dsimp[kC,l6,bools,x2]) Y)
   (λi τ T=>∃(f d:A),τ=[.int n,.ref S.length,f,d]/\Dq T S.length (S.length+1) (du n i)/\Kp (·=S.length) S2 T)
   (λZ=>∃(f d:A) (S':jU),Z=.nx [.int n,.ref S.length,f,d] S'/\Dq S' S.length (S.length+1) (du n (inj n n).length)/\Kp (·=S.length) S2 S')
   ⟨_,_,rfl,⟨[],F.dct _ _ (λz=>z) d1,rfl,nofun⟩,Kp.refl⟩ (λi τ T z=>?_) ?_ ?_
  ·obtain⟨_,_,_,_,k⟩:=z;exact k.lst _ _ () Y
  ·rintro i z τ T N ⟨f,d,rfl,p,C⟩;rw[aO]at N;obtain⟨o,J,rfl⟩:=aW.mp N;have hi:=(aJ.mp J).1;have mo:=a_ J;obtain⟨t1,t2⟩:=ok.tw o mo;obtain⟨T1,e1,B⟩:=SK (S:=T) (o:=o) (x0:=.int n) (x1:=.ref S.length) (x3:=d) t1 t2;obtain⟨T2,j⟩:∃T2,T2=T1++[O.lst []]:=⟨_,rfl⟩;have G:kZ T1 T2:=by rw[j];kt_k
   have m2:jS T2 T1.length=some []:=by rw[j];exact j9
   have K:newL ([]:ae) T1=.ok (.ref T1.length) T2:=by rw[j];o_rec
   have L:newL [tq o] T2=.ok (.ref T2.length) (T2++[O.lst [tq o]]):=nZ (show 1<=16777216 by decide);have ln:=ok.ln i ();have kl:=C.len;have k2l:=F.len;have M:=(B.trans G).len;obtain⟨x,T4,T5,g1,g2,g3,U,g5⟩:=(p.wm<|B.trans G).put (r:=T1.length) (k:=Mt o) (o:=o) () (by have:=Yq (k:=Mt o) ln.2;lia) m2 ();have dq:dct? (.ref S.length) T1=some Unit.unit:=by
    obtain⟨q,a1,_,_⟩:=(p.wm B).ex;rw[Su.KH,a1];rfl
   refine⟨[.int n,.ref S.length,tq o,d],T,rfl,.inl ⟨[.int n,.ref S.length,tq o,.tup<|(Mt o).map .int],T5,?_,_,_,rfl,?_,(C.trans (B.trans G).of0).trans g5⟩⟩
   ·unfold vN;dsimp[kC,l6,bools,uq,↓e1,Su.JK,dq,K,<- j,g1,L,g2,Su.xW,g3]
   ·unfold du at U ⊢;rw[bN,J,dU];exact U
  ·rintro τ T ⟨f,d,rfl,p,C⟩;rw[aG]at p;exact⟨f,d,T,rfl,p,C⟩
 obtain⟨f,d,S3,x3,h3,P⟩:=t;obtain⟨S4,x4,h4,k4⟩:=h3.sort ok.ne ok.nd (ok.ln _ ()).1;have k12:=(W.trans F).len;have k3l:=P.len;refine⟨S3.length,S4,?_,h4,(),((W.trans F).old P λm hm _ z=>()).trans k4⟩;unfold rF yq yy;dsimp[kC,l6,bools,nq,Nat.reduceAdd,Nat.reduceSub,nd1,↓x3,YN,x4]
end K68
namespace K68
open PySem L2 Am
open Eu (inj)
theorem VT{x:ag}:∀(L:Os),VR S (tq x) (L.map tq)=some (decide<|x∈L)
 | []=>rfl
 | y::L=>by
  show(yg S 12 (tq y)<|tq x).bind (λa=>(VR S (tq x)<|L.map tq).map λb=>a || b)=_;rw[VT L,show yg S 12 (tq y) (tq x)=some (decide<|y=x)from vR y x];show some (decide (y=x) || decide (x∈L))=_;by_cases c:y=x
  ·rw[bf c,c,bf<|aL ..];rfl
  ·rw[bz c,f9];congr 1;exact fL.mpr ⟨λz=>aQ _ z,λz=>(bH.mp z).resolve_left λw=>c w.symm⟩
theorem A_{s:Src}{t:Te}{e:Ex}(P:Nat->ae->jU->Prop)(step:∀i acc T,i<s.k->P i acc T->∃x b T1,s.get i T=some x/\t (x::lG cap τ) T=.ok b T1/\(b=false->P (i+1) acc T1)/\(b=true->∃y T2,e (x::lG cap τ) T1=.ok y T2/\P (i+1) (acc++[y]) T2))(hfin:∀acc T,P s.k acc T->s.fin T=true) :
  ∀k i τ' T acc,k+i=s.k->(∃y,τ'=y::lG cap τ)->P i acc T->∃zs S',mX s (kB 0) t e k i τ' T=.ok zs S'/\P s.k (acc++zs) S'/\zs.length<=k
 | 0,i,τ',T,acc,hk,_,hP=>by
  have:i=s.k:=()
  subst this;exact⟨[],T,by unfold mX;rw[aV<|hfin _ _ hP],by rw[bZ];exact hP,aM _⟩
 | k+1,i,τ',T,acc,hk,hy,hP=>by
  obtain⟨d,rfl⟩:=hy;obtain⟨x,b,T1,e1,e2,p1,p2⟩:=step i acc T () hP;unfold mX;rw[e1,j7,Oa,R.kK,show t ((d::lG cap τ).set 0 x) T=.ok b T1 from e2,R.kK]
  cases b with
  | false=>
   obtain⟨zs,S',h1,h2,h3⟩:=A_ P step hfin k (i+1) (x::lG cap τ) T1 acc () ⟨x,rfl⟩<|p1 rfl;exact⟨zs,S',h1,h2,()⟩
  | true=>
   obtain⟨y,T2,e3,p3⟩:=p2 rfl;obtain⟨zs,S',h1,h2,h3⟩:=A_ P step hfin k (i+1) (x::lG cap τ) T2 (acc++[y]) () ⟨x,rfl⟩ p3;refine⟨y::zs,S',?_,by rw[cJ]at h2;exact h2,by rw[bA];lia⟩;show((e (x::lG cap τ) T1).nJ _)=_;rw[e3,R.kK];show(mX s (kB 0) t e k (i+1) (x::lG cap τ) T2).nJ _=_;rw[h1,R.kK]
def NI{s:Src}{src:Ic}{g:Tg}{t:Te}{e:Ex}{zs:ae}{S2:jU}(hs:src τ S=.ok s S1)(hg:mX s g t e s.k 0 (lG cap τ) S1=.ok zs S2)(hl:zs.length<=16777216):kI cap src g t e τ S=.ok (.ref S2.length) (S2++[.lst zs]):=by
 unfold kI;rw[hs,R.m9,hg,R.kK];exact mR hl
abbrev lies (h w:Os):Bool:=(h.filter λo=>!decide (o∈w)).isEmpty
def UT{x:ag}{L:Os}{r:Nat}(h:jS S r=some (L.map tq)):Bu true (tq x) (.ref r) S=.ok (.bl<|!decide (x∈L)) S:=by
 show opt (jS S r) _=_;rw[h,j7,VT];rfl
def UD{a:Nat}{h w:Os}(ha:jS T a=some (w.map tq))(hb:jS T b=some (h.map tq))(hl:h.length<=1000) :
  ∃T',pR (j4 (wo false) (kI [none,some 0] (kY<|jQ 1) (kB 0) (pR<|j4 (Bu true) (jQ 0)<|jQ 1)<|jQ 0)<|n8 jW) [.ref a,.ref b] T=.ok (lies h w) T'/\kZ T T':=by
 obtain⟨T1,g,G⟩:=xC (cap:=[some 0]) (t:=pR<|j4 (Bu true) (jQ 0)<|jQ 1) (e:=jQ 0) (τ:=[.ref a,.ref b]) (S:=T) (S1:=T) (src:=kY<|jQ 1) (xs:=h.map tq) (lN (by dsimp[kC,l6,bools]) hb) hb (λx=>!decide (un x∈w)) (λx=>x) (λx B U C=>by
  obtain⟨o,L,rfl⟩:=aY.mp B;rw[yY];have k:=UT (x:=o)<|C.lst _ _ (λz=>z) ha;refine⟨U,?_,Kp.refl,λ_=>⟨U,?_,Kp.refl⟩⟩
  ·show pR (j4 (Bu true) (jQ 0)<|jQ 1) [tq o,.ref a] U=_;dsimp[kC,l6,bools,uq,k]
  ·show jQ 0 [tq o,.ref a] U=_;dsimp[kC,l6,bools,uq])<|by rw[aG];lia
 have el:(((h.map tq).filter λx=>!decide (un x∈w)).map λx=>x)=(h.filter λo=>!decide (o∈w)).map tq:=by
  rw[map_id',fW];congr 1;refine jw λp _=>?_;show(!decide (un (tq p)∈w))=_;rw[yY]
 rw[el]at g;obtain⟨T2,f⟩:∃T2,T2=T1++[O.lst<|(h.filter λo=>!decide (o∈w)).map tq]:=⟨_,rfl⟩;rw[<- f]at g;have K:jS T2 T1.length=some ((h.filter λo=>!decide (o∈w)).map tq):=by rw[f];exact j9
 have J:kZ T T2:=by rw[f];exact G.lay
 obtain⟨T3,d⟩:∃T3,T3=T2++[O.lst []]:=⟨_,rfl⟩;have F:jS T3 T2.length=some []:=by rw[d];exact j9
 have j:kZ T2 T3:=by rw[d];kt_k
 have e3:wo false (.ref T1.length) (.ref T2.length) T3=.ok (.bl<|lies h w) T3:=by
  show opt (yg T3 12 _ _) _=_;rw[IV (j.lst _ _ (λz=>z) K) F,List.isEmpty_map];rfl
 have q:newL ([]:ae) T2=.ok (.ref T2.length) T3:=by rw[d];o_rec
 refine⟨T3,?_,J.trans j⟩;dsimp[kC,l6,bools,↓g,q,<- d,e3]
def YF{r L:Nat}{B:List Os}{h:Os}(hr:Hs S r L B)(hb:jS S b=some (h.map tq))(hl:h.length<=1000)(hB:B.length<=1000) :
  ∃S',ku (f1 qU) (jR (kI [none,some 4] (kY<|jQ 3) (kB 0) (pR<|j4 (wo false) (kI [none,some 0] (kY<|jQ 1) (kB 0) (pR<|j4 (Bu true) (jQ 0)<|jQ 1)<|jQ 0)<|n8 jW)<|jQ 0) jW) [x0,x1,x2,.ref r,.ref b] S=.ok (.int ((B.filter<|lies h).length:Int)) S'/\kZ S S':=by
 obtain⟨hs,h1,h2,h3⟩:=hr.ex;have C:hs.length=B.length:=by rw[<- h2,aG]
 obtain⟨zs,S1,e1,⟨p,J⟩,lz⟩:=A_ (s:=lU r (hs.map λh=>A.ref h.2).length) (cap:=[some 4]) (t:=pR<|j4 (wo false) (kI [none,some 0] (kY<|jQ 1) (kB 0) (pR<|j4 (Bu true) (jQ 0)<|jQ 1)<|jQ 0)<|n8 jW) (e:=jQ 0) (τ:=[x0,x1,x2,.ref r,.ref b])
  (λi acc T=>acc.length=((B.take i).filter<|lies h).length/\kZ S T) (λi acc T d hP=>by
   obtain⟨hP,k⟩:=hP;have d:i<(hs.map λh=>A.ref h.2).length:=d;rw[aG]at d;have hq:hs[i]∈hs:=di d;have f:B[i]?=some hs[i].1:=by rw[<- h2,aO,aI d];rfl
   obtain⟨T1,F,q⟩:=UD (k.lst _ _ (λz=>z) (h3 _ hq).1) (k.lst _ _ (λz=>z) hb) hl;refine⟨.ref hs[i].2,lies h hs[i].1,T1,?_,F,λc=>⟨?_,k.trans q⟩,λc=>⟨.ref hs[i].2,T1,?_,?_,k.trans q⟩⟩
   ·show(jS T r).bind _=_;rw[k.lst _ _ (λz=>z) h1];show(hs.map λh=>A.ref h.2)[i]?=_;rw[aO,aI d];rfl
   ·rw[bN,f,gR,aX,hP];show _=_+([hs[i].1].filter (lies h)).length;rw[dh,aR<|by rw[c];exact bF];rfl
   ·show jQ 0 [.ref hs[i].2,.ref b] T1=_;dsimp[kC,l6,bools]
   ·rw[bN,f,gR,aX,aX,hP];show _=_+([hs[i].1].filter (lies h)).length;rw[dh,aV c];rfl) (λacc T hP=>by
   show(match jS T r with
    | some ys=>decide (ys.length<=(hs.map λh=>A.ref h.2).length)
    | none=>false)=true
   rw[hP.2.lst _ _ (λz=>z) h1];exact bf<|aM _) (hs.map λh=>A.ref h.2).length 0 (lG [none,some 4] [x0,x1,x2,.ref r,.ref b]) S [] rfl ⟨_,rfl⟩ ⟨rfl,Kp.refl⟩
 rw[jJ,show(lU r (hs.map λh=>A.ref h.2).length).k=B.length from(aG ..).trans C,bT]at p;have g:zs.length<=16777216:=by rw[aG]at lz;lia
 have j:kI [none,some 4] (kY<|jQ 3) (kB 0) (pR<|j4 (wo false) (kI [none,some 0] (kY<|jQ 1) (kB 0) (pR<|j4 (Bu true) (jQ 0)<|jQ 1)<|jQ 0)<|n8 jW) (jQ 0) [x0,x1,x2,.ref r,.ref b] S=.ok (.ref S1.length) (S1++[.lst zs]):=by
  exact NI (lN (by dsimp[kC,l6,bools]) h1) e1 g
 have G:jS (S1++[O.lst zs]) S1.length=some zs:=j9;refine⟨S1++[O.lst zs],?_,J.lay⟩;dsimp[kC,l6,bools,↓j,G,p]
structure Ok68 (n:Nat)(G W B:List Os):Prop where
 n6:n<=6
 dk:Okd n
 du:Sl n=B
 bl:B.length<=1000/\(∀g∈B,g.length<=1000)/\B≠[]
 gl:(G++W).length<=1000/\∀h∈G++W,h.length<=1000/\(B.filter<|lies h).length=1
 rh:∀S:jU,∃(r:Nat) (S':jU),kL [.int n] S=.ok (.ref r) S'/\Hs S' r r G/\kZ S S'
 lh:∀S:jU,∃(r L:Nat) (S':jU),mF [.int n] S=.ok (.ref r) S'/\Hs S' r L W/\kZ S S'
 bh:∀S:jU,∃(r:Nat) (S':jU),kX [.int n] S=.ok (.ref r) S'/\Hs S' r r B/\S.length<=r/\kZ S S'
def Xd{n r:Nat}{G B:List Os}(ok:Ok68 n G W B)(h:Hs S r r B):∃(y:A) (S':jU),mC zy (kB 4) zP [x0,.int n,x2,.ref r,.unb] S=.nx [x0,.int n,x2,.ref r,y] S'/\kZ S S':=by
 obtain⟨a,S1,e1,h1,k1⟩:=ok.rh S;obtain⟨b,L,S2,e2,h2,C⟩:=ok.lh S1;obtain⟨f,V,K,a3⟩:=h1.ex;obtain⟨bs,b1,J,b3⟩:=h2.ex;have gl:=ok.gl;have la:f.length=G.length:=by rw[<- K,aG]
 have lb:bs.length=W.length:=by rw[<- J,aG]
 rw[aX]at gl;have U:=Jq (C.lst _ _ (λz=>z) V) b1 (by rw[aG,aG];lia);obtain⟨S3,d⟩:∃S3,S3=S2++[O.lst<|f.map (λh=>A.ref h.2)++bs.map λh=>A.ref h.2]:=⟨_,rfl⟩;rw[<- d]at U;have P:jS S3 S2.length=some ((f++bs).map λh=>.ref h.2):=by rw[d,bu];exact j9
 have p:kZ S2 S3:=by rw[d];kt_k
 have g:=(k1.trans C).trans p;have t:(f++bs).map (·.1)=G++W:=by rw[bu,K,J]
 have Y:∀q∈f++bs,jS S3 q.2=some (q.1.map tq):=λq hq=>by
  rcases bG.mp hq with z|z
  ·exact(C.trans p).lst _ _ (λz=>z) (a3 q z).1
  ·exact p.lst _ _ (λz=>z) (b3 q z).1
 refine nK (n:=S2.length) (xs:=(f++bs).map λh=>A.ref h.2) (S:=S) (S1:=S3) (show zy _ _=_ from lN (S1:=S3) (by dsimp[kC,l6,bools,e1,e2,U]) P)
  (λi τ T=>∃y,τ=[x0,.int n,x2,.ref r,y]/\kZ S3 T) (λZ=>∃(y:A) (S':jU),Z=.nx [x0,.int n,x2,.ref r,y] S'/\kZ S S')
  ⟨_,rfl,Kp.refl⟩ (λi τ T z=>?_) ?_ ?_
 ·obtain⟨_,_,k⟩:=z;exact k.lst _ _ (λz=>z) P
 ·rintro i z τ T F ⟨y,rfl,j⟩;rw[aO]at F;obtain⟨q,hq,rfl⟩:=aW.mp F;have N:=a_ hq;obtain⟨g1,g2⟩:=ok.gl.2 q.1 (by rw[<- t];exact cu N);obtain⟨T1,M,q1⟩:=YF (x0:=x0) (x1:=.int n) (x2:=x2) (h.kp<|g.trans j) (j.lst _ _ (λz=>z)<|Y q N) g1 ok.bl.1;rw[g2]at M;refine⟨[x0,.int n,x2,.ref r,.ref q.2],T,rfl,.inl ⟨[x0,.int n,x2,.ref r,.ref q.2],T1,?_,_,rfl,j.trans q1⟩⟩;unfold zP;dsimp[kC,l6,bools,↓M,show(((1:Nat):Int) == 1)=true from rfl,b7]
 ·rintro τ T ⟨y,rfl,j⟩;exact⟨y,T,rfl,g.trans j⟩
def Hs.old{S:jU}{r L:Nat}{G:List Os}{c:Nat->Prop}(h:Hs S r L G)(k:Kp c S S')(hc:∀m,c m->S.length<=m):Hs S' r L G:=by
 obtain⟨hs,h1,h2,h3⟩:=h.ex;refine⟨hs,k.lst _ _ (λz=>by have:=hc _ z;have:=lJ h1;lia) h1,h2,λz d=>⟨k.lst _ _ (λw=>by have:=hc _ w;have:=lJ (h3 z d).1;lia) (h3 z d).1,(h3 z d).2⟩⟩
def W2{n:Nat}{G B:List Os}(ok:Ok68 n G W B):∃S',RS.end (ki (kM (eFn rF<|jR (jQ 1) jW)<|kB 2)
 (ki (kM (eFn kX<|jR (jQ 1) jW)<|kB 3)
 (ki (zc (Fe<|tB<|eFn k9<|jR (jQ 3)<|jR (jQ 2) jW)
 (mH<|eC<|.bl false)
 r9)
 (ki (mC zy (kB 4)
 zP)
 (ki (ny<|Ek m5 (j4 pS (jQ 3)<|eC<|.int 0)<|jR (pP jW) jW)
 (ki (ny<|ML xA<|jQ 3)
 (mH<|eFn k9<|jR (eFn kX<|jR (jQ 1) jW)<|jR (jQ 2) jW)))))) [x0,.int n,.unb,.unb,.unb] S)=.ok (.bl true) S':=by
 obtain⟨R,S1,e1,h1,r1,k1⟩:=WA (S:=S) ok.n6 ok.dk;rw[ok.du]at h1;obtain⟨r,S2,e2,h2,r2,L⟩:=ok.bh S1;obtain⟨S3,e3,J⟩:=VW h2 (h1.kp L) ok.bl.1 ok.bl.2.1;obtain⟨y,C,e4,O⟩:=Xd (x0:=x0) (x2:=.ref R) ok<|h2.kp J;obtain⟨hs,K,M,b3⟩:=((h2.kp J).kp O).ex;obtain⟨q,t,rfl⟩:∃q t,hs=q::t:=by
  cases hs with
  | nil=>exact absurd M.symm ok.bl.2.2
  | cons q t=>exact⟨q,t,rfl⟩
 have p:=b3 q<|aL ..;have qm:q.1∈B:=by rw[<- M];exact cu (f:=λx:Os×Nat=>x.1) (aL ..)
 have ql:=ok.bl.2.1 q.1 qm;have Z:=L.len;obtain⟨d,j⟩:∃d,d=C.set q.2 (.lst<|q.1.map tq++[.tup []]):=⟨_,rfl⟩;have N:Kp (·=q.2) C d:=by rw[j];exact Kp.refl.pT (.inl rfl)
 have e5:m5 (.ref q.2) [.tup []] C=.ok .non d:=by
  show opt (jS C q.2) _=_;rw[p.1,j7,j];exact pJ<|by rw[aG];lia
 have F:=N.lst _ _ (show ¬r=q.2 by have:=p.2;lia) K;obtain⟨g,k⟩:∃g,g=d.set r (.lst ((q::t).map λh=>A.ref h.2).reverse):=⟨_,rfl⟩;have P:Kp (·=r) d g:=by rw[k];exact Kp.refl.pT (.inl rfl)
 have e6:xA (.ref r) [] d=.ok .non g:=by
  show opt (jS d r) _=_;rw[F,j7,k]
 have T:Kp (λm=>m=q.2\/m=r) S1 g:=(((L.trans<|J.trans O).of0).trans<|N.mono λm _ z=>.inl z).trans<|P.mono λm _ z=>.inr z;have h6:=h1.old T λm z=>by have:=p.2;lia
 obtain⟨r7,S7,V,h7,_,k7⟩:=ok.bh g;obtain⟨S8,U,k8⟩:=VW h7 (h6.kp k7) ok.bl.1 ok.bl.2.1;rw[bC]at K F;have Y:gd (([]:ae).length<=sizeLine)=λr:Am.R A=>r:=by funext r;o_rec
 refine⟨S8,?_⟩;dsimp[kC,l6,bools,e1,e2,e3,b7,↓e4,K,wH,p.1,Y,e5,F,e6,V,U]
def r4{n:Nat}{G:List Os}(hn:n<=4)(h:Okn n 200 (ao n)<|lz (ao n) C)(hg:zj (ao n) (lz (ao n) C)=G)(S:jU):∃(r:Nat) (S':jU),kL [.int n] S=.ok (.ref r) S'/\Hs S' r r G/\kZ S S':=by
 obtain⟨r,S',a,b,_,c⟩:=HK (S:=S) hn h;rw[hg]at b;exact⟨r,S',a,b,c⟩
def l4{n:Nat}{D:List Os}(hn:n<=4)(h:Okn n 200 (ao n)<|lz (ao n) C)(b:Okb n 500 (zj (ao n)<|lz (ao n) C)<|lz (ao n) D)(hg:BX (zj (ao n)<|lz (ao n) C)=W)(S:jU):∃(r L:Nat) (S':jU),mF [.int n] S=.ok (.ref r) S'/\Hs S' r L W/\kZ S S':=by
 obtain⟨r,L,S',a,b,_,c⟩:=UH (S:=S) hn h b;rw[hg]at b;exact⟨r,L,S',a,b,c⟩
def bo4{n:Nat}{D:List Os}{B:List Os}(hn:n<=4)(h:Okn n 200 (ao n)<|lz (ao n) C)(b:Okb n 500 (zj (ao n)<|lz (ao n) C)<|lz (ao n) D)(hg:zj (ao n) (lz (ao n) D)=B)(S:jU):∃(r:Nat) (S':jU),kX [.int n] S=.ok (.ref r) S'/\Hs S' r r B/\S.length<=r/\kZ S S':=by
 rw[<- hg];exact UU hn h b
end K68
namespace K68
open PySem L2 Am
def gb1:zj (ao 1) (lz (ao 1) Dq1)=Sl 1:=by decide +kernel
def dk1:Okd 1:=⟨by decide +kernel,by decide +kernel,by decide +kernel,by decide +kernel,by decide +kernel⟩
def abw:Ok68 1 Gq1 Wq1 (Sl 1):=⟨by decide,dk1,rfl,by decide +kernel,by decide +kernel,r4 ⋯ on1 gt1,l4 ⋯ on1 ob1 (by rw[gt1,wq1]),bo4 ⋯ on1 ob1 gb1⟩
def gb2:zj (ao 2) (lz (ao 2) Dq2)=Sl 2:=by decide +kernel
def dk2:Okd 2:=⟨by decide +kernel,by decide +kernel,by decide +kernel,by decide +kernel,by decide +kernel⟩
def aaG:Ok68 2 Gq2 Wq2 (Sl 2):=⟨by decide,dk2,rfl,by decide +kernel,by decide +kernel,r4 ⋯ on2 gt2,l4 ⋯ on2 ob2 (by rw[gt2,wq2]),bo4 ⋯ on2 ob2 gb2⟩
def gb3:zj (ao 3) (lz (ao 3) Dq3)=Sl 3:=by decide +kernel
def dk3:Okd 3:=⟨by decide +kernel,by decide +kernel,by decide +kernel,by decide +kernel,by decide +kernel⟩
def abn:Ok68 3 Gq3 Wq3 (Sl 3):=⟨by decide,dk3,rfl,by decide +kernel,by decide +kernel,r4 ⋯ on3 gt3,l4 ⋯ on3 ob3 (by rw[gt3,wq3]),bo4 ⋯ on3 ob3 gb3⟩
def gb4:zj (ao 4) (lz (ao 4) Dq4)=Sl 4:=by decide +kernel
def dk4:Okd 4:=⟨by decide +kernel,by decide +kernel,by decide +kernel,by decide +kernel,by decide +kernel⟩
def Nh:Ok68 4 Gq4 Wq4 (Sl 4):=⟨by decide,dk4,rfl,by decide +kernel,by decide +kernel,r4 ⋯ on4 gt4,l4 ⋯ on4 ob4 (by rw[gt4,wq4]),bo4 ⋯ on4 ob4 gb4⟩
def Zz(ns:ag)(hl:ns.length<=63):∃S',Ca [.frz<|ns.map .int] []=.ok (.bl true) S':=by
 obtain⟨p,g⟩:=SN (S:=[.lst [A.int 4,A.int 3,A.int 4,A.int 2,A.int 1,A.int 4]]) (ns:=ns) (k:=0) ⋯;obtain⟨f,d⟩:∃f:jU,f=[.lst [A.int 4,A.int 3,A.int 4,A.int 2,A.int 1,A.int 4]]:=⟨_,rfl⟩;rw[<- d]at g;have C:jS f 0=some [A.int 4,A.int 3,A.int 4,A.int 2,A.int 1,A.int 4]:=by rw[d];rfl
 have j:f.length=1:=by rw[d];rfl
 have F:newL [A.int 4,A.int 3,A.int 4,A.int 2,A.int 1,A.int 4] []=.ok (.ref 0) f:=by rw[d];exact nZ (show 6<=16777216 by decide)
 obtain⟨S1,e1,J,K⟩:=Vv (S:=f) (c:=p) (k:=1) ⋯ ⋯;obtain⟨q,S2,e2,P,O,N,L⟩:=digit (m:=6) J ⋯ ⋯;have M:jS S2 0=some [A.int 4,A.int 3,A.int 4,A.int 2,A.int 1,A.int 4]:=L.lst _ _ (by show ¬0=f.length;lia)<|K.lst _ _ (λz=>z) C;rw[j]at e1 e2;obtain⟨n,G,W,B,t,ok⟩:∃(n:Nat) (G W B:List Os),uY [A.int 4,A.int 3,A.int 4,A.int 2,A.int 1,A.int 4] q=some (.int n)/\Ok68 n G W B:=by
  have:q=0\/q=1\/q=2\/q=3\/q=4\/q=5:=()
  rcases this with rfl|rfl|rfl|rfl|rfl|rfl
  ·exact⟨4,_,_,_,rfl,Nh⟩
  ·exact⟨3,_,_,_,rfl,abn⟩
  ·exact⟨4,_,_,_,rfl,Nh⟩
  ·exact⟨2,_,_,_,rfl,aaG⟩
  ·exact⟨1,_,_,_,rfl,abw⟩
  ·exact⟨4,_,_,_,rfl,Nh⟩
 obtain⟨S',x⟩:=W2 (S:=S2) (x0:=.frz<|ns.map .int) ok;refine⟨S',?_⟩;rw[<- x];unfold Ca Qf MW;dsimp[kC,l6,bools,nq,Nat.reduceAdd,Nat.reduceSub,F,g,e1,e2,M,t]
end K68
namespace K68
open PySem L2 Am
def all_mk{l:PySem.W.OpenLaw}{w:ah}{K:au}{h:aq}{mg:Str->bd}{fa:ak}(X:K.In h)(G:h.Ns mainGlobals mg)(hfa:mg "law" = some (.ref fa))
  (a1:Df K "is_whole" xq)
  (a2:Df K "need_pair" vn)
  (a3:Df K "back" GV)
  (a4:Df K "is_exchange" tF)
  (a5:Df K "exchanged_places" oM)
  (a6:Df K "exchanged" ve)
  (a7:Df K "falls" DA)
  (a8:Df K "factorial" vh)
  (a9:Df K "numbered" wN)
  (a10:Df K "as_polynomial" qF)
  (a11:Df K "plus" Gy)
  (a12:Df K "times" CQ)
  (a13:Df K "put_before" uy)
  (a14:Df K "as_sum" Ar)
  (a15:Df K "need_like" vL)
  (a16:Df K "added" CM)
  (a17:Df K "scaled" Ba)
  (a18:Df K "by_exchange" tK)
  (a19:Df K "number_at_one" qE)
  (a20:Df K "kept_by_fall" rP)
  (a21:Df K "found_kept" q_)
  (a22:Df K "leads_among" sY)
  (a23:Df K "all_orders" t_)
  (a24:Df K "has_other_fall" pX)
  (a25:Df K "reached_from" rT)
  (a26:Df K "gathered" w4)
  (a27:Df K "right_hearths" qD)
  (a28:Df K "with_backs" um)
  (a29:Df K "left_hearths" rO)
  (a30:Df K "both_hearths" rJ)
  (a31:Df K "_law_cell" w6)
  (a32:Df K "_law_bag" yM)
  (a33:Df K "_law_mixed" vM)
  (a34:Df K "_law_digit" vj)
  (a35:Df K "_law_tables" uN)
  (a36:Df K "_law_all" yO)
  (a37:Df K "_law_is_hearths" qh)
  (a38:Df K "_law_due" yE)
  (a39:Df K "law" Ra)
  (acL:PySem.W.nsIn K mainGlobals "isinstance" = some none)
  (acU:PySem.W.nsIn K mainGlobals "bool" = some none)
  (acV:PySem.W.nsIn K mainGlobals "int" = some none)
  (acY:PySem.W.nsIn K mainGlobals "len" = some none)
  (ac4:PySem.W.nsIn K mainGlobals "enumerate" = some none)
  (ac6:PySem.W.nsIn K mainGlobals "tuple" = some none)
  (ac9:PySem.W.nsIn K mainGlobals "list" = some none)
  (ada:PySem.W.nsIn K mainGlobals "range" = some none)
  (adg:PySem.W.nsIn K mainGlobals "sorted" = some none)
  (adk:PySem.W.nsIn K mainGlobals "dict" = some none)
  (adn:PySem.W.nsIn K mainGlobals "any" = some none)
  (ado:PySem.W.nsIn K mainGlobals "abs" = some none)
  (adq:PySem.W.nsIn K mainGlobals "all" = some none)
  {acJ:Tok} (adv:PySem.W.nsIn K mainGlobals "MOST_THINGS" = some (some<|.int 4 acJ))
  {a_AT_A_FALL:ak} (adw:PySem.W.nsIn K mainGlobals "AT_A_FALL" = some (some<|.ref a_AT_A_FALL)) (kp_AT_A_FALL:ZF K a_AT_A_FALL=some [((-1:Int),(1:Int)),((1:Int),(-1:Int))])
  : ∃fd:FuncData,(∀(s:aC) (v:af),BindsTo s fd ⟨[v],[]⟩ [("_law_script",v)])/\∀base:aq,K.In base->base.Ns mainGlobals mg->FnOk l.prog w K mg base qz 25 fa fd ["_law_script"] (rC K 1 Ca):=by
 obtain⟨f,fd,a,F⟩:=a39;have e:=hfa.symm.trans (jy X G a)
 cases e
 have Y:=cB X G acL;have abP:=cB X G acU;have abQ:=cB X G acV;have j:=cB X G acY;have O:=cB X G ac4;have p:=cB X G ac6;have z:=cB X G ac9;have k:=cB X G ada;have q:=cB X G adg;have U:=cB X G adk;have ace:=cB X G adn;have acu:=cB X G ado;have abI:=cB X G adq;have ab7:∃t,mg "MOST_THINGS" = some (.int 4 t):=⟨acJ,jy X G adv⟩;have g:∃a,mg "AT_A_FALL" = some (.ref a)/\ZF K a=some [((-1:Int),(1:Int)),((1:Int),(-1:Int))]:=⟨a_AT_A_FALL,jy X G adw,kp_AT_A_FALL⟩;refine⟨fd,λs v=>(by obtain⟨_,_,_,_,_,_,_,_,_,rfl,_,_⟩:=F.ex;exact .of_eq rfl),λbase _ _=>?_⟩;have E:En l.prog w K mg base:=⟨h,X,G⟩;have N:=a1.kA E (λF=>Et F Y abP abQ)<|CT λ_ _ _ _ _ _ _=>rfl;have abZ:=a2.kA E (λF=>DS F j)<|Eo λ_ _ _ _ _ _ _ _=>rfl;have acr:=a3.kA E (λF=>TU F j O p)<|CT λ_ _ _ _ _ _ _=>rfl;have abR:=a4.kA E (λF=>z8 F N)<|Eo λ_ _ _ _ _ _ _ _=>rfl;have abU:=a5.kA E (λF=>wC F z p)<|us3 λ_ _ _ _ _ _ _ _ _=>rfl;have abD:=a6.kA E (λF=>DJ F j abR abU)<|Eo λ_ _ _ _ _ _ _ _=>rfl;have B:=a7.kA E (λF=>OE F k j)<|CT λ_ _ _ _ _ _ _=>rfl;have Z:=a8.kA E (λF=>C_ F k)<|CT λ_ _ _ _ _ _ _=>rfl;have acd:=a9.kA E (λF=>F3 F z k j p Z N)<|Eo λ_ _ _ _ _ _ _ _=>rfl;have P:=a10.kA E (λF=>yU F q)<|CT λ_ _ _ _ _ _ _=>rfl;have abX:=a11.kA E (λF=>UG F U P)<|Eo λ_ _ _ _ _ _ _ _=>rfl;have T:=a12.kA E (λF=>PX F P)<|Eo λ_ _ _ _ _ _ _ _=>rfl;have C:=a13.kA E (λF=>BK F abX)<|us3 λ_ _ _ _ _ _ _ _ _=>rfl;have J:=a14.kA E (λF=>Ls F q)<|CT λ_ _ _ _ _ _ _=>rfl;have ab0:=a15.kA E (λF=>CF F abZ)<|Eo λ_ _ _ _ _ _ _ _=>rfl;have abJ:=a16.kA E (λF=>Oe F ab0 C J)<|Eo λ_ _ _ _ _ _ _ _=>rfl;have abK:=a17.kA E (λF=>Mm F C T J)<|Eo λ_ _ _ _ _ _ _ _=>rfl;have ab2:=a18.kA E (λF=>Ae F z g C abD B T J)<|Eo λ_ _ _ _ _ _ _ _=>rfl;have M:=a19.kA E (λF=>yr F U)<|CT λ_ _ _ _ _ _ _=>rfl;have d:∀{Fs:ae->jU->R A} {kr:Nat},nY l.prog w K mg base (5+2 * kr) "found_kept" mQ Fs->nY l.prog w K mg base (5+2 * kr+1) "kept_by_fall" nM (l_ lY<|lZ Fs):=λG=>a20.kA E (λF=>zl F abD abJ abK ab2 M B G)<|us3 λ_ _ _ _ _ _ _ _ _=>rfl;have ab6:=a21.rA E (λF hm hk hb=>vp F B d hm hk hb 8)<|Eo λ_ _ _ _ _ _ _ _=>rfl;have ack:=a22.kA E (λF=>Az F ab6 M)<|CT λ_ _ _ _ _ _ _=>rfl;have abF:=a23.kA E (λF=>By F k ab7 Z acd)<|CT λ_ _ _ _ _ _ _=>rfl;have acq:=a24.kA E (λF=>xZ F ace B)<|Eo λ_ _ _ _ _ _ _ _=>rfl;have acf:=a25.kA E (λF=>zq F)<|Eo λ_ _ _ _ _ _ _ _=>rfl;have V:=a26.kA E (λF=>F0 F q acf)<|CT λ_ _ _ _ _ _ _=>rfl;have L:=a27.kA E (λF=>yF F abF ack V acq)<|CT λ_ _ _ _ _ _ _=>rfl;have abH:=a28.kA E (λF=>Bw F q acr)<|CT λ_ _ _ _ _ _ _=>rfl;have acG:=a29.kA E (λF=>zx F abH L)<|CT λ_ _ _ _ _ _ _=>rfl;have abN:=a30.kA E (λF=>zp F L abF abH V)<|CT λ_ _ _ _ _ _ _=>rfl;have acE:=a31.kA E (λF=>FJ F j)<|Eo λ_ _ _ _ _ _ _ _=>rfl;have acD:=a32.kA E (λF=>HQ F acu)<|Eo λ_ _ _ _ _ _ _ _=>rfl;have abL:=a33.kA E (λF=>Dj F)<|CT λ_ _ _ _ _ _ _=>rfl;have acA:=a34.kA E (λF=>CA F k abL)<|Eo λ_ _ _ _ _ _ _ _=>rfl;have acz:=a35.kA E (λF=>BA F O j k)<|CT λ_ _ _ _ _ _ _=>rfl;have acw:=a36.kA E (λF=>G4 F k)<|CT λ_ _ _ _ _ _ _=>rfl;have abO:=a37.kA E (λF=>x_ F abI Y z p)<|Eo λ_ _ _ _ _ _ _ _=>rfl;have acF:=a38.kA E (λF=>Gw F p j q acw acz)<|CT λ_ _ _ _ _ _ _=>rfl;exact Xp F j acA acD acE acF abN abO L acG
def walk{l:PySem.W.OpenLaw}{q:aj}{XP:(Str->bd)->aq->Prop}{YP:ah->aq->Prop}{d:DefRec}{K:Params->au}(hn:l.most=some 63)(hdf:d.params.defaults=[])
  (hY:∀(w:ah) (h:aq),YP w h->(K w.params).In h)
  (F:∀(w:ah) (mg:Str->bd) (fa:ak) (h:aq),(K w.params).In h->h.Ns mainGlobals mg->mg d.name=some (.ref fa) ->
   ∃fd:FuncData,(∀(s:aC) (u:af),BindsTo s fd ⟨[u],[]⟩ [("_law_script",u)])/\∀base:aq,(K w.params).In base->base.Ns mainGlobals mg->FnOk l.prog w (K w.params) mg base qz 25 fa fd ["_law_script"] (rC (K w.params) 1 Ca)) :
  PySem.W.WalkO q loose XP YP l.row.toRowW d [] (λf vs=>PySem.call f vs):=
 L2.Ve (n:=63) (k:=25) (x := "_law_script") (CX:=λ_=>qz) (sp:=λw=>rC (K w.params) 1 Ca) hn ⋯ hdf ⟨rfl,by decide,by decide,rfl⟩ hY F (λ_ H a ns j g hS=>LL g hS<|Zz ns j) λ_ _ _ _ _ z=>z
end K68
open PySem PySem.W PyProof.Rows
namespace PySem.W.Fast
def tw6713222987457807969:=Nat
def tw11556615506129707530:=Nat
def tw13923463579362449011:=Nat
def tw15592856672199131846:=Nat
def tw14814673707168331876:=Nat
def tw6566645439036450639:=Nat
def tw12967413581902505875:=Nat
def tw10159542655220732575:=Nat
def tw9039826361897032069:=Nat
def tw11060040329193047846:=Nat
def tw12551878355281018783:=Nat
def tw12989300164019669381:=Nat
def tw7628190948961183077:=Nat
def tw17478748981387319426:=Nat
def tw10482377395982515015:=Nat
def tw15098548610291246167:=Nat
def tw15513639404407655223:=Nat
def tw8429828274824807437:=Nat
def tw15579562531770702841:=Nat
def tw18179766663965541424:=Nat
def tw13660169886347788064:=Nat
def tw1919589358428772038:=Nat
def tw13381514614625104362:=Nat
def tw7567942944904336237:=Nat
def tw8522501688092835478:=Nat
def tw10295368172148185715:=Nat
def tw10646586660567680897:=Nat
def tw16102136733270408883:=Nat
def tw13325031631423392652:=Nat
def tw9027922387403377904:=Nat
def tw2134744873287020705:=Nat
def tw13356690116234634038:=Nat
def tw4909973424066605727:=Nat
def tw2272187303966363695:=Nat
def tw1762055217049024196:=Nat
def tw2238095494972414416:=Nat
def tw4439505950573279385:=Nat
def tw3438944552748901068:=Nat
def tw10901898345023912864:=Nat
def tw17811974319911447731:=Nat
def tw13110100458594488537:=Nat
def tw523934623341656538:=Nat
def tw7362704502849760149:=Nat
def tw449454564509157657:=Nat
def tw17213032075479951022:=Nat
def tw16969181786523402836:=Nat
def tw14376043687041641533:=Nat
def tw10380874172966004629:=Nat
def tw7841631905720899061:=Nat
def tw14527026057743462322:=Nat
def tw11208810503794788145:=Nat
def tw4115721204555053511:=Nat
def tw10805004974510709405:=Nat
def tw14676612871773855484:=Nat
def tw2151742943565870854:=Nat
def tw11132547454641212404:=Nat
def tw4039369507380789441:=Nat
def tw6258688373248911248:=Nat
def tw2181852659595690201:=Nat
def tw5207545204535426614:=Nat
def tw15457152092350817582:=Nat
def tw8515747429791582652:=Nat
def tw16977954215370419615:=Nat
def tw9963046104123139128:=Nat
def tw9536136973516276666:=Nat
def tw13137161799141424681:=Nat
def tw15852730806082620510:=Nat
def tw9334890262615412825:=Nat
def tw3154640257473455245:=Nat
def tw9634879440026953262:=Nat
def tw2774794771102898692:=Nat
def tw11902509065003293703:=Nat
def tw15622651187450391581:=Nat
def tw13988638898891692846:=Nat
def tw2769436233618562485:=Nat
def tw15678077652342996623:=Nat
def tw11850299973274040540:=Nat
def tw5268060664016025335:=Nat
def tw2034060855614070860:=Nat
def tw3973138409451329624:=Nat
def tw11451099287404017396:=Nat
def tw5885574829915617325:=Nat
def tw1450937052236797386:=Nat
def tw15214815351901826941:=Nat
def tw16052924354769744553:=Nat
def tw11267532391542327871:=Nat
def tw8228892693645340415:=Nat
def tw17194684041298667091:=Nat
def tw16096877574489994685:=Nat
def tw10731749938705361286:=Nat
def tw2521165853789807272:=Nat
def tw11095488627398090757:=Nat
def tw12845165389920915891:=Nat
def tw17591091749977702714:=Nat
def tw13040949101569327951:=Nat
def tw257581618947008141:=Nat
def tw8545897350719616754:=Nat
def tw14212844159733285558:=Nat
def tw7371897382442717267:=Nat
def tw394390171179111104:=Nat
def tw15745543137391693478:=Nat
def tw15221733933080758444:=Nat
def tw15002239360339119511:=Nat
def tw18233924859900561474:=Nat
def tw8558090555559919789:=Nat
def tw5106748173456798635:=Nat
def tw13491130260739450950:=Nat
def tw262437662166426842:=Nat
def tw14331506586488893507:=Nat
def tw14851530242133968714:=Nat
def tw15065154011577650943:=Nat
def tw7603855402585392762:=Nat
def tw7907862097836247687:=Nat
def tw8235709473200358636:=Nat
def tw3668533737258860843:=Nat
def tw37437664095625486:=Nat
def tw3360410712159801310:=Nat
def tw13207334889854160521:=Nat
def tw16590624679865259291:=Nat
def tw4594710291651676948:=Nat
def tw11809003400087966959:=Nat
def tw1307588303390982617:=Nat
def tw7495838135311576646:=Nat
def tw6745781227426340761:=Nat
def tw1757919056331798022:=Nat
def tw10290412211413318040:=Nat
def tw13022334445086874559:=Nat
def tw17380559528048687930:=Nat
def tw15432083081718909034:=Nat
def tw6691492553313360712:=Nat
def tw14072412629103245543:=Nat
def tw15529892099682076461:=Nat
def tw8659357672140046916:=Nat
def tw15459973064734457931:=Nat
def tw9769670004163585218:=Nat
def tw1637084009216395969:=Nat
def tw7991415811124250867:=Nat
def tw2030328790239638378:=Nat
def tw10197839272373696380:=Nat
def tw3090439890329956797:=Nat
end PySem.W.Fast
set_option maxRecDepth 100000 in
set_option maxHeartbeats 0 in
theorem PySem.Challenge.cw_undercells_k68_hearths_of_both_holds : PySem.Challenge.rw_undercells_k68_hearths_of_both.Holds := by
 w_on;o_law;k_head;(case hw=>w_witness2)
 k_fill
 refine K68.walk (l:=PySem.Challenge.rw_undercells_k68_hearths_of_both) rfl rfl (fun w h Y=>PySem.W.kIn_of Y) ?F
 case F=>
  intro w mg fa h KX G hmg;refine' K68.all_mk KX G hmg (.of ?_ ?_ ?_ ?_) (.of ?_ ?_ ?_ ?_) (.of ?_ ?_ ?_ ?_) (.of ?_ ?_ ?_ ?_) (.of ?_ ?_ ?_ ?_) (.of ?_ ?_ ?_ ?_) (.of ?_ ?_ ?_ ?_) (.of ?_ ?_ ?_ ?_) (.of ?_ ?_ ?_ ?_) (.of ?_ ?_ ?_ ?_) (.of ?_ ?_ ?_ ?_) (.of ?_ ?_ ?_ ?_) (.of ?_ ?_ ?_ ?_) (.of ?_ ?_ ?_ ?_) (.of ?_ ?_ ?_ ?_) (.of ?_ ?_ ?_ ?_) (.of ?_ ?_ ?_ ?_) (.of ?_ ?_ ?_ ?_) (.of ?_ ?_ ?_ ?_) (.of ?_ ?_ ?_ ?_) (.of ?_ ?_ ?_ ?_) (.of ?_ ?_ ?_ ?_) (.of ?_ ?_ ?_ ?_) (.of ?_ ?_ ?_ ?_) (.of ?_ ?_ ?_ ?_) (.of ?_ ?_ ?_ ?_) (.of ?_ ?_ ?_ ?_) (.of ?_ ?_ ?_ ?_) (.of ?_ ?_ ?_ ?_) (.of ?_ ?_ ?_ ?_) (.of ?_ ?_ ?_ ?_) (.of ?_ ?_ ?_ ?_) (.of ?_ ?_ ?_ ?_) (.of ?_ ?_ ?_ ?_) (.of ?_ ?_ ?_ ?_) (.of ?_ ?_ ?_ ?_) (.of ?_ ?_ ?_ ?_) (.of ?_ ?_ ?_ ?_) (.of ?_ ?_ ?_ ?_) ?_ ?_ ?_ ?_ ?_ ?_ ?_ ?_ ?_ ?_ ?_ ?_ ?_ ?_ ?_ ?_
  any_goals first|k_is|kernel_rfl
