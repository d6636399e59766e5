import PyProof.Rows.All
import Wide.All
import OpenK.AllK
import Wide.FinOn
import Lean
import PyProof.EqAt
import PyProof.EqKinds
import PyProof.TupleCall
import PySem.Challenge.RW_undercells_k71_hearths_matched
set_option autoImplicit true
set_option relaxedAutoImplicit true
set_option Elab.async false
set_option linter.all false
set_option maxRecDepth 100000
set_option compiler.extract_closed false
set_option maxHeartbeats 4000000
local macro_rules|`($a<|>$b)=>`(autoParam $a $b)
local macro_rules|`(command|abbrev $n:declId $s:optDeclSig $v:declVal)=>`(command|noncomputable def $n:declId $s:optDeclSig $v:declVal)|`(command|meta abbrev $n:declId $s:optDeclSig $v:declVal)=>`(command|@[reducible]noncomputable def $n:declId $s:optDeclSig $v:declVal)
local macro_rules|`(∅)=>`(by decide +kernel)
local macro_rules|`(⋯)=>`(by decide)
local macro_rules|`(tactic|dsimp[$l,*])=>`(tactic|simp only[$l,*])|`(tactic|dsimp[$l,*]$o:location)=>`(tactic|simp only[$l,*]$o:location)
local macro_rules(kind:=Lean.Parser.Term.structInst)|`({})=>`({cls:=.type "list",data:=.seq ([]:List PySem.Value).toArray})
set_option hygiene false
local macro_rules|`(tactic|z_go)=>`(tactic|obtain⟨ρ,S,τ,R,r,h⟩:=h9)
local macro_rules|`(tactic|x_go)=>`(tactic|intro X hP hw hK hc i pins s σ H E I hf st hg)
local macro_rules|`(tactic|w_up)=>`(tactic|obtain⟨ρ,S,a,b,R,va,vb,h⟩:=h9)
local macro_rules|`(tactic|fin2)=>`(tactic|refine⟨ρ,S,τ,R,r,jJ (jQ h) .refl λo S1 h1 ρ1 H1 x e1 R1 v1=>⟨ρ1,S1,τ,R1,r.ext e1,jJ (jQ h1) e1 λi S2 h2 ρ2 H2 y e2 R2 v2=>?_⟩⟩)
local macro_rules|`(tactic|k_ne)=>`(tactic|obtain⟨f0,f1,f2,f3,f4,f5⟩:=hf it (by simp))
local macro_rules|`(tactic|kt_k)=>`(tactic|intro pins s σ H Q I h)
local macro_rules|`(tactic|kd_p)=>`(tactic|refine⟨ρ2,S2,o,i,a,R2,v1.ext e2,v2,va.ext (e1.trans e2),jJ (jQ h2) (e1.trans e2) λ_ S3 h3 ρ3 H3 e3 R3=>?_⟩)
local macro_rules|`(tactic|gn_on)=>`(tactic|intro pins s σ H x y v u Q I rx ry h)
local macro_rules|`(tactic|gp_on)=>`(tactic|intro pins s σ H xs us Q I r h)
local macro_rules|`(tactic|kj_on)=>`(tactic|obtain⟨xs,hn,h⟩:=jP h)
local macro_rules|`(tactic|kcf_m)=>`(tactic|refine⟨ρ,S,τ,R,r,jJ (jQ h) .refl λx S1 h1 ρ1 H1 v e1 R1 v1=>?_⟩)
local macro_rules|`(tactic|kcj_m)=>`(tactic|exact⟨ρ2,S2,x,as,R2,v1.ext e2,v2,jJ h2 (e1.trans e2) λ_ _ z=>z.ext (e1.trans e2)⟩)
local macro_rules|`(tactic|kpc_g)=>`(tactic|obtain⟨ρ,S,o,as,R,vo,va,h⟩:=h9)
local macro_rules|`(tactic|kpf_c)=>`(tactic|obtain⟨w,rfl,ρ,S,x,R,hv,h⟩:=US h0)
local macro_rules|`(tactic|ksr_p)=>`(tactic|exact h3 ρ3 H3 σ ((e1.trans e2).trans e3) R3 (r.ext ((e1.trans e2).trans e3)))
local macro_rules|`(tactic|kst_p)=>`(tactic|intro pins s σ H D I h)
local macro_rules|`(tactic|kln_w)=>`(tactic|exact⟨ρ1,S1,τ,R1,r.ext e1,jJ h1 e1 λ_ _ z=>z.ext e1⟩)
local macro_rules|`(tactic|kl_no)=>`(tactic|exact Kp.refl.lay)
local macro_rules|`(tactic|mg_lt)=>`(tactic|obtain⟨⟨old,st1⟩,st2⟩:=st)
local macro_rules|`(tactic|cb_eq)=>`(tactic|obtain⟨u,rfl,rx⟩:=vals1 r)
local macro_rules|`(tactic|o_rec)=>`(tactic|obtain⟨ρ,S,τ,R,r,h⟩:=h)
local macro_rules|`(tactic|f_are)=>`(tactic|exact I1.Bk (aL _) (I1.hok.fresh (aL _)))
set_option hygiene true
local macro_rules|`(())=>`(by lia)
@[reducible]def ag:=List Int
@[reducible]def am:=List Nat
@[reducible]def ar:=List PySem.Str
@[reducible]def ba:=List PySem.Value
@[reducible]def bb:=List PySem.Addr
@[reducible]def bd:=Option PySem.Value
@[reducible]def bi:=Option Bool
@[reducible]def bj:=Option Nat
@[reducible]def bo:=List<|PySem.Addr×PySem.Obj
def aF:=@List.getElem?_eq_getElem
def aG:=@List.length_map
def aH:=@PySem.wpAny_bind
def aI:=@List.getElem?_eq_some_iff
def aJ:=@List.getD_eq_getElem?_getD
def aK:=@List.mem_cons_of_mem
def aL:=@Nat.le_refl
def aM:=@List.mem_singleton
def aN:=@List.mem_cons_self
def aO:=@List.forall_mem_cons
def aP:=@PySem.wpAny_pure
def aQ:=@if_neg
def aR:=@PySem.Heap.get?_push_of_some
def aS:=@if_pos
def aV:=@List.getElem?_map
def aW:=@Option.map_eq_some_iff
def aX:=@Option.some.inj
def aY:=@decide_eq_true
def aZ:=@List.size_toArray
def a_:=@PySem.Heap.lt_size
def bf:=@List.length_append
def bg:=@List.mem_cons
def bh:=@List.map_cons
def bq:=@List.mem_of_getElem?
def br:=@List.mem_map
def bu:=@PySem.Heap.get?_push_size
def bw:=@decide_eq_false
def bz:=@List.map_append
def bA:=@Nat.ne_of_lt
def bB:=@List.getElem?_append_left
def bC:=@List.length_cons
def bD:=@List.map_map
def bE:=@List.mem_append
def bF:=@Nat.le_trans
def bG:=@Bool.false_ne_true
def bH:=@Bool.false_eq_true
def bI:=@Nat.lt_of_lt_of_le
def bJ:=@List.getElem?_set_self
def bK:=@of_decide_eq_true
def bL:=@Option.bind_some
def bM:=@Nat.zero_le
def bN:=@List.append_nil
def bO:=@List.getElem?_set_ne
def bP:=@List.mem_append_right
def bQ:=@List.nodup_cons
def bR:=@Bool.not_true
def bU:=@List.take_length
def bV:=@List.find?_cons
def bW:=@Nat.zero_add
def bX:=@Option.bind_eq_some_iff
def bY:=@List.take_add_one
def bZ:=@PySem.W.mg_none_of
def b8:=@beq_eq_false_iff_ne
def b9:=@List.map_congr_left
def b_:=@PySem.F.slot_list_append
def cg:=@PySem.F.type_list_append
def cj:=@List.getElem_mem
def ck:=@List.mem_filter
def cu:=@List.length_set
def cz:=@PyProof.Rows.wpS_bind
def cA:=@List.length_range
def cB:=@List.pairwise_cons
def cC:=@PySem.F.slot_dict_get
def cD:=@PySem.mem_of_lookup
def cE:=@PySem.W.kia_one
def cF:=@PySem.PassesOwn.never
def cG:=@beq_self_eq_true
def cH:=@List.append_assoc
def cI:=@List.nodup_append
def cJ:=@List.mem_append_left
def cK:=@Ne.symm
def cL:=@PySem.F.slot_dict_keyiterator_next
def cM:=@Bool.not_false
def cN:=@Option.isSome_iff_exists
def cO:=@List.length_take
def cP:=@PyProof.Rows.callWith_type1
def cQ:=@if_false
def cR:=@PySem.wpAny_newObj_type
def cT:=@List.pairwise_map
def cU:=@PySem.wpAny_holding
def cV:=@PySem.W.mg_of
def cW:=@PySem.wpAny_call_entry
def cX:=@Int.zero_add
def cY:=@List.mem_of_find?_eq_some
def cZ:=@PySem.wpAny_mono
def c5:=@List.mem_range
def c6:=@PySem.Heap.size_push
def c7:=@congrArg
def c8:=@List.length_eq_zero_iff
def c9:=@PyProof.Rows.wpS_pure
def c_:=@List.pairwise_singleton
def dc:=@PySem.wpAny_truthy_bool
def dg:=@List.map_nil
def dh:=@List.nodup_nil
def di:=@List.replicate_succ
def dm:=@List.length_filter_le
def dw:=@List.getElem_inj
def dz:=@Bool.and_eq_true
def dB:=@of_decide_eq_false
def dD:=@PySem.AutoSeq1.wpAny_loadPart'
def dF:=@PySem.wpAny_typeNameOfWhole_keyiter
def dG:=@PySem.wpAny_callSpecial?_slot
def dH:=@PySem.W.hideAll_get
def dI:=@Array.length_toList
def dJ:=@Nat.le_of_lt
def dM:=@PySem.W.cellsFrom_some
def dN:=@Nat.lt_irrefl
def dO:=@List.lookup_cons
def dP:=@List.prefix_refl
def dQ:=@List.getElem_map
def dR:=@PySem.F.slot_tuple_iterator_next
def dS:=@PySem.Obj.data_mapFields
def dU:=@List.prefix_append
def dW:=@List.Perm.refl
def dX:=@List.getElem_range
def dY:=@PySem.Heap.get?_update_self
def dZ:=@Array.getElem?_toList
def d7:=@PySem.F.type_dict_get
def d8:=@List.findIdx?_eq_some_iff_getElem
def d9:=@PySem.wpAny_passesOwn
def d_:=@List.foldl_cons
def eg:=@List.length_nil
def eo:=@Nat.not_lt_zero
def er:=@PySem.sizeLine_eq
def eB:=@List.flatten_cons
def eF:=@List.foldl_append
def eG:=@List.Perm.eq_of_pairwise
def eK:=@PySem.wpAny_typeNameOf_keyiter
def eL:=@List.sum_cons
def eN:=@List.filterMap_cons
def eO:=@List.mem_map_of_mem
def eS:=@Nat.lt_succ_self
def eT:=@PySem.F.args_dict_get_3
def eU:=@List.all_eq_true
def eV:=@PySem.wpAny_field
def eW:=@Nat.one_mul
def eX:=@PySem.W.of_hideAll
def eY:=@PySem.Heap.get?_update_other
def eZ:=@if_true
def e_:=@PySem.tupleKind_room_in1
def fh:=@PySem.F.entry_dict_get
def fj:=@Int.add_zero
def fm:=@Nat.lt_of_le_of_lt
def fu:=@Option.map_some
def fy:=@List.any_cons
def fB:=@PySem.Obj.isFreed_of_fields
def fC:=@List.getElem?_toArray
def fF:=@Int.toNat_natCast
def fG:=@Option.isSome_map
def fH:=@Nat.lt_succ_of_lt
def fJ:=@PySem.PassesOwn.leaving
def fK:=@List.flatMap_cons
def fL:=@PySem.call_meets
def fM:=@List.range_eq_range'
def fN:=@PySem.Around.under_plainId
def fO:=@PySem.Value.type.inj
def fP:=@List.mem_iff_getElem
def fQ:=@Option.map_map
def fR:=@List.getElem?_append
def fS:=@PySem.wpAny_isInstance
def fV:=@List.any_eq_true
def fW:=@List.mem_flatMap
def fX:=@decide_eq_decide
def fY:=@List.pairwise_iff_getElem
def fZ:=@List.drop_eq_getElem_cons
def f6:=@PySem.Heap.SameBut.update
def f7:=@List.getElem?_range
def f9:=@PySem.F.args_dict_keyiterator_next_1
def f_:=@List.flatMap_append
def gb:=@List.filter_eq_self
def gc:=@PySem.F.args_tuple_add_2
def gf:=@Bool.false_or
def gh:=@PySem.wpAny_attempt
def gp:=@PySem.F.entry_dict_keyiterator_next
def gq:=@PySem.F.slot_list_getattribute
def gr:=@List.idxOf_lt_length_iff
def gu:=@PySem.wpAny_execs_nil
def gv:=@PySem.codeAny_builtin
def gw:=@PySem.wpAny_specialOf
def gz:=@List.find?_some
def gA:=@PySem.wpAny_pyIter_tuple
def gB:=@List.mem_filterMap
def gC:=@PySem.wpAny_Call_Name_kw
def gD:=@PySem.wpAny_rule
def gE:=@List.find?_eq_none
def gF:=@Int.emod_lt_of_pos
def gG:=@List.getElem?_replicate
def gH:=@PySem.F.entry_tuple_add
def gI:=@PySem.meetsH_dict_get_default
def gJ:=@PySem.F.plainAttrs_dict
def gK:=@PySem.F.slot_list_index
def gM:=@PySem.F.type_list_index
def gO:=@PySem.F.slot_tuple_add
def gP:=@PySem.Calls.callWith_builtin
def gQ:=@PySem.wpAny_seqItems
def gR:=@PySem.wpAny_setField
def gS:=@PySem.wpAny_pyIter_enum
def gT:=@PySem.F.slot_tuple_hash
def gU:=@Array.toList_push
def gW:=@PyProof.Rows.wpS_forRange
def gY:=@PySem.Heap.get?_push_ne
def gZ:=@Array.getElem?_eq_none
def g_:=@List.ext_getElem?
def h_:=@PySem.F.slot_range_iterator_next
def ie:=@List.find?_map
def ig:=@PySem.isSubtype_tuple_tuple
def ir:=@List.getElem?_eq_none
def iu:=@PySem.wpAny_isOneOf_keyiter
def iy:=@List.take_append_drop
def iz:=@List.set_append_right
def iA:=@Option.getD_some
def iB:=@PySem.wpAny_forIn_list
def iC:=@beq_iff_eq
def iD:=@PySem.Heap.size_update
def iE:=@Int.add_assoc
def iF:=@PySem.Calls.evalArgs_plain
def iG:=@PySem.Sem.wp_pure
def iH:=@Bool.or_eq_false_iff
def iI:=@Nat.mul_le_mul_right
def iJ:=@List.of_mem_zip
def iK:=@PySem.F.slot_tuple_eq
def iL:=@List.filter_map
def iM:=@Int.emod_nonneg
def iN:=@Nat.ne_of_gt
def iO:=@PySem.codeAny_mono
def iP:=@Nat.succ_mul
def iQ:=@List.getElem?_append_right
def iR:=@Option.isSome_some
def iS:=@PySem.wpAny_tupleItemsOf
def iT:=@Array.forIn_toList
def iU:=@List.perm_ext_iff_of_nodup
def iV:=@PySem.F.excBase_ValueError
def iW:=@PySem.wpAny_fieldsOf
def iX:=@PySem.wpAny_pyIter_list
def iY:=@PySem.Obj.cls_mapFields
def iZ:=@PySem.wpAny_dictEntries
def i6:=@List.find?_isSome
def i7:=@List.getElem?_set
def i8:=@List.isEmpty_cons
def i9:=@PySem.Paired.length
def i_:=@PySem.wpAny_standAt
def ja:=@List.cons_append
def jb:=@List.filter_cons
def jc:=@List.flatMap_nil
def jd:=@List.countP_cons
def je:=@List.isEmpty_nil
def jf:=@Nat.le_add_right
def jh:=@PySem.wpAny_call
def ji:=@Nat.lt_trans
def jj:=@PySem.wpAny_typeOf
def jk:=@PySem.call_meetsIn
def jl:=@Int.mul_zero
def jm:=@List.map_set
def jn:=@List.nil_append
def jo:=@List.map_const'
def jq:=@Nat.le_succ
def jt:=@Bool.and_false
def ju:=@List.forIn_nil
def jv:=@Array.size_zip
def jw:=@List.foldl_map
def jx:=@List.map_id
def jy:=@Nat.mul_le_mul
def jz:=@List.take_zero
@[reducible]def af:=PySem.Value
@[reducible]def ah:=PySem.World
@[reducible]def aj:=PySem.Program
@[reducible]def ak:=PySem.Addr
@[reducible]def aq:=PySem.Heap
@[reducible]def au:=PySem.W.Frag
@[reducible]def az:=PySem.Around
@[reducible]def aA:=PySem.Shared
@[reducible]def aC:=PySem.Expr
@[reducible]def aE:=PySem.Stmt
def anI{a b:Prop}(h:a)(k:b):a/\b:=⟨h,k⟩
open Array (size_map)
open Int (mul_one)
open List (all_map)
open Nat (add_mul not_lt)
open Option (isSome_none)
namespace L2
open PySem PySem.Spec PyProof.Rows
meta abbrev Key:=Sum Int Str
abbrev BE:Key->af->Bool
 | .inl k,v=>Value.isInt k v
 | .inr x,v=>Value.isStrOf x v
abbrev abq (w:ah):Key->Int
 | .inl k=>hashInt k
 | .inr x=>hashStr w x
def l_:∀{k:Key}{v:af},BE k v=true->(∃i t,k=Sum.inl i/\v=Value.int i t)\/(∃x t,k=Sum.inr x/\v=Value.str x t)
 | .inl i,v,h=>by
  obtain⟨t,e⟩:=Value.isInt_shape (k:=i) (v:=v) h;exact .inl ⟨i,t,rfl,e⟩
 | .inr x,v,h=>by
  obtain⟨t,e⟩:=Value.isStrOf_shape (x:=x) (v:=v) h;exact .inr ⟨x,t,rfl,e⟩
def LS(i:Int)(t:Tok):BE (.inl i) (.int i t)=true:=by simp[BE,Value.isInt]
def Lb(x:Str)(t:Tok):BE (.inr x) (.str x t)=true:=by simp[BE,Value.isStrOf]
def Xf(a b:Int):decide ((Sum.inl a:Key)=Sum.inl b)=(a == b):=by
 by_cases e:a=b
 ·subst e;simp
 ·have h:¬(Sum.inl a:Key)=Sum.inl b:=λq=>e<|Sum.inl.inj q;rw[bw h];exact(b8.mpr e).symm
def V4(a b:Str):decide ((Sum.inr a:Key)=Sum.inr b)=decide (a=b):=by
 by_cases e:a=b
 ·subst e;simp
 ·have h:¬(Sum.inr a:Key)=Sum.inr b:=λq=>e<|Sum.inr.inj q;rw[bw h,bw e]
def Yv(a:Int)(b:Str):decide ((Sum.inl a:Key)=Sum.inr b)=false:=bw λq=>nomatch q
def YT(a:Str)(b:Int):decide ((Sum.inr a:Key)=Sum.inl b)=false:=bw λq=>nomatch q
abbrev kL (prog:aj)(w:ah):PySem.KeyKind prog w Key where
 is:=BE
 hash:=abq w
 inj:=λv a b d c=>by
  rcases l_ d with⟨i,t,rfl,rfl⟩|⟨x,t,rfl,rfl⟩
  ·rcases l_ c with⟨j,u,rfl,e⟩|⟨y,u,rfl,e⟩
   ·injection e with e1 _;rw[e1]
   ·exact nomatch e
  ·rcases l_ c with⟨j,u,rfl,e⟩|⟨y,u,rfl,e⟩
   ·exact nomatch e
   ·injection e with e1 _;rw[e1]
 byValue:=λk v h=>by
  rcases l_ h with⟨i,t,rfl,rfl⟩|⟨x,t,rfl,rfl⟩<;>rfl
 pyHash:=λhv h=>by
  rcases l_ hv with⟨i,t,rfl,rfl⟩|⟨x,t,rfl,rfl⟩
  ·exact wpAny_pyHash_int h
  ·exact wpAny_pyHash_str h
 eqBool:=λf hv h=>by
  rcases l_ f with⟨i,t,rfl,rfl⟩|⟨x,t,rfl,rfl⟩
  ·rcases l_ hv with⟨j,u,rfl,rfl⟩|⟨y,u,rfl,rfl⟩
   ·rw[Xf]at h;exact wpAny_eqBool_int h
   ·rw[Yv]at h;exact SeqAt.EqAt.int_str i t y u _ _ _ _ h
  ·rcases l_ hv with⟨j,u,rfl,rfl⟩|⟨y,u,rfl,rfl⟩
   ·rw[YT]at h;exact SeqAt.EqAt.str_int x t j u _ _ _ _ h
   ·rw[V4]at h;exact wpAny_eqBool_str h
 «strs»:=λk x t v h=>by
  rcases l_ h with⟨i,u,rfl,e⟩|⟨y,u,rfl,e⟩
  ·exact nomatch e
  ·injection e with e1 _
   subst e1
   cases v<;>rfl
def E5(prog:aj)(w:ah)(i:Int)(t:Tok):(kL prog w).is (.inl i) (.int i t)=true:=LS i t
def EK(prog:aj)(w:ah)(x:Str)(t:Tok):(kL prog w).is (.inr x) (.str x t)=true:=Lb x t
inductive V where
 | non|bl (b:Bool)|int (i:Int)|str (x:Str)|byt (b:Array UInt8)|flt (b:UInt64)|ref (a:ak)|ty (n:String)
 deriving DecidableEq
abbrev RelV:V->af->Prop
 | .non,u=>u=Value.none
 | .bl b,u=>u=Value.bool b
 | .int i,u=>∃t,u=Value.int i t
 | .str x,u=>∃t,u=Value.str x t
 | .byt b,u=>∃t,u=Value.bytes b t
 | .flt b,u=>∃t,u=Value.float b t
 | .ref a,u=>u=Value.ref a
 | .ty n,u=>u=Value.type n
meta abbrev Vals:List V->ba->Prop:=Paired RelV
def Vals.length{xs:List V}{us:ba}(r:Vals xs us):xs.length=us.length:=i9 r
theorem Vals.get:∀{xs:List V}{us:ba}{i:Nat}{x:V},Vals xs us->xs[i]?=some x->∃u,us[i]?=some u/\RelV x u
 | _,_,_,_,.nil,e=>by simp at e
 | _,_,0,_,.cons r _,e=>by simp at e;subst e;exact⟨_,rfl,r⟩
 | _,_,i+1,x,.cons _ t,e=>by
  obtain⟨u,h1,h2⟩:=Vals.get (i:=i) (x:=x) t (by simpa using e);exact⟨u,by simpa using h1,h2⟩
theorem Vals.set{x:V}(r:RelV x u):∀{xs:List V}{us:ba}(i:Nat),Vals xs us->Vals (xs.set i x) (us.set i u)
 | _,_,_,.nil=>.nil
 | _,_,0,.cons _ t=>.cons r t
 | _,_,i+1,.cons q t=>.cons q<|Vals.set r i t
theorem Vals.append:∀{xs ys:List V}{us ws:ba},Vals xs us->Vals ys ws->Vals (xs++ys) (us++ws)
 | _,_,_,_,.nil,s=>s
 | _,_,_,_,.cons r t,s=>.cons r<|Vals.append t s
abbrev xY:Option V->bd->Prop
 | some v,some u=>RelV v u
 | none,none=>True
 | _,_=>False
abbrev KV {κ:Type}:List (κ×V)->List (κ×af)->Prop:=Paired λ(p:κ×V) (q:κ×af)=>p.1=q.1/\RelV p.2 q.2
abbrev kV:Key->V
 | .inl i=>.int i
 | .inr x=>.str x
inductive HO where
 | lst (xs:List V)
 | tup (xs:List V)
 | dK (kvs:List<|Key×V)|dT (kvs:List<|List Key×V)
 | set (S:Int->Bool) (n:Nat)
 | ins (C dx:ak) (fs:List<|Str×V)
 | own (x:ak)
 | xd (fs:List<|Str×V)
 | met (f x:ak)
 | rng (lo hi:Int)
 | frz (o:Obj) (u:HO)
 | tbl (ps:Array af)
 | ext (φ:aq->Prop)
meta abbrev Hp:=ak->Option HO
abbrev upd (H:Hp)(a:ak)(o:HO):Hp:=λb=>if b=a then some o else H b
def ko{H:Hp}{a:ak}:upd H a o a=some o:=by unfold upd;rw[aS rfl]
def jL{H:Hp}{a:ak}(h:b≠a):upd H a o b=H b:=by unfold upd;rw[aQ h]
def aa5{H:Hp}{a:ak}(h:H a=some o)(h':H b=some u)(d:o≠u):a≠b:=by
 intro e;subst e;rw[h]at h';exact d<|aX h'
def jT{H:Hp}{a:ak}(h:H a=some o)(h':H b=none):a≠b:=by
 intro e;subst e;rw[h]at h';cases h'
abbrev qX (h:aq)(a:ak)(items:Array af):Prop:=∃o,h.get? a=some o/\o.cls=.type "tuple" /\ o.dict=none/\∃n,o.data=.seq items n
def qX.tup{a:ak}:qX h a items->IsTup h a items:=λ⟨o,e,c,_,n,d⟩=>⟨o,e,c,n,d⟩
def qX.new(h:aq)(items:Array af):qX (h.push { cls:=.type "tuple",data:=.seq items }) h.objs.size items:=⟨_,bu _ rfl,rfl,rfl,_,rfl⟩
def qX.lt{h:aq}{a:ak}(x:qX h a items):a<h.objs.size:=let⟨_,ho,_⟩:=x;a_ ho
section
variable (P:aj) (w:ah)
abbrev kW (H:Hp)(h:aq)(a:ak):HO->Prop
 | .lst xs=>xs.length<=sizeLine/\∃(c:ba) (n:Nat),Vals xs c/\h.get? a=some { cls:=.type "list",data:=.seq c.toArray n }
 | .tup xs=>xs.length<=sizeLine/\∃c:ba,Vals xs c/\qX h a c.toArray
 | .dK d=>d.length<=sizeLine/\(a == sysModules)=false/\∃vs,KV d vs/\h.DictOf (kL P w) a vs
 | .dT d=>d.length<=sizeLine/\(a == sysModules)=false/\∃xs:List<|List Key×ak×af,
   Paired (λ(p:List Key×V) (q:List Key×ak×af)=>p.1=q.1/\H q.2.1=some (.tup<|p.1.map kV)/\RelV p.2 q.2.2) d xs /\
   ∃o es ep,h.get? a=some o/\o.ExactDict/\o.data=.dict es ep/\es.toList=xs.map (entryOfKey<|tupleKind<|kL P w)/\(xs.map (·.1)).Nodup
 | .set S n=>h.SetOf (intKind P w) a S n
 | .ins C dx fs=>H dx=some (.own a)/\fs.length<=1000/\dx≠a/\h.get? a=some (PySem.W.instObj C dx) /\
   ∃e,h.Ns1 dx e/\(∀f,xY (fs.lookup f)<|e f)/\PySem.Within e (fs.map (·.1))
 | .own _=>∃o,h.get? a=some o
 | .xd fs=>∃e,h.Ns1 a e/\∀f,xY (fs.lookup f) (e f)
 | .rng j k=>∃t u v,h.get? a=some { cls:=.type "range",data:=.fields #[.int j t,.int k u,.int 1 v]}
 | .frz o u=>h.get? a=some o/\kW H h a u
 | .tbl ps=>h.get? a=some { cls:=.none,data:=.fields ps }
 | .met f x=>h.get? a=some (PySem.W.methodObj (.ref f)<|.ref x)
 | .ext g=>g h/\(∃o,h.get? a=some o)/\∀h1 h2:aq,g h1->(∀o,h1.get? a=some o->h2.get? a=some o)->g h2
abbrev vL (H:Hp)(h:aq):Prop:=∀a o,H a=some o->kW P w H h a o
end
section
variable {P:aj}{w:ah}{H H':Hp}{h h':aq}{a:ak}{o:HO}
def kW.lt(x:kW P w H h a o):a<h.objs.size:=by
 cases o with
 | lst xs=>obtain⟨_,_,_,_,e⟩:=x;exact a_ e
 | tup xs=>obtain⟨_,_,_,p⟩:=x;exact qX.lt p
 | dK c=>obtain⟨_,_,_,_,o,_,_,e,_⟩:=x;exact a_ e
 | dT c=>obtain⟨_,_,_,_,o,_,_,e,_⟩:=x;exact a_ e
 | set S n=>obtain⟨o,_,_,_,e,_⟩:=x;exact a_ e
 | ins C dx fs=>obtain⟨_,_,_,e,_⟩:=x;exact a_ e
 | own y=>obtain⟨_,e⟩:=x;exact a_ e
 | xd fs=>obtain⟨_,⟨_,_,_,e,_⟩,_⟩:=x;exact a_ e
 | rng g j=>obtain⟨_,_,_,e⟩:=x;exact a_ e
 | frz d u=>obtain⟨e,_⟩:=x;exact a_ e
 | tbl ps=>exact a_ (show h.get? a=some _ from x)
 | met f y=>exact a_ (show h.get? a=some _ from x)
 | ext k=>obtain⟨_,⟨_,e⟩,_⟩:=x;exact a_ e
theorem Paired.Xu{α β:Type}{F G:α->β->Prop}:∀{l₁:List α}{l₂:List β},Paired F l₁ l₂->(∀a b,F a b->G a b)->Paired G l₁ l₂
 | _,_,.nil,_=>.nil
 | _,_,.cons r t,f=>.cons (f _ _ r)<|Paired.Xu t f
def kW.stay(x:kW P w H h a o)(k:∀b u,(b=a\/H b=some (.own a))->h.get? b=some u->h'.get? b=some u)
  (ho:∀b,H b=some (.own a)->H' b=some (.own a)) (ht:∀b xs,H b=some (.tup xs)->H' b=some (.tup xs)):kW P w H' h' a o:=by
 induction o with
 | lst xs=>obtain⟨z,j,n,r,e⟩:=x;exact⟨z,j,n,r,k _ _ (.inl rfl) e⟩
 | tup xs=>obtain⟨z,j,r,g,e,c⟩:=x;exact⟨z,j,r,g,k _ _ (.inl rfl) e,c⟩
 | dK B=>obtain⟨z,y,vs,r,g,es,ep,e,c⟩:=x;exact⟨z,y,vs,r,g,es,ep,k _ _ (.inl rfl) e,c⟩
 | dT B=>
  obtain⟨z,y,xs,r,g,es,ep,e,c⟩:=x;exact⟨z,y,xs,Paired.Xu r λp q z=>⟨z.1,ht _ _ z.2.1,z.2.2⟩,g,es,ep,k _ _ (.inl rfl) e,c⟩
 | set S n=>obtain⟨g,es,ep,t,e,c⟩:=x;exact⟨g,es,ep,t,k _ _ (.inl rfl) e,c⟩
 | ins C dx fs=>
  obtain⟨d,z,ne,e,m,⟨F,es,ep,e2,c⟩,r⟩:=x;exact⟨ho _ d,z,ne,k _ _ (.inl rfl) e,m,⟨F,es,ep,k _ _ (.inr d) e2,c⟩,r⟩
 | own y=>obtain⟨g,e⟩:=x;exact⟨g,k _ _ (.inl rfl) e⟩
 | xd fs=>obtain⟨m,⟨F,es,ep,e,c⟩,r⟩:=x;exact⟨m,⟨F,es,ep,k _ _ (.inl rfl) e,c⟩,r⟩
 | rng J L=>obtain⟨t,u,v,e⟩:=x;exact⟨t,u,v,k _ _ (.inl rfl) e⟩
 | frz g u G=>obtain⟨e,q⟩:=x;exact⟨k _ _ (.inl rfl) e,G q⟩
 | tbl ps=>
  have e:h.get? a=some { cls:=.none,data:=.fields ps }:=x
  skip
  exact k a _ (.inl rfl) e
 | met f y=>
  have e:h.get? a=some (PySem.W.methodObj (.ref f)<|.ref y):=x
  skip
  exact k a _ (.inl rfl) e
 | ext K=>obtain⟨p,⟨o,e⟩,st⟩:=x;exact⟨st _ _ p λo q=>k _ _ (.inl rfl) q,⟨o,k _ _ (.inl rfl) e⟩,st⟩
def vL.lt(x:vL P w H h)(e:H a=some o):a<h.objs.size:=(x a o e).lt
def vL.fresh(x:vL P w H h)(e:h.objs.size<=a):H a=none:=by
 cases q:H a with
 | none=>rfl
 | some u=>exact absurd (bI (x.lt q) e)<|dN _
def vL.kept(x:vL P w H h)(k:∀b u,h.get? b=some u->h'.get? b=some u):vL P w H h':=λa o e=>
 (x a o e).stay (λb u _ q=>k b u q) (λ_ q=>q) λ_ _ q=>q
def vL.laid(x:vL P w H h)(k:∀b u,h.get? b=some u->h'.get? b=some u)(hp:h.objs.size<=a)(new:kW P w (upd H a o) h' a o):vL P w (upd H a o) h':=λb u e=>by
 have hn:=x.fresh hp;by_cases d:b=a
 ·subst d;rw[ko]at e;cases e;exact new
 ·rw[jL d]at e;exact(x b u e).stay (λc v _ q=>k c v q) (λc q=>by rw[jL<|jT q hn];exact q) λc xs q=>by rw[jL<|jT q hn];exact q
end
abbrev Rd (H:Hp)(a:ak)(u:HO):Prop:=H a=some u\/∃o,H a=some (.frz o u)
def Rd.ok{P:aj}{w:ah}{H:Hp}{a:ak}(r:Rd H a u)(x:vL P w H h):kW P w H h a u:=by
 rcases r with r|⟨o,r⟩
 ·exact x a u r
 ·obtain⟨_,q⟩:=x a _ r;exact q
abbrev Mut:Option HO->Prop
 | some (.lst _)=>True
 | some (.dK _)=>True
 | some (.dT _)=>True
 | some (.set _ _)=>True
 | some (.ins _ _ _)=>True
 | some (.ext _)=>True
 | _=>False
section
variable {P:aj}{w:ah}{H:Hp}{h h':aq}{x e:ak}{o':HO}
def vL.write(ok:vL P w H h)(mu:Mut<|H x)(he:e=x\/H e=some (.own x))(k:∀b u,b≠e->h.get? b=some u->h'.get? b=some u)(heo:∃u,h'.get? e=some u)
  (new:kW P w (upd H x o') h' x o'):vL P w (upd H x o') h':=λb u q=>by
 have f:∀c y,H c=some (.own y)->c≠x:=λc y r z=>by subst z;rw[r]at mu;exact mu
 have g:∀c xs,H c=some (.tup xs)->c≠x:=λc xs r z=>by subst z;rw[r]at mu;exact mu
 by_cases j:b=x
 ·subst j;rw[ko]at q;cases q;exact new
 ·rw[jL j]at q;by_cases d:b=e
  ·have q':H b=some (.own x):=by
    rcases he with z|z
    ·exact absurd (d.trans z) j
    ·rw[d];exact z
   rw[q]at q';cases q';obtain⟨v,hv⟩:=heo;exact⟨v,by rw[d];exact hv⟩
  ·refine(ok b u q).stay (λc v hc r=>k c v ?_ r) (λc r=>by rw[jL<|f c b r];exact r) λc xs r=>by rw[jL<|g c xs r];exact r
   rcases hc with rfl|hc
   ·exact d
   ·rintro rfl
    rcases he with z|z
    ·exact f c b hc z
    ·rw[hc]at z;cases z;exact j rfl
end
structure Un (fs ex:bb)(H H':Hp)(h h':aq):Prop where
 keep:∀b o,h.get? b=some o->H b=none->b∉fs->b∉ex->h'.get? b=some o
 slot:∀b o,h.get? b=some o->H b=none->b∈fs->b∉ex->∃sl,h'.get? b=some { o with slots:=sl }
 free:∀b o,h.get? b=some o->H b=none->b∉ex->H' b=none
 there:∀b o,h.get? b=some o->b∉ex->∃o',h'.get? b=some o'
 tups:∀b xs,H b=some (.tup xs)->H' b=some (.tup xs)
 frzs:∀b o u,H b=some (.frz o u)->H' b=some (.frz o u)
 tbls:∀b ps,H b=some (.tbl ps)->∃more,H' b=some (.tbl<|ps++more)
section
variable {fs ex:bb}{H H1:Hp}{h h1 h':aq}{a x e:ak}{o:HO}
def Un.any(u:Un fs ex H H1 h h1){ob:Obj}(q:h.get? b=some ob)(n:H b=none)(hx:b∉ex):∃sl,h1.get? b=some { ob with slots:=sl }:=by
 by_cases c:b∈fs
 ·exact u.slot b ob q n c hx
 ·exact⟨ob.slots,u.keep b ob q n c hx⟩
def Un.kept(k:∀b u,h.get? b=some u->h'.get? b=some u):Un fs ex H H h h':=
 ⟨λb c q _ _ _=>k b c q,λb c q _ _ _=>⟨c.slots,k b c q⟩,λ_ _ _ n _=>n,λb c q _=>⟨c,k b c q⟩,λ_ _ q=>q,λ_ _ _ q=>q,λ_ ps q=>⟨#[],by rw[q];simp⟩⟩
def Un.refl:Un fs ex H H h h:=Un.kept λ_ _ q=>q
def Un.laid(k:∀b u,h.get? b=some u->h'.get? b=some u)(hp:h.objs.size<=a)(hn:H a=none):Un fs ex H (upd H a o) h h' where
 keep:=λb u q _ _ _=>k b u q
 slot:=λb u q _ _ _=>⟨u.slots,k b u q⟩
 free:=λb u q n _=>by rw[jL<|bA<|bI (a_ q) hp];exact n
 there:=λb u q _=>⟨u,k b u q⟩
 tups:=λb xs q=>by rw[jL<|jT q hn];exact q
 frzs:=λb u xs q=>by rw[jL<|jT q hn];exact q
 tbls:=λb ps q=>⟨#[],by rw[jL<|jT q hn,q];simp⟩
def Un.write(mu:Mut<|H x)(he:e=x\/H e=some (.own x))(k:∀b u,b≠e->h.get? b=some u->h'.get? b=some u)(heo:∃u,h'.get? e=some u):Un fs ex H (upd H x o) h h':=by
 have g:∀b,H b=none->b≠x:=λb n z=>by subst z;rw[n]at mu;exact mu
 have f:∀b,H b=none->b≠e:=λb n z=>by
  subst z
  rcases he with r|r
  ·exact g b n r
  ·rw[n]at r;cases r
 have d:∀b u,H b=some u->¬Mut (some u)->b≠x:=λb u q nm z=>by subst z;rw[q]at mu;exact nm mu
 refine⟨λb u q n _ _=>k b u (f b n) q,λb u q n _ _=>⟨u.slots,k b u (f b n) q⟩,λb u q n _=>by rw[jL<|g b n];exact n,λb u q _=>?_,
  λb xs q=>by rw[jL<|d b _ q λz=>z];exact q,λb u xs q=>by rw[jL<|d b _ q λz=>z];exact q,λb ps q=>⟨#[],by rw[jL<|d b _ q λz=>z,q];simp⟩⟩
 by_cases c:b=e
 ·subst c;exact heo
 ·exact⟨u,k b u c q⟩
end
abbrev trk (h:aq)(H:Hp):bb:=(List.range h.objs.size).filter λa=>(H a).isSome
abbrev C5 (h:aq)(H:Hp):aq:=PySem.W.hideAll h<|trk h H
def K_(h:aq)(H:Hp):(C5 h H).objs.size=h.objs.size:=PySem.W.hideAll_size _ _
def P5{h:aq}{H:Hp}(e:h.get? b=some o)(n:H b=none):(C5 h H).get? b=some o:=
 dH _ e λc=>by
  have q:(H b).isSome=true:=(ck.mp c).2;rw[n]at q;simp at q
def Sy{h:aq}{H:Hp}(e:(C5 h H).get? b=some o):h.get? b=some o/\H b=none:=by
 have c:h.get? b=some o:=eX (trk h H) e;refine⟨c,?_⟩
 cases q:H b with
 | none=>rfl
 | some x=>
  have d:b∈trk h H:=ck.mpr ⟨c5.mpr<|a_ c,by simp[q]⟩;have z:(C5 h H).get? b=none:=PySem.W.hideAll_none (trk h H) d;rw[z]at e;cases e
abbrev Ru (g h:aq)(L:ak):bo:=(List.range h.objs.size).filterMap λa=>if a=L\/(g.get? a).isSome=true then none else(h.get? a).map λo=>(a,o)
abbrev rest (g h:aq)(L d:ak):bo:=(Ru g h L).filter λp=>decide<|p.1≠d
structure Mod (K:au)(mg:Str->bd)(base:aq):Prop where
 kin:K.In base
 glob:base.Ns mainGlobals mg
 blt:∃mb,base.Ns builtinsNs mb/\∀x:Str,x ≠ "__name__" -> mb x=bootBuiltins x
 nolimit:base.NoLimit
structure Cx where
 prog:aj
 w:ah
 K:au
 mg:Str->bd
 base:aq
 A:az
 N:ar
 s₀:aA
 H₀:Hp
 env:Env
 outer:List Env
 stack:List Env
 ex:bb
 fn:Str->Bool
 calm:Bool
 pn:bo
 xe:af->aA->Prop
abbrev frs (l:List Env):bb:=l.filterMap (·.frame)
meta abbrev Cx.fs (X:Cx):bb:=frs X.outer
abbrev Vis (sc:Scope)(x:Str):Prop:=sc.names.lookup x=some .local\/sc.names.lookup x=some .cell\/sc.names.lookup x=some .free
abbrev Loc (sc:Scope)(x:Str):Prop:=sc.names.lookup x=some .local\/sc.names.lookup x=some .cell
abbrev Look (env:Env)(h:aq)(m:Str->bd)(x:Str)(u:af):Prop:=
 (env.kindOf x=some .local/\m x=some u)\/((env.kindOf x=some .cell\/env.kindOf x=some .free)/\∃c,env.cells.lookup x=some c/\h.IsCell c (some u))
structure Cx.Ok (X:Cx):Prop where
 mod:Mod X.K X.mg X.base
 kind:X.env.scope.kind=.function
 glob:X.env.globals=mainGlobals
 blt:X.env.builtins=builtinsNs
 above:X.s₀.heap.objs.size<=X.env.locals
 inj:∀x y c,X.env.cells.lookup x=some c->X.env.cells.lookup y=some c->x=y
 has:∀x,(X.env.kindOf x=some .cell\/X.env.kindOf x=some .free)->∃c,X.env.cells.lookup x=some c
 cab:∀x c,X.fn x=true->X.env.cells.lookup x=some c->X.s₀.heap.objs.size<=c
 hd:X.calm=true->X.A.handled=none
 frames:X.A.frames=some X.stack
 stk:X.stack=X.outer\/(X.stack=X.env::X.outer/\X.env.frame=some X.env.locals)
 exf:∀b∈X.ex,b≠X.env.locals/\∀x c,X.env.cells.lookup x=some c->c≠b
 bs:∀b o,X.base.get? b=some o->X.s₀.heap.get? b=some o/\X.H₀ b=none
 bsz:X.base.objs.size<=X.s₀.heap.objs.size
 noex:∀b o,X.base.get? b=some o->b∉X.ex
 exfs:∀b∈X.ex,b∉X.fs
 tO:X.s₀.heap.FunFrames X.base X.outer
 frf:∀b∈X.fs,X.H₀ b=none
structure Inv (X:Cx)(pins:bo)(σ:List (Option V))(H:Hp)(s:aA):Prop where
 ok:X.Ok
 os:s.os=X.s₀.os
 bare:AllBare s.gens
 base:Un X.fs X.ex X.H₀ H X.s₀.heap s.heap
 loc:∃m,s.heap.Ns X.env.locals m/\∀(i:Nat) (x:Str) (v:V),X.N[i]?=some x->σ[i]?=some (some v)->Vis X.env.scope x->∃u,RelV v u/\Look X.env s.heap m x u
 cell:∀x c,X.env.cells.lookup x=some c->∃v,s.heap.IsCell c v
 free:H X.env.locals=none
 freeC:∀x c,X.env.cells.lookup x=some c->H c=none
 pin:∀p∈X.pn++pins,s.heap.get? p.1=some p.2/\H p.1=none/\p.1≠X.env.locals/\p.1∉X.fs/\∀v,p.2.data≠.cell v
 hok:vL X.prog X.w H s.heap
 len:σ.length=X.N.length
section
variable {X:Cx}{pins:bo}{σ:List (Option V)}{H H':Hp}{s:aA}{h':aq}
def Cx.Ok.abP(ok:X.Ok)(e:X.base.get? b=some o):b∉X.fs:=λc=>by
 have:=(ok.tO.mem c).1;rw[e]at this;cases this
def Inv.bs(I:Inv X pins σ H s):∀b o,X.base.get? b=some o->s.heap.get? b=some o/\H b=none:=λb o e=>
 ⟨I.base.keep b o (I.ok.bs b o e).1 (I.ok.bs b o e).2 (I.ok.abP e)<|I.ok.noex b o e,I.base.free b o (I.ok.bs b o e).1 (I.ok.bs b o e).2<|I.ok.noex b o e⟩
def Inv.bk(I:Inv X pins σ H s):∀b o,X.base.get? b=some o->s.heap.get? b=some o:=λb o e=>(I.bs b o e).1
def Inv.mod(I:Inv X pins σ H s):Mod X.K X.mg X.base:=I.ok.mod
def Inv.zA(I:Inv X pins σ H s):X.K.In s.heap:=I.ok.mod.kin.keeps I.bk
def Inv.lt(I:Inv X pins σ H s):X.env.locals<s.heap.objs.size:=let⟨_,hn,_⟩:=I.loc;hn.lt
def Inv.sz(I:Inv X pins σ H s):X.s₀.heap.objs.size<=s.heap.objs.size:=bF I.ok.above<|dJ I.lt
def Inv.acz(I:Inv X pins σ H s){a:ak}(h:s.heap.objs.size<=a):a∉X.fs:=λc=>by
 obtain⟨_,o,d,_⟩:=I.ok.tO.mem c;exact absurd (bI (a_ d)<|bF I.sz h)<|dN _
def Inv.Rp(I:Inv X pins σ H s):∀x c,X.env.cells.lookup x=some c->c≠X.env.locals:=λx c e z=>by
 obtain⟨v,o,j,g⟩:=I.cell x c e;obtain⟨m,⟨o',es,ep,d,f,_⟩,_⟩:=I.loc;rw[z,d]at j;cases j;rw[f]at g;cases g
def Inv.tO(I:Inv X pins σ H s):s.heap.FunFrames X.base X.outer:=by
 have all:∀(l:List Env),(∀b∈frs l,b∈X.fs)->X.s₀.heap.FunFrames X.base l->s.heap.FunFrames X.base l:=by
  intro l
  induction l with
  | nil=>intro _ _;trivial
  | cons env r g=>
   intro hs m;obtain⟨j,⟨L,o,hf,hn,k,f⟩,p⟩:=m;have d:L∈X.fs:=hs L (by unfold frs;rw[eN,hf];exact aN);obtain⟨q,e⟩:=I.base.slot L o k (I.ok.frf L d) d λz=>I.ok.exfs L z d;exact⟨j,⟨L,_,hf,hn,e,f⟩,g (λb c=>hs b<|by unfold frs;rw[eN,hf];exact aK _ c) p⟩
 exact all X.outer (λ_ c=>c) I.ok.tO
def Inv.stack(I:Inv X pins σ H s):s.heap.FunFrames X.base X.stack:=by
 rcases I.ok.stk with e|⟨e,hf⟩
 ·rw[e];exact I.tO
 ·rw[e];obtain⟨m,hn,_⟩:=I.loc;refine .cons (by rw[I.ok.kind];decide) hf hn ?_ I.tO;exact Heap.get?_none_of_le<|bF I.ok.bsz I.ok.above
def Inv.Ar(I:Inv X pins σ H s):∀b∈frs X.stack,b∈X.env.locals::X.fs:=λb c=>by
 rcases I.ok.stk with e|⟨e,hf⟩
 ·rw[e]at c;exact aK _ c
 ·rw[e]at c;unfold frs at c;rw[eN,hf]at c;exact c
def Inv.yZ(I:Inv X pins σ H s):∀b∈frs X.stack,H b=none:=λb c=>by
 rcases bg.mp (I.Ar b c)with e|c
 ·rw[e];exact I.free
 ·obtain⟨_,o,d,_⟩:=I.ok.tO.mem c;exact I.base.free b o d (I.ok.frf b c) λz=>I.ok.exfs b z c
def Inv.step{g':Array GenState}{t':Nat}{d':Drawn}{ch:bb}(I:Inv X pins σ H s)
  (hch:∀b∈ch,(b∈X.ex\/X.s₀.heap.objs.size<=b)/\b≠X.env.locals/\(∀x c,X.env.cells.lookup x=some c->c≠b)/\∀p∈X.pn++pins,p.1≠b)
  (keep:∀b o,b≠X.env.locals->b∉X.fs->b∉ch->s.heap.get? b=some o->H b=none->h'.get? b=some o)
  (slot:∀b o,b≠X.env.locals->b∈X.fs->b∉ch->s.heap.get? b=some o->H b=none->∃sl,h'.get? b=some { o with slots:=sl }) (free:∀b o,b∉ch->s.heap.get? b=some o->H b=none->H' b=none)
  (there:∀b o,b∉ch->s.heap.get? b=some o->∃o',h'.get? b=some o')
  (tups:∀b xs,H b=some (.tup xs)->H' b=some (.tup xs)) (frzs:∀b o u,H b=some (.frz o u)->H' b=some (.frz o u)) (tbls:∀b ps,H b=some (.tbl ps)->∃more,H' b=some (.tbl<|ps++more))
  (ns:∀m,s.heap.Ns X.env.locals m->h'.Ns X.env.locals m) (hok:vL X.prog X.w H' h') (hg:AllBare g') :
  Inv X pins σ H' { s with heap:=h',gens:=g',drawn:=d',toks:=t' }:=by
 have F:∀b o,X.s₀.heap.get? b=some o->b≠X.env.locals:=λb o e=>bA<|bI (a_ e) I.ok.above;have t:∀b o,X.s₀.heap.get? b=some o->b∉X.ex->b∉ch:=λb o e f B=>by
  rcases(hch b B).1 with z|z
  ·exact f z
  ·exact absurd (bI (a_ e) z)<|dN _
 have j:∀x c,X.env.cells.lookup x=some c->∀v,s.heap.IsCell c v->h'.IsCell c v:=λx c e v ⟨o,C,G⟩=>by
  have g:c∉ch:=λz=>(hch c z).2.2.1 x c e rfl;by_cases hc:c∈X.fs
  ·obtain⟨sl,q⟩:=slot c o (I.Rp x c e) hc g C<|I.freeC x c e;exact⟨_,q,G⟩
  ·exact⟨o,keep c o (I.Rp x c e) hc g C<|I.freeC x c e,G⟩
 refine⟨I.ok,I.os,hg,⟨λb o e n B f=>?_,λb o e n B f=>?_,λb o e n f=>?_,λb o e f=>?_,λb xs e=>tups b xs<|I.base.tups b xs e,λb o xs e=>frzs b o xs<|I.base.frzs b o xs e,λb ps e=>?_⟩,?_,λx c e=>?_,?_,λx c e=>?_,λp hp=>?_,hok,I.len⟩
 ·exact keep b o (F b o e) B (t b o e f) (I.base.keep b o e n B f) (I.base.free b o e n f)
 ·obtain⟨sl,e1⟩:=I.base.slot b o e n B f;obtain⟨J,e2⟩:=slot b _ (F b o e) B (t b o e f) e1<|I.base.free b o e n f;exact⟨J,e2⟩
 ·obtain⟨o',e1⟩:=I.base.there b o e f;exact free b o' (t b o e f) e1 (I.base.free b o e n f)
 ·obtain⟨o',e1⟩:=I.base.there b o e f;exact there b o' (t b o e f) e1
 ·obtain⟨L,e1⟩:=I.base.tbls b ps e;obtain⟨M,e2⟩:=tbls b _ e1;exact⟨L++M,by rw[e2,Array.append_assoc]⟩
 ·obtain⟨m,hn,N⟩:=I.loc;refine⟨m,ns m hn,λi x v e1 e2 e3=>?_⟩;obtain⟨u,r,l⟩:=N i x v e1 e2 e3;refine⟨u,r,?_⟩
  rcases l with l|⟨k,c,e,z⟩
  ·exact .inl l
  ·exact .inr ⟨k,c,e,j x c e _ z⟩
 ·obtain⟨v,z⟩:=I.cell x c e;exact⟨v,j x c e v z⟩
 ·obtain⟨m,⟨o,_,_,C,_⟩,_⟩:=I.loc;exact free _ o (λz=>(hch _ z).2.1 rfl) C I.free
 ·obtain⟨v,o,C,G⟩:=I.cell x c e;exact free c o (λz=>(hch c z).2.2.1 x c e rfl) C (I.freeC x c e)
 ·obtain⟨e,n,ne,K,d⟩:=I.pin p hp;have g:p.1∉ch:=λz=>(hch p.1 z).2.2.2 p hp rfl;exact⟨keep p.1 p.2 ne K g e n,free p.1 p.2 g e n,ne,K,d⟩
def Inv.un{t':Nat}(I:Inv X pins σ H s)(u:Un X.fs [] H H' s.heap h')(hok:vL X.prog X.w H' h'):Inv X pins σ H' { s with heap:=h',toks:=t' }:=by
 obtain⟨m,⟨o,es,ep,j,r⟩,_⟩:=id I.loc;obtain⟨t,k⟩:=u.any j I.free (by simp);exact I.step (g':=s.gens) (d':=s.drawn) (ch:=[]) (nofun) (λb o _ d _ e n=>u.keep b o e n d<|by simp) (λb o _ d _ e n=>u.slot b o e n d<|by simp) (λb o _ e n=>u.free b o e n<|by simp) (λb o _ e=>u.there b o e<|by simp) u.tups u.frzs u.tbls (λB p=>by
  obtain⟨o',g,f,c,q⟩:=p;rw[j]at c;cases c;exact⟨_,g,f,k,q⟩) hok I.bare
def Inv.call{g':Array GenState}{t':Nat}{d':Drawn}{ch:bb}(I:Inv X pins σ H s)(u:Un (frs X.stack) ch H H' s.heap h')(hok:vL X.prog X.w H' h')(hg:AllBare g')
  (hch:∀b∈ch,(b∈X.ex\/X.s₀.heap.objs.size<=b)/\b≠X.env.locals/\(∀x c,X.env.cells.lookup x=some c->c≠b)/\∀p∈X.pn++pins,p.1≠b) :
  Inv X pins σ H' { s with heap:=h',gens:=g',drawn:=d',toks:=t' }:=by
 obtain⟨m,⟨o,es,ep,k,r⟩,_⟩:=id I.loc;obtain⟨C,f⟩:=u.any k I.free λz=>(hch _ z).2.1 rfl;exact I.step (ch:=ch) hch (λb o f q hc e n=>u.keep b o e n (λz=>(bg.mp<|I.Ar b z).elim f q) hc) (λb o _ _ hc e n=>u.any e n hc) (λb o hc e n=>u.free b o e n hc) (λb o hc e=>u.there b o e hc) u.tups u.frzs u.tbls (λF t=>by
  obtain⟨o',j,g,d,B⟩:=t;rw[k]at d;cases d;exact⟨_,j,g,f,B⟩) hok hg
def Inv.turned{t':Nat}{it:ak}(I:Inv X pins σ H s)(k:∀b o,b≠it->s.heap.get? b=some o->h'.get? b=some o)(hn:H it=none)(hL:it≠X.env.locals)
  (h1:it∈X.ex\/X.s₀.heap.objs.size<=it) (h2:∀x c,X.env.cells.lookup x=some c->c≠it) (h3:∀p∈X.pn++pins,p.1≠it):Inv X pins σ H { s with heap:=h',toks:=t' }:=by
 have d:∀b u,H b=some u->b≠it:=λb u e z=>by rw[z,hn]at e;cases e
 refine I.step (g':=s.gens) (d':=s.drawn) (ch:=[it]) (λb f=>?_) (λb o _ _ hc e _=>k b o (λz=>hc<|by simp[z]) e) (λb o _ _ hc e _=>⟨o.slots,k b o (λz=>hc<|by simp[z]) e⟩) (λ_ _ _ _ n=>n)
  (λb o hc e=>⟨o,k b o (λz=>hc<|by simp[z]) e⟩) (λ_ _ e=>e) (λ_ _ _ e=>e) (λb ps e=>⟨#[],by rw[e];simp⟩) (λm g=>?_) (λb u e=>?_) I.bare
 ·have e:b=it:=by simpa using f
  subst e;exact⟨h1,hL,h2,h3⟩
 ·obtain⟨o,es,ep,j,r⟩:=g;exact⟨o,es,ep,k _ o (cK hL) j,r⟩
 ·refine(I.hok b u e).stay (λc v hc q=>k c v ?_ q) (λ_ q=>q) λ_ _ q=>q
  rcases hc with z|z
  ·rw[z];exact d b u e
  ·exact d c _ z
def Inv.tok(I:Inv X pins σ H s)(t:Nat):Inv X pins σ H { s with toks:=t }:=I.un (h':=s.heap) (t':=t) Un.refl I.hok
def Inv.kept{t':Nat}(I:Inv X pins σ H s)(k:∀b u,s.heap.get? b=some u->h'.get? b=some u):Inv X pins σ H { s with heap:=h',toks:=t' }:=I.un (Un.kept k)<|I.hok.kept k
def Inv.laid{a:ak}{t':Nat}(I:Inv X pins σ H s)(k:∀b u,s.heap.get? b=some u->h'.get? b=some u)(hp:s.heap.objs.size<=a)(new:kW X.prog X.w (upd H a o) h' a o) :
  Inv X pins σ (upd H a o) { s with heap:=h',toks:=t' }:=I.un (Un.laid k hp<|I.hok.fresh hp)<|I.hok.laid k hp new
def Inv.write{x e:ak}{t':Nat}(I:Inv X pins σ H s)(mu:Mut<|H x)(he:e=x\/H e=some (.own x))(k:∀b u,b≠e->s.heap.get? b=some u->h'.get? b=some u)(heo:∃u,h'.get? e=some u)
  (new:kW X.prog X.w (upd H x o) h' x o):Inv X pins σ (upd H x o) { s with heap:=h',toks:=t' }:=I.un (Un.write mu he k heo)<|I.hok.write mu he k heo new
def Inv.Je{pins':bo}(I:Inv X pins σ H s)(h:∀p∈pins',s.heap.get? p.1=some p.2/\H p.1=none/\p.1≠X.env.locals/\p.1∉X.fs/\∀v,p.2.data≠.cell v):Inv X pins' σ H s:=
 ⟨I.ok,I.os,I.bare,I.base,I.loc,I.cell,I.free,I.freeC,λp hp=>(bE.mp hp).elim (λz=>I.pin p<|cJ _ z)<|h p,I.hok,I.len⟩
def Ac{N:ar}(hN:N.Nodup){i j:Nat}{x:Str}(a:N[i]?=some x)(b:N[j]?=some x):i=j:=by
 obtain⟨h1,e1⟩:=aI.mp a;obtain⟨h2,e2⟩:=aI.mp b;exact(dw hN).mp (e1.trans e2.symm)
def _root_.γ0(h:1=1:=by first|exact .inl rfl|exact .inr rfl|assumption):1=1:=h
def _root_.γ:Lean.Syntax:=γ0._auto_1
def _root_.δ0(h:1=1:=by decide):1=1:=h
def _root_.δ:Lean.Syntax:=δ0._auto_1
def _root_.ε0(h:1=1:=by rfl):1=1:=h
def _root_.ε:Lean.Syntax:=ε0._auto_1
def _root_.ζ0(h:1=1:=by intro _;rfl):1=1:=h
def _root_.ζ:Lean.Syntax:=ζ0._auto_1
def _root_.η0(h:1=1:=by with_unfolding_all rfl):1=1:=h
def _root_.η:Lean.Syntax:=η0._auto_1
def _root_.θ0(h:1=1:=by exact λ_ _=>rfl):1=1:=h
def _root_.θ:Lean.Syntax:=θ0._auto_1
def KH{A:az}{E:af->aA->Prop}{i:Nat}{x:Str}{v:V}{Q:Unit->aA->Prop}(I:Inv X pins σ H s)(hN:X.N.Nodup)(hi:X.N[i]?=some x)(hx:Loc X.env.scope x)(r:RelV v u)
  (h:∀s',Inv X pins (σ.set i<|some v) H s'->(∃a,Heap.SameBut a s.heap s'.heap/\(a=X.env.locals\/X.env.cells.lookup x=some a))->Q Unit.unit s') (hf:X.fn x=true\/X.env.scope.names.lookup x=some .local<|>γ):wpAny M A (storeName X.env x u) Q E s:=by
 obtain⟨m,hn,hl⟩:=id I.loc;have J:(X.env.scope.kind == .class || (X.env.scope.kind == .module && X.env.locals != X.env.globals))=false:=by rw[I.ok.kind];rfl
 have B:i<σ.length:=by rw[I.len];exact(aI.mp hi).1
 have Rp:=I.Rp;have f:∀{a:ak} {h':aq},(∃o,s.heap.get? a=some o/\H a=none)->Heap.SameBut a s.heap h'->vL X.prog X.w H h':=λ{a h'} ha hs b ob e=>by
  obtain⟨_,_,g⟩:=ha;refine(I.hok b ob e).stay (λc U hc q=>(hs.2 c ?_).trans q) (λ_ q=>q) λ_ _ q=>q;rintro rfl
  rcases hc with rfl|hc
  ·rw[g]at e;cases e
  ·rw[g]at hc;cases hc
 rcases hx with t|t
 ·refine wpAny_storeName_local t hn (λh' hn' hs=>?_) J;obtain⟨oL,_,_,hoL,_⟩:=id hn;refine h _ ⟨I.ok,I.os,I.bare,⟨λb o e n C hx=>?_,λb o e n C hx=>?_,I.base.free,λb o e hx=>?_,I.base.tups,I.base.frzs,I.base.tbls⟩,⟨_,hn',λj y Z e1 e2 e3=>?_⟩,λy c e=>?_,I.free,I.freeC,λp hp=>?_,f ⟨oL,hoL,I.free⟩ hs,by simpa using I.len⟩ ⟨_,hs,.inl rfl⟩
  ·exact(hs.2 b<|bA<|bI (a_ e) I.ok.above).trans (I.base.keep b o e n C hx)
  ·obtain⟨W,e1⟩:=I.base.slot b o e n C hx;exact⟨W,(hs.2 b<|bA<|bI (a_ e) I.ok.above).trans e1⟩
  ·obtain⟨o',e1⟩:=I.base.there b o e hx;exact⟨o',(hs.2 b<|bA<|bI (a_ e) I.ok.above).trans e1⟩
  ·by_cases G:j=i
   ·subst G;rw[hi]at e1;cases e1;rw[bJ B]at e2
    cases e2
    exact⟨u,r,.inl ⟨t,by simp⟩⟩
   ·rw[bO<|cK G]at e2;obtain⟨u',r',q⟩:=hl j y Z e1 e2 e3;refine⟨u',r',?_⟩
    rcases q with⟨k,e⟩|⟨k,c,e,z⟩
    ·refine .inl ⟨k,?_⟩;have:y≠x:=λe=>G<|Ac hN e1<|e ▸ hi;simp[this,e]
    ·exact .inr ⟨k,c,e,z.sameBut hs<|Rp y c e⟩
  ·obtain⟨U,z⟩:=I.cell y c e;exact⟨U,z.sameBut hs<|Rp y c e⟩
  ·obtain⟨e,n,ne,Y,d⟩:=I.pin p hp;exact⟨(hs.2 p.1 ne).trans e,n,ne,Y,d⟩
 ·have F:X.fn x=true:=by
   rcases hf with z|z
   ·exact z
   ·rw[z]at t;cases t
  obtain⟨c,hc⟩:=I.ok.has x<|.inl t;obtain⟨U,z⟩:=I.cell x c hc;refine wpAny_storeName_cell I.ok.kind t hc z λh' O hs=>?_;obtain⟨oc,K,P⟩:=id z;refine h { s with heap:=h' } ⟨I.ok,I.os,I.bare,⟨λb o e n C hx=>?_,λb o e n C hx=>?_,I.base.free,λb o e hx=>?_,I.base.tups,I.base.frzs,I.base.tbls⟩,⟨m,hn.sameBut hs<|cK<|Rp x c hc,λj y Z e1 e2 e3=>?_⟩,λy T e=>?_,I.free,I.freeC,λp hp=>?_,f ⟨oc,K,I.freeC x c hc⟩ hs,by simpa using I.len⟩ ⟨c,hs,.inr hc⟩
  ·exact(hs.2 b<|bA<|bI (a_ e)<|I.ok.cab x c F hc).trans (I.base.keep b o e n C hx)
  ·obtain⟨W,e1⟩:=I.base.slot b o e n C hx;exact⟨W,(hs.2 b<|bA<|bI (a_ e)<|I.ok.cab x c F hc).trans e1⟩
  ·obtain⟨o',e1⟩:=I.base.there b o e hx;exact⟨o',(hs.2 b<|bA<|bI (a_ e)<|I.ok.cab x c F hc).trans e1⟩
  ·by_cases G:j=i
   ·subst G;rw[hi]at e1;cases e1;rw[bJ B]at e2
    cases e2
    exact⟨u,r,.inr ⟨.inl t,c,hc,O⟩⟩
   ·rw[bO<|cK G]at e2;obtain⟨u',r',q⟩:=hl j y Z e1 e2 e3;refine⟨u',r',?_⟩
    rcases q with q|⟨k,T,e,z'⟩
    ·exact .inl q
    ·refine .inr ⟨k,T,e,z'.sameBut hs ?_⟩;rintro rfl;exact G<|Ac hN e1<|I.ok.inj _ _ _ e hc ▸ hi
  ·by_cases L:T=c
   ·subst L;exact⟨_,O⟩
   ·obtain⟨w2,z2⟩:=I.cell y T e;exact⟨w2,z2.sameBut hs L⟩
  ·obtain⟨e,n,ne,Y,d⟩:=I.pin p hp;refine⟨(hs.2 p.1 ?_).trans e,n,ne,Y,d⟩;intro q;rw[q,K]at e;have q':oc=p.2:=aX e;exact d U<|by rw[<- q'];exact P
def uE{A:az}{E:af->aA->Prop}{i:Nat}{x:Str}{v:V}{Q:Unit->aA->Prop}(I:Inv X pins σ H s)(hN:X.N.Nodup)(hi:X.N[i]?=some x)(hx:Loc X.env.scope x)(r:RelV v u)
  (h:∀s',Inv X pins (σ.set i<|some v) H s'->Q Unit.unit s') (hf:X.fn x=true\/X.env.scope.names.lookup x=some .local<|>γ):wpAny M A (storeName X.env x u) Q E s:=
 KH I hN hi hx r (λs' c _=>h s' c) hf
def Inv.Rf{s':aA}{ch:bb}(I:Inv X pins σ H s)(ho:s'.os=s.os)(u:Un (frs X.stack) ch H H' s.heap s'.heap)(hok:vL X.prog X.w H' s'.heap)(hg:AllBare s'.gens)
  (hch:∀b∈ch,(b∈X.ex\/X.s₀.heap.objs.size<=b)/\b≠X.env.locals/\(∀x c,X.env.cells.lookup x=some c->c≠b)/\∀p∈X.pn++pins,p.1≠b):Inv X pins σ H' s':=by
 obtain⟨h',g',d',t',o'⟩:=s';have e:o'=s.os:=ho;subst e;exact I.call (g':=g') (t':=t') (d':=d') u hok hg hch
end
meta abbrev XK:=af->Option ak->Hp->Prop
meta abbrev St:=List<|Option V
meta abbrev VK:=V->Hp->Prop
meta abbrev TE:=St->Hp->VK->Prop
meta abbrev TT:=St->Hp->(Bool->Hp->Prop)->Prop
meta abbrev TA:=St->Hp->(List V->Hp->Prop)->Prop
structure Ends where
 nx:St->Hp->Prop
 rt:VK
 bk:St->Hp->Prop:=λ_ _=>False
 ct:St->Hp->Prop:=λ_ _=>False
meta abbrev TS:=Ends->St->Hp->Prop
abbrev EP (X:Cx)(pins:bo)(σ:St)(Q:VK)(u:af)(s':aA):Prop:=∃v H',Inv X pins σ H' s'/\RelV v u/\Q v H'
abbrev TP (X:Cx)(pins:bo)(σ:St)(Q:Bool->Hp->Prop)(b:Bool)(s':aA):Prop:=∃H',Inv X pins σ H' s'/\Q b H'
abbrev AP (X:Cx)(pins:bo)(σ:St)(Q:List V->Hp->Prop)(us:ba)(s':aA):Prop:=∃vs H',Inv X pins σ H' s'/\Vals vs us/\Q vs H'
abbrev SP (X:Cx)(pins:bo)(D:Ends)(f:Flow)(s':aA):Prop:=
 match f with
 | .next=>∃c H',Inv X pins c H' s'/\D.nx c H'
 | .brk=>∃c H',Inv X pins c H' s'/\D.bk c H'
 | .cont=>∃c H',Inv X pins c H' s'/\D.ct c H'
 | .ret u=>∃v c H',Inv X pins c H' s'/\RelV v u/\D.rt v H'
abbrev PE (X:Cx)(e:aC)(t:TE):Prop:=
 ∀(pins:bo) (s:aA) (σ:St) (H:Hp) (Q:VK),Inv X pins σ H s->t σ H Q->wpAny (model X.prog X.w) X.A (eval e X.env) (EP X pins σ Q) X.xe s
abbrev PT (X:Cx)(e:aC)(t:TT):Prop:=
 ∀(pins:bo) (s:aA) (σ:St) (H:Hp) (Q:Bool->Hp->Prop),Inv X pins σ H s->t σ H Q->wpAny (model X.prog X.w) X.A (isTrue e X.env<|eval e X.env) (TP X pins σ Q) X.xe s
abbrev PW (X:Cx)(e:aC)(t:TT):Prop:=
 ∀(c:Sem af) (pins:bo) (s:aA) (σ:St) (H:Hp) (Q:Bool->Hp->Prop),Inv X pins σ H s->t σ H Q->wpAny (model X.prog X.w) X.A (isTrue e X.env c) (TP X pins σ Q) X.xe s
abbrev PA (X:Cx)(es:List aC)(t:TA):Prop:=
 ∀(pos:Pos) (pins:bo) (s:aA) (σ:St) (H:Hp) (Q:List V->Hp->Prop),Inv X pins σ H s->t σ H Q->wpAny (model X.prog X.w) X.A (spliced<|backTo pos<|starEach es X.env) (AP X pins σ Q) X.xe s
abbrev PS (X:Cx)(st:aE)(t:TS):Prop:=
 ∀(pins:bo) (s:aA) (σ:St) (H:Hp) (D:Ends),Inv X pins σ H s->t D σ H->wpAny (model X.prog X.w) X.A (exec st X.env) (SP X pins D) X.xe s
abbrev Bp (X:Cx)(st:List aE)(t:TS):Prop:=
 ∀(pins:bo) (s:aA) (σ:St) (H:Hp) (D:Ends),Inv X pins σ H s->t D σ H->wpAny (model X.prog X.w) X.A (execs st X.env) (SP X pins D) X.xe s
def nc{α:Type}{t:Sem α}{Q Q':α->aA->Prop}{A:az}{E:af->aA->Prop}(h:wpAny M A t Q E s)(hQ:∀a s,Q a s->Q' a s):wpAny M A t Q' E s:=cZ h hQ λ_ _ x=>x
section
variable {X:Cx}
abbrev acy (i:Nat):TE:=λσ H Q=>∃v,σ[i]?=some (some v)/\Q v H
abbrev tC (v:V):TE:=λ_ H Q=>Q v H
def YJ{i:Nat}{x:Str}(hN:X.N[i]?=some x)(hv:Vis X.env.scope x)(hd:(x == ("__debug__" : Str))=false<|>δ)(hcd:(x == ("__classdict__" : Str))=false<|>δ):PE X (.Name x pos) (acy i):=by
 kt_k;obtain⟨v,e,h⟩:=h;obtain⟨m,hn,j⟩:=I.loc;obtain⟨u,r,l⟩:=j i x v hN e hv;have g:EP X pins σ Q u s:=⟨v,H,I,r,h⟩
 rcases l with⟨f,k⟩|⟨f,c,hc,d⟩
 ·exact wpAny_Name (wpAny_loadName_local I.ok.kind f hn k g) hd
 ·rcases f with f|f
  ·exact wpAny_Name (wpAny_loadName_cell I.ok.kind f hc d g) hd
  ·exact wpAny_Name (wpAny_loadName_free I.ok.kind f hc d g hcd) hd
def YN{i j pos}:PE X (.Constant (.int i) j pos) (tC<|.int i):=λ_ _ _ H _ I h=>wpAny_Constant_int ⟨.int i,H,I.tok _,⟨_,rfl⟩,h⟩
def ZV{b j pos}:PE X (.Constant (.bool b) j pos) (tC<|.bl b):=λ_ _ _ H _ I h=>Constant_bool ⟨.bl b,H,I,rfl,h⟩
def Wn{j pos}:PE X (.Constant .none j pos) (tC .non):=λ_ _ _ H _ I h=>Constant_none ⟨.non,H,I,rfl,h⟩
def NP{x j pos}:PE X (.Constant (.str x) j pos) (tC<|.str x):=λ_ _ _ H _ I h=>Calls.Constant_str ⟨.str x,H,I.tok _,⟨_,rfl⟩,h⟩
abbrev Gl (X:Cx)(x:Str):Prop:=X.env.kindOf x=some .globalImplicit
def wO{E:af->aA->Prop}{H:Hp}{x:Str}{Q:af->aA->Prop}(I:Inv X pins σ H s)(hg:Gl X x)(hm:X.mg x=some u)(h:Q u s)
  (hd:(x == ("__debug__" : Str))=false<|>δ):wpAny (model X.prog X.w) X.A (eval (.Name x pos) X.env) Q E s:=
 Calls.Name_function_global I.ok.kind hg (Calls.loadGlobal_global (by rw[I.ok.glob];exact I.mod.glob.keeps I.bk) hm h) hd
def uv{E:af->aA->Prop}{H:Hp}{x:Str}{Q:af->aA->Prop}(I:Inv X pins σ H s)(hg:Gl X x)(hm:X.mg x=none)(hv:bootBuiltins x=some u)(h:Q u s)
  (hn:x ≠ "__name__"<|>δ) (hd:(x == ("__debug__" : Str))=false<|>δ):wpAny (model X.prog X.w) X.A (eval (.Name x pos) X.env) Q E s:=by
 obtain⟨c,h1,h2⟩:=I.mod.blt;exact Calls.Name_function_global I.ok.kind hg (Calls.loadGlobal_builtin (by rw[I.ok.glob];exact I.mod.glob.keeps I.bk) hm (by rw[I.ok.blt];exact h1.keeps I.bk) ((h2 x hn).trans hv) h) hd
def Kg{x:Str}{v:V}(hg:Gl X x)(hm:X.mg x=some u)(r:RelV v u)(hd:(x == ("__debug__" : Str))=false<|>δ):PE X (.Name x pos) (tC v):=
 λ_ _ _ H _ I h=>wO I hg hm ⟨v,H,I,r,h⟩ hd
def HE{x:Str}{v:V}(hg:Gl X x)(hm:X.mg x=none)(hv:bootBuiltins x=some u)(r:RelV v u)(hn:x ≠ "__name__"<|>δ)(hd:(x == ("__debug__" : Str))=false<|>δ):PE X (.Name x pos) (tC v):=
 λ_ _ _ H _ I h=>uv I hg hm hv ⟨v,H,I,r,h⟩ hn hd
variable {a b:aC}{ta tb:TE}{pos:Pos}
variable {tA tB':TT}{rest:List aC}
abbrev ZZ (t u:TT):TT:=λσ H Q=>t σ H λc H1=>if c=true then u σ H1 Q else Q false H1
abbrev tOr (t u:TT):TT:=λσ H Q=>t σ H λc H1=>if c=true then Q true H1 else u σ H1 Q
abbrev abS (t:TT):TT:=λσ H Q=>t σ H λc H1=>Q (!c) H1
def RP(ha:PT X a tA):PW X (.BoolOp .And [a] pos) tA:=by
 intro f pins s σ H Q I h;refine isTrue_and (nc (ha pins s σ H Q I h) λc d e=>?_)
 cases c with
 | true=>exact isTrue_and_nil e
 | false=>exact e
def W9(ha:PT X a tA):PW X (.BoolOp .Or [a] pos) tA:=by
 intro f pins s σ H Q I h;refine isTrue_or (nc (ha pins s σ H Q I h) λc d e=>?_)
 cases c with
 | false=>exact isTrue_or_nil e
 | true=>exact e
def Xz(ha:PT X a tA)(hb:PW X (.BoolOp .And (b::rest) pos) tB'):PW X (.BoolOp .And (a::b::rest) pos) (ZZ tA tB'):=by
 intro f pins s σ H Q I h;refine isTrue_and (nc (ha pins s σ H _ I h) λc e ⟨H1,I1,d⟩=>?_)
 cases c with
 | true=>exact hb f pins e σ H1 Q I1 d
 | false=>exact⟨H1,I1,d⟩
def Zn(ha:PT X a tA)(hb:PW X (.BoolOp .Or (b::rest) pos) tB'):PW X (.BoolOp .Or (a::b::rest) pos) (tOr tA tB'):=by
 intro f pins s σ H Q I h;refine isTrue_or (nc (ha pins s σ H _ I h) λc e ⟨H1,I1,d⟩=>?_)
 cases c with
 | true=>exact⟨H1,I1,d⟩
 | false=>exact hb f pins e σ H1 Q I1 d
def Wr(ha:PT X a tA):PT X (.UnaryOp .Not a pos) (abS tA):=by
 kt_k;exact isTrue_not<|ha pins s σ H (λc H1=>Q (!c) H1) I h
abbrev Zj (ta tb:TE):TE:=λσ H Q=>ta σ H λx H1=>∃c,x=.bl c/\if c=true then tb σ H1 Q else Q (.bl false) H1
abbrev aai (ta:TE):TE:=λσ H Q=>ta σ H λx H1=>∃c,x=.bl c/\Q (.bl<|!c) H1
def Xx{op}{t:TE}(h:PE X a t):PE X (.BoolOp op [a] pos) t:=λpins s σ H Q I hw=>BoolOp_one<|h pins s σ H Q I hw
def V3(ha:PE X a ta)(hb:PE X (.BoolOp .And (b::rest) pos) tb):PE X (.BoolOp .And (a::b::rest) pos) (Zj ta tb):=by
 kt_k;refine BoolOp_and<|nc (ha pins s σ H _ I h) λv e ⟨x,H1,I1,r1,d⟩=>?_;obtain⟨c,rfl,d⟩:=d
 cases r1
 refine dc ?_
 cases c with
 | true=>exact hb pins e σ H1 Q I1 d
 | false=>exact⟨.bl false,H1,I1,rfl,d⟩
def VX(ha:PE X a ta):PE X (.UnaryOp .Not a pos) (aai ta):=by
 kt_k;refine UnaryOp_<|nc (ha pins s σ H _ I h) λv e ⟨x,H1,I1,r1,d⟩=>?_;obtain⟨c,rfl,d⟩:=d
 cases r1
 exact not_of<|dc ⟨.bl<|!c,H1,I1,rfl,d⟩
abbrev tIf (t:TT)(ta tb:TE):TE:=λσ H Q=>t σ H λc H1=>if c=true then ta σ H1 Q else tb σ H1 Q
def Pe{c:aC}(hc:PT X c tA)(ha:PE X a ta)(hb:PE X b tb):PE X (.IfExp c a b pos) (tIf tA ta tb):=by
 kt_k;refine wpAny_IfExp (nc (hc pins s σ H _ I h) λd e ⟨H1,I1,f⟩=>?_)
 cases d with
 | true=>exact ha pins e σ H1 Q I1 f
 | false=>exact hb pins e σ H1 Q I1 f
end
abbrev pS (K:au)(H:Hp)(a:ak)(xs:List V):Prop:=
 Rd H a (.lst xs) \/
  ∃(o:Obj) (c:Array af) (n:Nat),K.lookup a=some o/\o.cls=.type "list" /\ o.dict=none/\o.data=.seq c n/\c.size<=sizeLine/\Vals xs c.toList
abbrev ow (K:au)(H:Hp)(a:ak)(xs:List V):Prop:=
 Rd H a (.tup xs) \/
  ∃(o:Obj) (c:Array af) (n:Nat),K.lookup a=some o/\o.cls=.type "tuple" /\ o.dict=none/\o.data=.seq c n/\c.size<=sizeLine/\Vals xs c.toList
abbrev acC:af->Option V
 | .none=>some .non
 | .bool b=>some (.bl b)
 | .int i _=>some (.int i)
 | .str x _=>some (.str x)
 | .bytes b _=>some (.byt b)
 | .float b _=>some (.flt b)
 | .ref a=>some (.ref a)
 | .type n=>some (.ty n)
 | _=>none
def RelV.abs{x:V}(r:RelV x u):acC u=some x:=by
 cases x with
 | non=>cases r;rfl
 | bl _=>cases r;rfl
 | int _=>obtain⟨t,rfl⟩:=r;rfl
 | str _=>obtain⟨t,rfl⟩:=r;rfl
 | byt _=>obtain⟨t,rfl⟩:=r;rfl
 | flt _=>obtain⟨t,rfl⟩:=r;rfl
 | ref _=>cases r;rfl
 | ty _=>cases r;rfl
def RelV.inj{x:V}(r:RelV x u)(q:RelV y u):x=y:=aX<|r.abs.symm.trans q.abs
theorem Vals.inj:∀{xs ys:List V}{us:ba},Vals xs us->Vals ys us->xs=ys
 | _,_,_,.nil,.nil=>rfl
 | _,_,_,.cons r t,.cons d c=>by rw[r.inj d,Vals.inj t c]
section
variable {X:Cx}{pins:bo}{σ:St}{H:Hp}{s:aA}{a:ak}{xs ys:List V}
def pS.of{K:au}(h:H a=some (.lst xs)):pS K H a xs:=.inl<|.inl h
def ow.of{K:au}(h:H a=some (.tup xs)):ow K H a xs:=.inl<|.inl h
def Inv.list(I:Inv X pins σ H s)(h:pS X.K H a xs):∃its:ba,Vals xs its/\PlainL s.heap a its.toArray/\xs.length<=sizeLine:=by
 rcases h with h|⟨o,its,n,d,hc,c,hs,f,r⟩
 ·obtain⟨z,its,n,r,e⟩:=h.ok I.hok;exact⟨its,r,⟨_,n,e,rfl,rfl,rfl⟩,z⟩
 ·refine⟨its.toList,r,⟨o,n,I.zA a o d,hc,c,by simpa using hs⟩,?_⟩;have e:=r.length;dsimp[dI]at e
  lia
def Inv.tuple(I:Inv X pins σ H s)(h:ow X.K H a xs):∃its:ba,Vals xs its/\IsTup s.heap a its.toArray/\xs.length<=sizeLine:=by
 rcases h with h|⟨o,its,n,c,hc,_,hs,d,r⟩
 ·obtain⟨z,its,r,p⟩:=h.ok I.hok;exact⟨its,r,p.tup,z⟩
 ·refine⟨its.toList,r,⟨o,I.zA a o c,hc,n,by simpa using hs⟩,?_⟩;have e:=r.length;dsimp[dI]at e
  lia
def Inv.Fx(I:Inv X pins σ H s)(h:pS X.K H a xs)(h':pS X.K H a ys):xs=ys:=by
 obtain⟨f,r,⟨o,n,e,_,_,d⟩,_⟩:=I.list h;obtain⟨c,m,⟨o',p,g,_,_,j⟩,_⟩:=I.list h';rw[e]at g;cases g;rw[d]at j
 injection j with k _
 have:f=c:=by simpa using c7 Array.toList k
 subst this;exact r.inj m
def Inv.xW(I:Inv X pins σ H s)(h:ow X.K H a xs)(h':ow X.K H a ys):xs=ys:=by
 obtain⟨f,r,⟨o,e,_,n,d⟩,_⟩:=I.tuple h;obtain⟨c,m,⟨o',g,_,p,j⟩,_⟩:=I.tuple h';rw[e]at g;cases g;rw[d]at j
 injection j with k _
 have:f=c:=by simpa using c7 Array.toList k
 subst this;exact r.inj m
end
meta abbrev Cx.Bm (X:Cx)(E:af->aA->Prop):Cx:={ X with xe:=E }
meta abbrev Cx.nox (X:Cx):Cx:=X.Bm λ_ _=>False
def Cx.Ok.Bm{X:Cx}(ok:X.Ok)(E:af->aA->Prop):(X.Bm E).Ok:=
 ⟨ok.mod,ok.kind,ok.glob,ok.blt,ok.above,ok.inj,ok.has,ok.cab,ok.hd,ok.frames,ok.stk,ok.exf,ok.bs,ok.bsz,ok.noex,ok.exfs,ok.tO,ok.frf⟩
def Cx.Ok.uM{X:Cx}{E:af->aA->Prop}(ok:(X.Bm E).Ok):X.Ok:=
 ⟨ok.mod,ok.kind,ok.glob,ok.blt,ok.above,ok.inj,ok.has,ok.cab,ok.hd,ok.frames,ok.stk,ok.exf,ok.bs,ok.bsz,ok.noex,ok.exfs,ok.tO,ok.frf⟩
section
variable {X:Cx}{pins:bo}{σ:St}{H:Hp}{s:aA}{E:af->aA->Prop}
def Inv.Bm(I:Inv X pins σ H s)(E:af->aA->Prop):Inv (X.Bm E) pins σ H s:=⟨I.ok.Bm E,I.os,I.bare,I.base,I.loc,I.cell,I.free,I.freeC,I.pin,I.hok,I.len⟩
def Inv.uM(I:Inv (X.Bm E) pins σ H s):Inv X pins σ H s:=⟨I.ok.uM,I.os,I.bare,I.base,I.loc,I.cell,I.free,I.freeC,I.pin,I.hok,I.len⟩
def SP.uM{D:Ends}{f:Flow}(h:SP (X.Bm E) pins D f s'):SP X pins D f s':=by
 cases f with
 | next=>obtain⟨c,H',I,q⟩:=h;exact⟨c,H',I.uM,q⟩
 | brk=>obtain⟨c,H',I,q⟩:=h;exact⟨c,H',I.uM,q⟩
 | cont=>obtain⟨c,H',I,q⟩:=h;exact⟨c,H',I.uM,q⟩
 | ret u=>obtain⟨v,c,H',I,r,q⟩:=h;exact⟨v,c,H',I.uM,r,q⟩
def Bp.nox{st:List aE}{t:TS}(h:Bp X.nox st t):Bp X st t:=λpins s σ H D I hw=>
 cZ (h pins s σ H D (I.Bm _) hw) (λ_ _ q=>q.uM) λ_ _ z=>False.elim z
end
section
variable {X:Cx}{st:aE}{rest:List aE}{t u:TS}{e:aC}{te:TE}{pos:Pos}
abbrev ZC:TS:=λD σ H=>D.nx σ H
abbrev aaX (t u:TS):TS:=λD σ H=>t { D with nx:=u D } σ H
def Uy:Bp X [] ZC:=λ_ _ σ H _ I h=>gu ⟨σ,H,I,h⟩
def PC(h1:PS X st t)(h2:Bp X rest u):Bp X (st::rest) (aaX t u):=by
 kst_p;refine wpAny_execs_cons (nc (h1 pins s σ H { D with nx:=u D } I h) λf e q=>?_)
 cases f with
 | next=>
  obtain⟨c,H',d,q⟩:=q;exact h2 pins e c H' D d q
 | ret v=>exact q
 | brk=>exact q
 | cont=>exact q
def Si(h1:PS X st t):Bp X [st] t:=by
 kst_p;refine wpAny_execs_cons (nc (h1 pins s σ H D I h) λf c q=>?_)
 cases f with
 | next=>exact gu q
 | ret v=>exact q
 | brk=>exact q
 | cont=>exact q
def Inv.quiet{H:Hp}(I:Inv X pins σ H s):interactive X.env=false:=by simp[interactive,I.ok.kind]
abbrev aaD (te:TE):TS:=λD σ H=>te σ H λ_ H1=>D.nx σ H1
def RN(he:PE X e te)(hs:swapsWith e none pos.line X.env=pure false<|>ε):PS X (.Expr e pos) (aaD te):=by
 kst_p;exact wpAny_Expr_any (nc (he pins s σ H _ I h) λv d ⟨x,H1,I1,r1,c⟩=>⟨σ,H1,I1,c⟩) I.quiet hs
abbrev ab1 (te:TE):TS:=λD σ H=>te σ H D.rt
def X4(he:PE X e te):PS X (.Return (some e) pos) (ab1 te):=by
 kst_p;exact wpAny_Return_some<|nc (he pins s σ H _ I h) λv d ⟨x,H1,I1,r1,c⟩=>⟨x,σ,H1,I1,r1,c⟩
abbrev ack (c:TT)(t u:TS):TS:=λD σ H=>c σ H λb H1=>if b=true then t D σ H1 else u D σ H1
def ZI{c:aC}{a:List aE}{tc:TT}(hc:PT X c tc)(ha:Bp X a t)(hb:Bp X b u):PS X (.If c a b pos) (ack tc t u):=by
 kst_p;refine wpAny_If (nc (hc pins s σ H _ I h) λd e ⟨H1,I1,f⟩=>?_)
 cases d with
 | true=>exact ha pins e σ H1 D I1 f
 | false=>exact hb pins e σ H1 D I1 f
end
meta abbrev TG:=V->St->Hp->(St->Hp->Prop)->Prop
meta abbrev U8:=List V->St->Hp->(St->Hp->Prop)->Prop
abbrev PG (X:Cx)(target:aC)(t:TG):Prop:=
 ∀(pins:bo) (s:aA) (σ:St) (H:Hp) (v:V) (u:af) (Q:St->Hp->Prop),Inv X pins σ H s->RelV v u->t v σ H Q ->
  wpAny (model X.prog X.w) X.A (assign target X.env u) (λ_ s'=>∃c H',Inv X pins c H' s'/\Q c H') X.xe s
abbrev Z4 (X:Cx)(ts:List aC)(t:U8):Prop:=
 ∀(pins:bo) (s:aA) (σ:St) (H:Hp) (vs:List V) (us:ba) (Q:St->Hp->Prop),Inv X pins σ H s->Vals vs us->t vs σ H Q ->
  wpAny (model X.prog X.w) X.A (assignInOrder ((assignEach ts X.env).map (·.2)) us) (λ_ s'=>∃c H',Inv X pins c H' s'/\Q c H') X.xe s
meta abbrev Hh:=V->V->V->Hp->(Hp->Prop)->Prop
abbrev F4 (X:Cx)(t:Hh):Prop:=
 ∀(pins:bo) (s:aA) (σ:St) (H:Hp) (o i v:V) (c iv u:af) (Q:Hp->Prop),Inv X pins σ H s->RelV o c->RelV i iv->RelV v u->t o i v H Q ->
  wpAny (model X.prog X.w) X.A (setItem c iv u) (λ_ s'=>∃H',Inv X pins σ H' s'/\Q H') X.xe s
meta abbrev ZE:=V->V->Hp->VK->Prop
abbrev PIp (X:Cx)(op:Operator)(t:ZE):Prop:=
 ∀(pins:bo) (s:aA) (σ:St) (H:Hp) (x y:V) (v u:af) (Q:VK),Inv X pins σ H s->RelV x v->RelV y u->t x y H Q ->
  wpAny (model X.prog X.w) X.A (inplaceOp op v u) (EP X pins σ Q) X.xe s
section
variable {X:Cx}{pos:Pos}
abbrev Jq (i:Nat):TG:=λv σ H Q=>Q (σ.set i<|some v) H
def Dq{i:Nat}{x:Str}(hN:X.N.Nodup)(hi:X.N[i]?=some x)(hx:Loc X.env.scope x)(hf:X.fn x=true\/X.env.scope.names.lookup x=some .local<|>γ):PG X (.Name x pos) (Jq i):=by
 intro pins s σ H v u Q I r h;exact wpAny_assign_Name<|uE I hN hi hx r (λs' c=>⟨_,H,c,h⟩) hf
abbrev abN:U8:=λvs σ H Q=>vs=[]/\Q σ H
abbrev aaG (t:TG)(u:U8):U8:=λvs σ H Q=>∃v r,vs=v::r/\t v σ H λc H'=>u r c H' Q
def Sb:Z4 X [] abN:=by
 intro pins s σ H vs us Q I r h;obtain⟨e,h⟩:=h;subst e
 cases r
 exact assignInOrder_nil ⟨σ,H,I,h⟩
def MF{e:aC}{t:TG}{u:U8}(h1:PG X e t)(h2:Z4 X es u)
  (hs:(assignEach (e::es) X.env).map (·.2)=assign e X.env::(assignEach es X.env).map (·.2)<|>ε):Z4 X (e::es) (aaG t u):=by
 intro pins s σ H vs us Q I r h;obtain⟨v,j,e1,h⟩:=h;subst e1
 cases r with
 | cons r g=>
  rw[hs];refine assignInOrder_cons<|nc (h1 pins s σ H _ _ _ I r h) λ_ f ⟨c,H1,I1,d⟩=>?_;exact h2 pins f c H1 _ _ Q I1 g d
abbrev ab9 (K:au)(n:Nat)(t:U8):TG:=λv σ H Q=>∃a xs,v=.ref a/\ow K H a xs/\xs.length=n/\t xs σ H Q
def Yn{k:Nat}{t:U8}{n:Nat}(hc:X.calm=true)(h:Z4 X es t)
  (hn:(assignEach es X.env).length=n<|>ε) (hst:(assignEach es X.env).findIdx? (·.1)=none<|>ε):PG X (.Tuple es k pos) (ab9 X.K n t):=by
 intro pins s σ H v u Q I r hw;obtain⟨a,xs,e1,g,m,hw⟩:=hw;subst e1
 cases r
 obtain⟨j,c,d,p⟩:=I.tuple g;refine assign_Tuple_tuple (I.ok.hd hc) d (by simp[hn,<- m,c.length]) hst λh' f=>?_;have I1:Inv X pins σ H { s with heap:=h' }:=I.kept (t':=s.toks) λb o e=>f b o (bA<|a_ e) e;exact h pins _ σ H xs _ Q I1 (by simpa using c) hw
abbrev acj (to ti:TE)(t:Hh):TG:=λv σ H Q=>to σ H λo H1=>ti σ H1 λi H2=>t o i v H2 λH3=>Q σ H3
def D6{to ti:TE}{t:Hh}(ho:PE X o to)(hi:PE X i ti)(hs:F4 X t)
  (ha:(∀v,assign (.Subscript o i pos) X.env v=(do
   let ov <- holding [v] (eval o X.env)
   let iv <- holding [v,ov] (eval i X.env)
   standAt pos
   holding [v,ov,iv] (setItem ov iv v)
   release [v,ov,iv] []))<|>ζ):PG X (.Subscript o i pos) (acj to ti t):=by
 intro pins s σ H v u Q I r h;rw[ha];refine aH<|cU<|nc (ho pins s σ H _ I h) λov f ⟨x,H1,I1,r1,c⟩=>?_;refine aH<|cU<|nc (hi pins f σ H1 _ I1 c) λiv k ⟨y,H2,e,r2,d⟩=>?_;refine aH<|i_<|aH<|cU<|nc (hs pins k σ H2 x y v ov iv u _ e r1 r2 r d) λ_ m ⟨H3,j,g⟩=>?_;exact wpAny_release ⟨σ,H3,j,g⟩
abbrev Og (te:TE)(g:TG):TS:=λD σ H=>te σ H λx H1=>g x σ H1 D.nx
def XA{tg e:aC}{te:TE}{g:TG}(he:PE X e te)(hg:PG X tg g)(hs:swapsWithSole [tg] e pos.line X.env=pure false<|>ε)(hw:swappedStores [tg] e X.env=pure none<|>ε)
  (h1:(assignEach [tg] X.env).map (·.2)=[assign tg X.env]<|>ε):PS X (.Assign [tg] e pos) (Og te g):=by
 kst_p;refine wpAny_Assign_stores (nc (he pins s σ H _ I h) λv c ⟨x,H1,I1,r1,d⟩=>?_) hs hw;rw[h1];exact nc (hg pins c σ H1 x v _ I1 r1 d) λ_ f q=>q
def Y4{i:Nat}{x:Str}{e:aC}{te:TE}(hN:X.N.Nodup)(hi:X.N[i]?=some x)(hx:Loc X.env.scope x)(he:PE X e te)(hs:(swapsWith e (some<|.Name x pos') pos.line X.env=pure false)<|>ε)(hf:X.fn x=true\/X.env.scope.names.lookup x=some .local<|>γ) :
  PS X (.Assign [.Name x pos'] e pos) (Og te<|Jq i):=by
 kst_p;refine wpAny_Assign_Name (nc (he pins s σ H _ I h) λv f ⟨y,H1,I1,r1,d⟩=>?_) hs;exact uE I1 hN hi hx r1 (λg c=>⟨_,H1,c,d⟩) hf
abbrev acq (i:Nat)(te:TE)(ti:ZE):TS:=λD σ H=>∃x,σ[i]?=some (some x)/\te σ H λy H1=>ti x y H1 λz H2=>D.nx (σ.set i<|some z) H2
def Yu{i:Nat}{x:Str}{e:aC}{te:TE}{ti:ZE}(hN:X.N.Nodup)(hi:X.N[i]?=some x)(hx:Loc X.env.scope x)(he:PE X e te)(ho:PIp X op ti)(hf:X.fn x=true\/X.env.scope.names.lookup x=some .local<|>γ) :
  PS X (.AugAssign (.Name x pos') op e pos) (acq i te ti):=by
 kst_p;obtain⟨v,e1,h⟩:=h;obtain⟨m,hn,K⟩:=I.loc;have p:Vis X.env.scope x:=by rcases hx with k|k;exact .inl k;exact .inr (.inl k)
 obtain⟨u,r,l⟩:=K i x v hi e1 p;refine wpAny_AugAssign_Name ?_;have q:wpAny (model X.prog X.w) X.A (eval e X.env) (λw j=>wpAny (model X.prog X.w) X.A (inplaceOp op u w) (λr g=>wpAny (model X.prog X.w) X.A (storeName X.env x r) (λ_=>SP X pins D .next) X.xe g) X.xe j) X.xe s:=by
  refine nc (he pins s σ H _ I h) λw G ⟨y,H1,I1,r1,B⟩=>?_;refine nc (ho pins G σ H1 v y u w _ I1 r r1 B) λz O ⟨L,H2,F,r2,C⟩=>?_;exact uE F hN hi hx r2 (λM J=>⟨_,H2,J,C⟩) hf
 rcases l with⟨d,t⟩|⟨d,c,hc,f⟩
 ·exact wpAny_loadName_local I.ok.kind d hn t q
 ·rcases d with d|d
  ·exact wpAny_loadName_cell I.ok.kind d hc f q
  ·rcases hx with k|k
   ·have:X.env.scope.names.lookup x=some .free:=d;rw[k]at this;cases this
   ·have:X.env.scope.names.lookup x=some .free:=d;rw[k]at this;cases this
abbrev ipI (f:Int->Int->Int):ZE:=λx y H Q=>∃i j,x=.int i/\y=.int j/\Q (.int<|f i j) H
def Wf:PIp X .Add (ipI λi j=>i+j):=by
 intro pins s σ H x y v u Q I r1 r2 h;obtain⟨i,j,e1,e2,q⟩:=h;subst e1;subst e2;obtain⟨t,rfl⟩:=r1;obtain⟨c,rfl⟩:=r2;exact iadd_int ⟨.int _,H,I.tok _,⟨_,rfl⟩,q⟩
end
section
variable {X:Cx}{pos:Pos}
abbrev Nq (c:TT)(tb:TS):TS:=λD σ H=>∃W:Nat->St->Hp->Prop,(∃m,W m σ H)/\∀m σ H,W m σ H ->
 c σ H λb H1=>if b=true then ∃N:St->Hp->Prop,(∀d H',N d H'->∃e,e<m/\W e d H')/\tb { D with nx:=N,ct:=N,bk:=D.nx } σ H1 else D.nx σ H1
def MO{c:aC}{tc:TT}{tb:TS}(hp:PassesOwn (model X.prog X.w) X.A X.env X.xe)(hc:PT X c tc)(hb:Bp X body tb):PS X (.While c body [] pos) (Nq tc tb):=by
 kst_p;obtain⟨W,⟨L,J⟩,turn⟩:=h;refine wpAny_While<|codeAny_whileLoop (λn s'=>∃g H',Inv X pins g H' s'/\W n g H') ?_ L ⟨σ,H,I,J⟩;rintro n K ⟨e,H1,I1,G⟩;refine d9 hp (nc (hc pins K e H1 _ I1<|turn n e H1 G) λb M ⟨H2,C,k⟩=>?_)
 cases b with
 | true=>
  obtain⟨N,F,k⟩:=k;rw[aS rfl];refine d9 hp (nc (hb pins M e H2 _ C k) λf O j=>?_)
  cases f with
  | next=>
   obtain⟨d,H3,p,B⟩:=j;obtain⟨t,m,q⟩:=F d H3 B;exact⟨t,m,d,H3,p,q⟩
  | cont=>
   obtain⟨d,H3,p,B⟩:=j;obtain⟨t,m,q⟩:=F d H3 B;exact⟨t,m,d,H3,p,q⟩
  | brk=>exact j
  | ret v=>exact j
 | false=>
  rw[aQ bG];exact gu ⟨e,H2,C,k⟩
end
structure It where
 go:Nat->Hp->Prop
 yld:Nat->Hp->V->Hp->Prop
 stop:Nat->Hp->Prop
abbrev xO (X:Cx)(pins:bo)(H:Hp)(b:ak):Prop:=
 H b=none/\b≠X.env.locals/\b∉X.fs/\(b∈X.ex\/X.s₀.heap.objs.size<=b)/\(∀x c,X.env.cells.lookup x=some c->c≠b)/\∀p∈X.pn++pins,p.1≠b
def Inv.Bk{X:Cx}{H H':Hp}{s:aA}(I:Inv X pins σ H s)(hb:s.heap.objs.size<=b)(hn:H' b=none):xO X pins H' b:=by
 refine⟨hn,iN<|bI I.lt hb,I.acz hb,.inr<|bF I.sz hb,λx c e z=>?_,λp hp z=>?_⟩
 ·obtain⟨v,q⟩:=I.cell x c e;exact absurd (bI q.lt<|by rw[z];exact hb) (dN _)
 ·exact absurd (bI (a_ (I.pin p hp).1)<|by rw[z];exact hb)<|dN _
structure Turn (P:aj)(w:ah)(K:au)(tg:aC)(J:It)(fp:bb)(it:ak)(tn:Nat->aq->Prop):Prop where
 mem:it∈fp
 obj:∀i h,tn i h->∀b∈fp,∃o,h.get? b=some o/\∀v,o.data≠.cell v
 keep:∀i h h',tn i h->(∀b∈fp,∀o,h.get? b=some o->h'.get? b=some o)->tn i h'
 item:∀(X:Cx),X.prog=P->X.w=w->X.K=K->X.calm=true->∀(i:Nat) (pins:bo) (s:aA) (σ:St) (H:Hp) (E:af->aA->Prop),Inv X pins σ H s->(∀b∈fp,xO X pins H b)->tn i s.heap->J.go i H ->
  wpAny (model P w) X.A (pyNext<|.ref it) (λr s1=>∃u,r=some u /\
   wpAny (model P w) X.A (letOwnedTupleGo tg (.ref it) u) (λ_ s2=>∃x H',Inv X pins σ H' s2/\RelV x u/\J.yld i H x H'/\tn (i+1) s2.heap/\∀b∈fp,H' b=none) E s1) E s
 done:∀(X:Cx),X.prog=P->X.w=w->X.K=K->X.calm=true->∀(i:Nat) (pins:bo) (s:aA) (σ:St) (H:Hp) (E:af->aA->Prop),Inv X pins σ H s->(∀b∈fp,xO X pins H b)->tn i s.heap->J.stop i H ->
  wpAny (model P w) X.A (pyNext<|.ref it) (λr s1=>r=none/\Inv X pins σ H s1) E s
 self:∀(A:az) (i:Nat) (s:aA) (Q:af->aA->Prop) (E:af->aA->Prop),tn i s.heap->Q (.ref it) s->wpAny (model P w) A (pyIter<|.ref it) Q E s
meta abbrev TI:=St->Hp->(It->Hp->Prop)->Prop
abbrev PIE (X:Cx)(pins:bo)(σ:St)(tg:aC)(R:It->Hp->Prop)(itv:af)(s2:aA):Prop:=
 ∃(it:ak) (fp:bb) (c:Nat->aq->Prop) (J:It) (H':Hp),itv=.ref it/\Inv X pins σ H' s2/\Turn X.prog X.w X.K tg J fp it c/\c 0 s2.heap/\(∀b∈fp,xO X pins H' b)/\R J H'
abbrev PI (X:Cx)(tg iter:aC)(wi:TI):Prop:=
 ∀(pins:bo) (s:aA) (σ:St) (H:Hp) (R:It->Hp->Prop),Inv X pins σ H s->wi σ H R ->
  wpAny (model X.prog X.w) X.A (eval iter X.env) (λv c=>wpAny (model X.prog X.w) X.A (pyIter v) (PIE X pins σ tg R) X.xe c) X.xe s
def El{A:az}{E:af->aA->Prop}{s:aA}{o:Obj}{n:String}{Q:Unit->aA->Prop}(ho:s.heap.get? it=some o)(hc:o.cls=.type n)(hd:o.data=.fields vs)
  (hn:["enumerate", "zip", "dict_itemiterator", "dict_reverseitemiterator", "odict_iterator", "itertools.zip_longest", "itertools.pairwise"].contains n=false) (hQ:Q Unit.unit s):wpAny M A (letOwnedTupleGo tg (.ref it) u) Q E s:=by
 unfold letOwnedTupleGo
 cases tg<;>first
  | exact aP hQ
  | (cases u<;>first
    | exact aP hQ
    | (refine aH (wpAny_load ho ?_)
       rw[hc,hd];show wpAny M A (if (["enumerate", "zip", "dict_itemiterator", "dict_reverseitemiterator", "odict_iterator", "itertools.zip_longest", "itertools.pairwise"].contains n && vs[0]? == some (rawInt _))=true then _ else _) Q E s;rw[aQ<|by intro h;rw[hn,Bool.false_and]at h;cases h];exact aP hQ))
abbrev Itl (K:au)(a:ak):It:=
 ⟨λi H=>∃xs x,pS K H a xs/\xs[i]?=some x,λi H x H'=>H'=H/\∀xs,pS K H a xs->xs[i]?=some x,λi H=>∃xs,pS K H a xs/\xs.length<=i⟩
abbrev Itt (K:au)(a:ak):It:=
 ⟨λi H=>∃xs x,ow K H a xs/\xs[i]?=some x,λi H x H'=>H'=H/\∀xs,ow K H a xs->xs[i]?=some x,λi H=>∃xs,ow K H a xs/\xs.length<=i⟩
abbrev Y9 (lo:Int)(n:Nat):It:=⟨λi _=>i<n,λi H x H'=>H'=H/\x=.int (lo+i),λi _=>n<=i⟩
def LL{P:aj}{w:ah}{K:au}(a it:ak):Turn P w K tg (Itl K a) [it] it (λi h=>h.IsListIter it a i) where
 mem:=by simp
 obj:=λi h st b f=>by
  have e:b=it:=by simpa using f
  subst e;obtain⟨o,e,c,d⟩:=st;exact⟨o,e,λv z=>by rw[d]at z;cases z⟩
 keep:=λi h h' st k=>st.at λo e=>k it (by simp) o e
 item:=by
  x_go;subst hP hw hK;obtain⟨xs,x,j,m⟩:=hg;obtain⟨t,q,p,C⟩:=I.list j;obtain⟨u,J,G⟩:=q.get m;k_ne;refine wpAny_pyNext_list_item st p.isList (x:=u) (by simpa using J) λh' g B=>?_;have I1:Inv X pins σ H { s with heap:=h' }:=I.turned (t':=s.toks) (λb o f e=>(B.2 b f).trans e) f0 f1 f3 f4 f5;obtain⟨o,e,c,d⟩:=id g;exact⟨u,rfl,El (s:={ s with heap:=h' }) e c d ⋯ ⟨x,H,I1,G,⟨rfl,λys L=>by rw[I.Fx L j];exact m⟩,g,λb f=>(hf b f).1⟩⟩
 done:=by
  x_go;subst hP hw hK;obtain⟨xs,j,m⟩:=hg;obtain⟨t,q,p,C⟩:=I.list j;k_ne;have M:=q.length;exact wpAny_pyNext_list_end (I.ok.hd hc) st p.isList (by simp;omega) λh' F=>⟨rfl,I.turned (t':=s.toks) (λb o f e=>F b o f e) f0 f1 f3 f4 f5⟩
 self:=λ_ _ _ _ _ st h=>wpAny_pyIter_listiter st h
def Gj{P:aj}{w:ah}{K:au}(a it:ak):Turn P w K tg (Itt K a) [it] it (λi h=>h.IsTupleIter it a i) where
 mem:=by simp
 obj:=λi h st b f=>by
  have e:b=it:=by simpa using f
  subst e;obtain⟨o,e,c,d⟩:=st;exact⟨o,e,λv z=>by rw[d]at z;cases z⟩
 keep:=λi h h' st k=>st.at λo e=>k it (by simp) o e
 item:=by
  x_go;subst hP hw hK;obtain⟨xs,x,m,q⟩:=hg;obtain⟨g,t,p,C⟩:=I.tuple m;obtain⟨u,J,G⟩:=t.get q;k_ne;refine wpAny_pyNext_tuple_item st (show s.heap.IsTuple a g.toArray from p) (x:=u) (by simpa using J) λh' j B=>?_;have I1:Inv X pins σ H { s with heap:=h' }:=I.turned (t':=s.toks) (λb o f e=>(B.2 b f).trans e) f0 f1 f3 f4 f5;obtain⟨o,e,c,d⟩:=id j;exact⟨u,rfl,El (s:={ s with heap:=h' }) e c d ⋯ ⟨x,H,I1,G,⟨rfl,λys L=>by rw[I.xW L m];exact q⟩,j,λb f=>(hf b f).1⟩⟩
 done:=by
  x_go;subst hP hw hK;obtain⟨xs,m,q⟩:=hg;obtain⟨g,t,p,C⟩:=I.tuple m;k_ne;have M:=t.length;exact wpAny_pyNext_tuple_end (I.ok.hd hc) st (show s.heap.IsTuple a g.toArray from p) (by simp;omega) λh' F=>⟨rfl,I.turned (t':=s.toks) (λb o f e=>F b o f e) f0 f1 f3 f4 f5⟩
 self:=λ_ _ _ _ _ st h=>wpAny_pyIter_tupleiter st h
def wk{P:aj}{w:ah}{K:au}(it:ak)(lo:Int)(n:Nat):Turn P w K tg (Y9 lo n) [it] it (λi h=>IsRangeIter h it (lo+(i:Nat) * 1) ((n:Int)-(i:Nat)) 1) where
 mem:=by simp
 obj:=λi h st b c=>by
  have e:b=it:=by simpa using c
  subst e;exact⟨_,st,λv z=>by
   have j:Data.fields _=Data.cell v:=z
   cases j⟩
 keep:=λi h h' st k=>k it (by simp) _ st
 item:=by
  x_go;subst hP hw hK;k_ne;have W:=Walks.range (prog:=X.prog) (w:=X.w) (I.ok.hd hc) it lo 1 n;refine W.item i s _ _ hg st λv h' f hv d g=>?_;obtain⟨t,rfl⟩:=hv;have I1:Inv X pins σ H { s with heap:=h',toks:=f }:=I.turned (λb o c e=>g b o (by simpa using c) e) f0 f1 f3 f4 f5;refine⟨_,rfl,El (s:={ s with heap:=h',toks:=f }) (n := "range_iterator") d rfl rfl ⋯ ⟨.int<|lo+i,H,I1,⟨t,?_⟩,⟨rfl,rfl⟩,d,λb c=>(hf b c).1⟩⟩;rw[mul_one]
 done:=by
  x_go;subst hP hw hK;k_ne;exact wpAny_pyNext_range_end (I.ok.hd hc) st (by have:n<=i:=hg;lia) λh' m=>⟨rfl,I.turned (t':=s.toks) (λb o c e=>m b o c e) f0 f1 f3 f4 f5⟩
 self:=λ_ _ _ _ _ st h=>wpAny_pyIter_rangeiter st h
section
variable {X:Cx}{tg:aC}
abbrev aab (K:au)(tl:TE):TI:=λσ H R=>tl σ H λx H1=>∃a,x=.ref a/\(∃xs,pS K H1 a xs)/\R (Itl K a) H1
abbrev acD (K:au)(tl:TE):TI:=λσ H R=>tl σ H λx H1=>∃a,x=.ref a/\(∃xs,ow K H1 a xs)/\R (Itt K a) H1
def JQ{l:aC}{tl:TE}(hl:PE X l tl):PI X tg l (aab X.K tl):=by
 intro pins s σ H R I h;refine nc (hl pins s σ H _ I h) λv c ⟨x,H1,I1,r1,f⟩=>?_;obtain⟨a,e,⟨xs,g⟩,q⟩:=f;subst e
 cases r1
 obtain⟨j,m,p,k⟩:=I1.list g;refine iX p.isList ?_;refine⟨c.heap.objs.size,[c.heap.objs.size],_,_,H1,rfl,I1.kept (t':=c.toks) λb o e=>aR _ e,LL a _,⟨_,bu _ rfl,rfl,rfl⟩,λb d=>?_,q⟩;have e:b=c.heap.objs.size:=by simpa using d
 subst e;f_are
def QM{l:aC}{tl:TE}(hl:PE X l tl):PI X tg l (acD X.K tl):=by
 intro pins s σ H R I h;refine nc (hl pins s σ H _ I h) λv c ⟨x,H1,I1,r1,g⟩=>?_;obtain⟨a,e,⟨xs,j⟩,q⟩:=g;subst e
 cases r1
 obtain⟨d,m,p,k⟩:=I1.tuple j;refine gA (show c.heap.IsTuple a d.toArray from p) ?_;refine⟨c.heap.objs.size,[c.heap.objs.size],_,_,H1,rfl,I1.kept (t':=c.toks) λb o e=>aR _ e,Gj a _,⟨_,bu _ rfl,rfl,rfl⟩,λb f=>?_,q⟩;have e:b=c.heap.objs.size:=by simpa using f
 subst e;f_are
def Ew{H:Hp}{s:aA}{R:It->Hp->Prop}{E:af->aA->Prop}{lo hi:Int}{t v:Tok}{tk:Nat}(I:Inv X pins σ H s)(h1:-(2 ^ 62)<=lo)(h2:lo<2 ^ 62)(h3:-(2 ^ 62)<=hi)(h4:hi<2 ^ 62)
  (q:R (Y9 lo (hi-lo).toNat) H):wpAny (model X.prog X.w) X.A (pyIter<|.ref s.heap.objs.size) (PIE X pins σ tg R) E { s with heap:=s.heap.push { cls:=.type "range",data:=.fields #[.int lo t,.int hi u,.int 1 v]},toks:=tk }:=by
 refine wpAny_pyIter_range (IsRange.new ..) (small_one h1 h2 h3 h4) ?_;have I1:Inv X pins σ H { s with heap:=s.heap.push { cls:=.type "range",data:=.fields #[.int lo t,.int hi u,.int 1 v]},toks:=tk }:=I.kept λb o e=>aR _ e;refine⟨(s.heap.push { cls:=.type "range",data:=.fields #[.int lo t,.int hi u,.int 1 v]}).objs.size,[(s.heap.push { cls:=.type "range",data:=.fields #[.int lo t,.int hi u,.int 1 v]}).objs.size],_,_,H,rfl,
  I1.kept (t':=tk) λb o e=>aR _ e,wk _ lo (hi-lo).toNat,?_,λb c=>?_,q⟩
 ·have e1:lo+((0:Nat):Int) * 1=lo:=by simp
  have e2:(((hi-lo).toNat:Nat):Int)-((0:Nat):Int)=Builtin.Range.rangeSize lo hi 1:=by rw[rangeSize_one];split<;>lia
  skip
  rw[e1,e2];exact bu _ rfl
 ·have e:b=(s.heap.push { cls:=.type "range",data:=.fields #[.int lo t,.int hi u,.int 1 v]}).objs.size:=by simpa using c
  subst e;f_are
abbrev qk (ta:TA):TI:=λσ H R=>ta σ H λvs H1=>∃j:Int,vs=[.int j]/\-(2 ^ 62)<=j/\j<2 ^ 62/\R (Y9 0 j.toNat) H1
abbrev uc (ta:TA):TI:=λσ H R=>ta σ H λvs H1=>∃i j:Int,vs=[.int i,.int j]/\(-(2 ^ 62)<=i/\i<2 ^ 62/\-(2 ^ 62)<=j/\j<2 ^ 62)/\R (Y9 i (j-i).toNat) H1
def LO{a:aC}{ta:TA}{p:Pos}(hg:Gl X "range")(hm:X.mg "range" = none)(ha:PA X [a] ta)(hs:starEach [a] X.env=[(false,eval a X.env)]<|>ε):PI X tg (.Call (.Name "range" p) [a] [] pos) (qk ta):=by
 intro pins s σ H R I h;refine Call_<|uv I hg hm boot_range<|cP (nc (ha pos pins s σ H _ I h) λus g ⟨vs,H1,I1,r1,c⟩=>?_) hs rfl;obtain⟨j,e,c,f,q⟩:=c;subst e
 cases r1 with
 | cons r d=>
  cases d
  obtain⟨t,rfl⟩:=r;exact call_range_1<|Ew I1 () () c f<|by simpa using q
def Lf{a b:aC}{ta:TA}{p:Pos}(hg:Gl X "range")(hm:X.mg "range" = none)(ha:PA X [a,b] ta)(hs:starEach [a,b] X.env=[(false,eval a X.env),(false,eval b X.env)]<|>ε)(hs2:starEach [b] X.env=[(false,eval b X.env)]<|>ε) :
  PI X tg (.Call (.Name "range" p) [a,b] [] pos) (uc ta):=by
 intro pins s σ H R I h;refine Call_ (uv I hg hm boot_range<|cP (nc (ha pos pins s σ H _ I h) λus C ⟨vs,H1,I1,r1,c⟩=>?_) (by rw[hs,hs2])<|by rw[hs2];rfl);obtain⟨i,j,e,⟨c,f,k,g⟩,q⟩:=c;subst e
 cases r1 with
 | cons r d=>
  cases d with
  | cons m d=>
   cases d
   obtain⟨t,rfl⟩:=r;obtain⟨B,rfl⟩:=m;exact call_range_2<|Ew I1 c f k g q
abbrev abM (wi:TI)(g:TG)(tb:TS):TS:=λD σ H=>wi σ H λJ H1=>∃W:Nat->Nat->St->Hp->Prop,(∃m,W 0 m σ H1)/\∀i m σ H,W i m σ H ->
 (J.stop i H/\D.nx σ H)\/(J.go i H/\∃N:St->Hp->Prop,(∀c H',N c H'->∃e,e<m/\W (i+1) e c H')/\∀x H',J.yld i H x H'->g x σ H' λd H2=>tb { D with nx:=N,ct:=N,bk:=D.nx } d H2)
abbrev AD (fp:bb)(h:aq):bo:=fp.filterMap λb=>(h.get? b).map λo=>(b,o)
def pF{fp:bb}{h:aq}{b:ak}(hb:b∈fp)(e:h.get? b=some o):(b,o)∈AD fp h:=gB.mpr ⟨b,hb,by rw[e];rfl⟩
def LF{fp:bb}{h:aq}{p:ak×Obj}(hp:p∈AD fp h):p.1∈fp/\h.get? p.1=some p.2:=by
 obtain⟨b,c,e⟩:=gB.mp hp
 cases q:h.get? b with
 | none=>rw[q]at e;cases e
 | some o=>
  rw[q]at e;have d:(b,o)=p:=aX e;subst d;exact⟨c,q⟩
def Inv.pinned{H:Hp}{s:aA}{fp:bb}(I:Inv X pins σ H s)(hf:∀b∈fp,xO X pins H b)(ho:∀b∈fp,∃o,s.heap.get? b=some o/\∀v,o.data≠.cell v):Inv X (pins++AD fp s.heap) σ H s:=
 I.Je λp hp=>(bE.mp hp).elim (λz=>I.pin p<|bP _ z) λz=>by
  obtain⟨c,e⟩:=LF z;obtain⟨f0,f1,f2,_⟩:=hf p.1 c;obtain⟨o,f,d⟩:=ho p.1 c;rw[e]at f;cases f;exact⟨e,f0,f1,f2,d⟩
def Inv.sM{pl:bo}{H:Hp}(I:Inv X (pins++pl) σ H s):Inv X pins σ H s:=I.Je λp hp=>I.pin p<|bP _<|cJ _ hp
def X5{iter:aC}{wi:TI}{g:TG}{tb:TS}(hp:PassesOwn (model X.prog X.w) X.A X.env X.xe)(hc:X.calm=true)(hi:PI X tg iter wi)(hg:PG X tg g)(hb:Bp X body tb)
  (hs:(∀x,foldedSetIterable iter X.env x=pure x)<|>ζ):PS X (.For tg iter body [] pos) (abM wi g tb):=by
 kst_p;refine wpAny_For (nc (hi pins s σ H _ I h) λv s1 h1=>nc h1 λitv s2 h2=>?_) hs;obtain⟨it,fp,Y,J,H2,e,I2,T,st2,f2,W,⟨m0,w0⟩,turn⟩:=h2;subst e;have p:∀{H':Hp},(∀b∈fp,H' b=none)->∀b∈fp,xO X pins H' b:=λhn b hb=>⟨hn b hb,(f2 b hb).2⟩;refine codeAny_forLoop_any (λn s'=>∃i q H',Inv X pins q H' s'/\Y i s'.heap/\(∀b∈fp,H' b=none)/\W i n q H') ?_ m0 ⟨0,σ,H2,I2,st2,λb hb=>(f2 b hb).1,w0⟩;rintro n s3 ⟨i,t,H3,I3,K,F,w3⟩
 rcases turn i n t H3 w3 with⟨G,qn⟩|⟨go,N,hN,step⟩
 ·refine d9 hp<|nc (T.done X rfl rfl rfl hc i pins s3 t H3 X.xe I3 (p F) K G) λr s4 ⟨M,I4⟩=>?_;subst M;exact gu ⟨t,H3,I4,qn⟩
 ·refine d9 hp<|nc (T.item X rfl rfl rfl hc i pins s3 t H3 X.xe I3 (p F) K go) λr s4 ⟨u,M,h4⟩=>?_;subst M;refine d9 hp<|nc h4 λ_ s5 ⟨x,Z,I5,r5,y5,C,U⟩=>?_;have O:=I5.pinned (p U)<|T.obj _ _ C;refine d9 hp<|nc (hg _ s5 t Z x u _ O r5<|step x Z y5) λ_ s6 ⟨P,H6,I6,q6⟩=>?_;refine d9 hp<|nc (hb _ s6 P H6 _ I6 q6) λf V B=>?_;have again:∀{c:St} {k:Hp},Inv X (pins++AD fp s5.heap) c k V->N c k->∃m,m<n/\∃i q H',Inv X pins q H' V/\Y i V.heap/\(∀b∈fp,H' b=none)/\W i m q H':=λ{c k} j L=>by
   obtain⟨m',hm,w7⟩:=hN c k L;refine⟨m',hm,i+1,c,k,j.sM,T.keep _ _ _ C λb hb o e=>(j.pin (b,o)<|bP _<|bP _<|pF hb e).1,λb hb=>?_,w7⟩;obtain⟨o,e,d⟩:=T.obj _ _ C b hb;exact(j.pin (b,o)<|bP _<|bP _<|pF hb e).2.1
  cases f with
  | next=>obtain⟨c,k,j,L⟩:=B;exact again j L
  | cont=>obtain⟨c,k,j,L⟩:=B;exact again j L
  | brk=>obtain⟨c,k,j,B⟩:=B;exact⟨c,k,j.sM,B⟩
  | ret v=>obtain⟨x7,c,k,j,r7,B⟩:=B;exact⟨x7,c,k,j.sM,r7,B⟩
end
def xh{c:TT}{tb:TS}{D:Ends}{H:Hp}(Pv:St->Hp->Prop)(μ:St->Hp->Nat)(h0:Pv σ H)
  (hs:∀σ H,Pv σ H->c σ H λb H1=>if b=true then tb { D with nx:=λσ' H'=>Pv σ' H'/\μ σ' H'<μ σ H,ct:=λσ' H'=>Pv σ' H'/\μ σ' H'<μ σ H,bk:=D.nx } σ H1 else D.nx σ H1)
  (mono:∀σ H Q Q',(∀b H1,Q b H1->Q' b H1)->c σ H Q->c σ H Q'):Nq c tb D σ H:=by
 refine⟨λm σ H=>m=μ σ H/\Pv σ H,⟨_,rfl,h0⟩,?_⟩;rintro m σ H ⟨rfl,p⟩;refine mono σ H _ _ (λb H1 q=>?_) (hs σ H p)
 cases b with
 | true=>exact⟨_,λσ' H' ⟨d,l⟩=>⟨_,l,rfl,d⟩,q⟩
 | false=>exact q
meta abbrev R2:=V->V->Hp->VK->Prop
abbrev pK (X:Cx)(f:af->af->Sem af)(r:R2):Prop:=
 ∀(pins:bo) (s:aA) (σ:St) (H:Hp) (x y:V) (v u:af) (Q:VK),Inv X pins σ H s->RelV x v->RelV y u->r x y H Q ->
  wpAny (model X.prog X.w) X.A (f v u) (EP X pins σ Q) X.xe s
abbrev UnR (X:Cx)(f:af->Sem af)(r:V->Hp->VK->Prop):Prop:=
 ∀(pins:bo) (s:aA) (σ:St) (H:Hp) (x:V) (v:af) (Q:VK),Inv X pins σ H s->RelV x v->r x H Q ->
  wpAny (model X.prog X.w) X.A (f v) (EP X pins σ Q) X.xe s
abbrev kO (X:Cx)(f:af)(r:List V->Hp->VK->Prop):Prop:=
 ∀(pins:bo) (s:aA) (σ:St) (H:Hp) (xs:List V) (us:ba) (Q:VK),Inv X pins σ H s->Vals xs us->r xs H Q ->
  wpAny (model X.prog X.w) X.A (call f us) (EP X pins σ Q) X.xe s
abbrev acn (X:Cx)(r:V->Hp->(Bool->Hp->Prop)->Prop):Prop:=
 ∀(pins:bo) (s:aA) (σ:St) (H:Hp) (x:V) (v:af) (Q:Bool->Hp->Prop),Inv X pins σ H s->RelV x v->r x H Q ->
  wpAny (model X.prog X.w) X.A (truthy v) (TP X pins σ Q) X.xe s
abbrev ZR (r:R2)(ta tb:TE):TE:=λσ H Q=>ta σ H λx H1=>tb σ H1 λy H2=>r x y H2 Q
abbrev tUn (r:V->Hp->VK->Prop)(ta:TE):TE:=λσ H Q=>ta σ H λx H1=>r x H1 Q
abbrev rI (C:Int->Int->Prop)(g:Int->Int->V):R2:=λx y H Q=>∃i j,x=.int i/\y=.int j/\C i j/\Q (g i j) H
abbrev YM (g:Int->Int->V):R2:=λx y H Q=>∃i j,x=.int i/\y=.int j/\Q (g i j) H
abbrev rU (g:Int->V):V->Hp->VK->Prop:=λx H Q=>∃i,x=.int i/\Q (g i) H
section
variable {X:Cx}{a b:aC}{ta tb:TE}{pos:Pos}
def XG(ha:PE X a ta)(hb:PE X b tb){H:Hp}{R:V->V->Hp->Prop}(I:Inv X pins σ H s)
  (h:ta σ H λx H1=>tb σ H1 λy H2=>R x y H2) {Q:af->aA->Prop} {f:af->af->Sem af}
  (hf:∀v u s2 x y H2,Inv X pins σ H2 s2->RelV x v->RelV y u->R x y H2->wpAny (model X.prog X.w) X.A (f v u) Q X.xe s2) :
  wpAny (model X.prog X.w) X.A (eval a X.env) (λv s₁=>wpAny (model X.prog X.w) X.A (eval b X.env) (λu s₂=>wpAny (model X.prog X.w) X.A (f v u) Q X.xe s₂) X.xe s₁) X.xe s:=by
 refine nc (ha pins s σ H _ I h) λv d ⟨x,H1,I1,r1,e⟩=>?_;refine nc (hb pins d σ H1 _ I1 e) λu s2 ⟨y,H2,c,r2,g⟩=>?_;exact hf v u s2 x y H2 c r1 r2 g
def Zk{r:R2}(ho:pK X (binaryOp op) r)(ha:PE X a ta)(hb:PE X b tb):PE X (.BinOp a op b pos) (ZR r ta tb):=by
 kt_k;exact wpAny_BinOp<|XG ha hb I h λv u d x y H2 c rx ry q=>ho pins d σ H2 x y v u Q c rx ry q
def Zu{r:V->Hp->VK->Prop}(ho:UnR X (unaryOp op) r)(ha:PE X a ta):PE X (.UnaryOp op a pos) (tUn r ta):=by
 kt_k;exact UnaryOp_<|nc (ha pins s σ H _ I h) λv c ⟨x,H1,I1,r1,d⟩=>ho pins c σ H1 x v Q I1 r1 d
def opI{f:af->af->Sem af}{C:Int->Int->Prop}{g:Int->Int->Int}
  (rule:∀(i j:Int) (t u:Tok) (s:aA) (Q:af->aA->Prop) (E:af->aA->Prop),C i j->Q (.int (g i j) s.toks) { s with toks:=s.toks+1 }->wpAny (model X.prog X.w) X.A (f (.int i t)<|.int j u) Q E s) :
  pK X f (rI C λi j=>.int<|g i j):=by
 gn_on;obtain⟨i,j,rfl,rfl,hc,q⟩:=h;obtain⟨t,rfl⟩:=rx;obtain⟨c,rfl⟩:=ry;exact rule i j t c s _ _ hc ⟨.int<|g i j,H,I.tok _,⟨_,rfl⟩,q⟩
def aaJ{f:af->af->Sem af}{g:Int->Int->Int}
  (rule:∀(i j:Int) (t u:Tok) (s:aA) (Q:af->aA->Prop) (E:af->aA->Prop),Q (.int (g i j) s.toks) { s with toks:=s.toks+1 }->wpAny (model X.prog X.w) X.A (f (.int i t)<|.int j u) Q E s) :
  pK X f (YM λi j=>.int<|g i j):=by
 gn_on;obtain⟨i,j,rfl,rfl,q⟩:=h;obtain⟨t,rfl⟩:=rx;obtain⟨c,rfl⟩:=ry;exact rule i j t c s _ _ ⟨.int<|g i j,H,I.tok _,⟨_,rfl⟩,q⟩
def XU{f:af->af->Sem af}{g:Int->Int->Bool}
  (rule:∀(i j:Int) (t u:Tok) (s:aA) (Q:af->aA->Prop) (E:af->aA->Prop),Q (.bool<|g i j) s->wpAny (model X.prog X.w) X.A (f (.int i t)<|.int j u) Q E s) :
  pK X f (YM λi j=>.bl<|g i j):=by
 gn_on;obtain⟨i,j,rfl,rfl,q⟩:=h;obtain⟨t,rfl⟩:=rx;obtain⟨c,rfl⟩:=ry;exact rule i j t c s _ _ ⟨.bl<|g i j,H,I,rfl,q⟩
abbrev abI (i j:Int):Prop:=0<=j/\j<=1000000/\i.natAbs<2 ^ 64
abbrev SM (i j:Int):Prop:=(-(2 ^ 64)<i/\i<2 ^ 64)\/(-(2 ^ 64)<j/\j<2 ^ 64)
def SM.ok{i j:Int}(h:SM i j):IntMulOk i j:=by
 rcases h with⟨h1,h2⟩|⟨h1,h2⟩
 ·exact .of_left (intBits_le_64 h1 h2)
 ·exact .of_right<|intBits_le_64 h1 h2
def V9:pK X (binaryOp .Add) (YM λi j=>.int<|i+j):=aaJ λ_ _ _ _ _ _ _ q=>add_int q
def Wi:pK X (binaryOp .Sub) (YM λi j=>.int<|i-j):=aaJ λ_ _ _ _ _ _ _ q=>sub_int q
def Yq:pK X (binaryOp .Mult) (rI SM λi j=>.int<|i * j):=opI λ_ _ _ _ _ _ _ hc q=>mul_int q hc.ok
def Wx:pK X (binaryOp .Mod) (rI (λ_ j=>0<j) λi j=>.int<|i % j):=opI λi j _ _ _ _ _ hc q=>by
 have h1:(0:Int)<j:=hc;exact mod_int' ()<|by rw[Int.fmod_eq_emod_of_nonneg i ()];exact q
def V5:pK X (binaryOp .Pow) (rI abI λi j=>.int<|i ^ j.toNat):=opI λ_ _ _ _ _ _ _ hc q=>pow_int_small hc.1 hc.2.1 hc.2.2 q
def unI{f:af->Sem af}{g:Int->Int}
  (rule:∀(i:Int) (t:Tok) (s:aA) (Q:af->aA->Prop) (E:af->aA->Prop),Q (.int (g i) s.toks) { s with toks:=s.toks+1 }->wpAny (model X.prog X.w) X.A (f<|.int i t) Q E s) :
  UnR X f (rU λi=>.int<|g i):=by
 intro pins s σ H x v Q I rx h;obtain⟨i,rfl,q⟩:=h;obtain⟨t,rfl⟩:=rx;exact rule i t s _ _ ⟨.int<|g i,H,I.tok _,⟨_,rfl⟩,q⟩
def YC:UnR X (unaryOp .USub) (rU λi=>.int<|-i):=unI λ_ _ _ _ _ q=>neg_int q
end
abbrev Xg:V->V->Bool
 | .non,.non=>true | .non,.int _=>true | .int _,.non=>true | .non,.bl _=>true | .bl _,.non=>true | .non,.str _=>true | .str _,.non=>true
 | .int _,.int _=>true | .bl _,.bl _=>true | .str _,.str _=>true | .byt _,.byt _=>true
 | .int _,.str _=>true | .str _,.int _=>true | .bl _,.str _=>true | .str _,.bl _=>true
 | _,_=>false
section
variable {X:Cx}{a b c:aC}{ta tb tc:TE}{pos:Pos}
def Y5{H:Hp}{Q:VK}{k:Bool}(I:Inv X pins σ H s)(q:Q (.bl k) H)(e:k=k'):EP X pins σ Q (.bool k') s:=by
 subst e;exact⟨.bl k,H,I,rfl,q⟩
def ZJ:pK X (compareOp .Lt) (YM λi j=>.bl<|decide<|i<j):=XU λ_ _ _ _ _ _ _ q=>lt_int q
def ZK:pK X (compareOp .LtE) (YM λi j=>.bl<|decide<|i<=j):=XU λ_ _ _ _ _ _ _ q=>le_int q
def aaw:pK X (compareOp .Gt) (YM λi j=>.bl<|decide<|j<i):=XU λ_ _ _ _ _ _ _ q=>gt_int q
def Rr:pK X (compareOp .IsNot) (λx y H Q=>y=.non/\Q (.bl<|!decide (x=.non)) H):=by
 gn_on;obtain⟨rfl,q⟩:=h
 cases ry
 refine isnot_none_gen (Y5 I q ?_)
 cases x<;>first
  | (cases rx;rfl)
  | (obtain⟨t,rfl⟩:=rx;rfl)
def NQ(b:aC)(h:op≠.In<|>δ)(h2:op≠.NotIn<|>δ):behindInMarks op b=false:=by
 have e1:(op == CmpOp.In)=false:=by cases op<;>first|rfl|exact absurd rfl h
 have e2:(op == CmpOp.NotIn)=false:=by cases op<;>first|rfl|exact absurd rfl h2
 cases b<;>simp[behindInMarks,e1,e2]
def Tr{op:CmpOp}{r:R2}(ho:pK X (compareOp op) r)(ha:PE X a ta)(hb:PE X b tb)(hm:behindInMarks op b=false):PE X (.Compare a [op] [b] pos) (ZR r ta tb):=by
 kt_k;exact wpAny_Compare1 (XG ha hb I h λv u d x y H2 c rx ry q=>ho pins d σ H2 x y v u Q c rx ry q) hm
abbrev aaZ (t:TE):TT:=λσ H Q=>t σ H λx H'=>∃k,x=.bl k/\Q k H'
def UG{op:CmpOp}{r:R2}(ho:pK X (compareOp op) r)(ha:PE X a ta)(hb:PE X b tb)(hm:behindInMarks op b=false):PT X (.Compare a [op] [b] pos) (aaZ<|ZR r ta tb):=by
 kt_k;refine wpAny_isTrue_Compare1 (nc (ha pins s σ H _ I h) λv j ⟨x,H1,I1,r1,d⟩=>nc (hb pins j σ H1 _ I1 d) λu t ⟨y,H2,g,r2,f⟩=>
  nc (ho pins t σ H2 x y v u _ g r1 r2 f) λc B ⟨z,H3,q,m,k,e,p⟩=>?_) hm
 subst e
 cases m
 exact dc ⟨H3,q,p⟩
abbrev MG (r r':R2)(ta tb tc:TE):TE:=λσ H Q=>ta σ H λx H1=>tb σ H1 λy H2=>r x y H2 λz H3=>∃k,z=.bl k /\
 (if k=true then tc σ H3 λd c=>r' y d c Q else Q (.bl false) H3)
def Ob{r r':R2}(ho:pK X (compareOp op) r)(ho':pK X (compareOp op') r')(ha:PE X a ta)(hb:PE X b tb)(hc:PE X c tc)
  (hm:lastMarks [op,op'] [b,c]=false<|>η):PE X (.Compare a [op,op'] [b,c] pos) (MG r r' ta tb tc):=by
 kt_k;refine Compare_chain (nc (ha pins s σ H _ I h) λv B ⟨x,H1,I1,r1,p⟩=>chain_link (nc (hb pins B σ H1 _ I1 p) λu N ⟨y,H2,t,r2,q⟩=>
  nc (ho pins N σ H2 x y v u _ t r1 r2 q) λd M ⟨z,H3,g,G,k,e,f⟩=>?_)) hm
 subst e
 cases G
 refine dc ?_
 cases k with
 | false=>exact ite_ff ⟨.bl false,H3,g,rfl,f⟩
 | true=>exact ite_tt<|chain_last<|nc (hc pins M σ H3 _ g f) λL C ⟨K,j,m,J,F⟩=>ho' pins C σ j y K u L Q m r2 J F
abbrev XC (K:au)(x:V)(H:Hp)(k:Bool):Prop:=
 match x with
 | .non=>k=false
 | .bl b=>k=b
 | .int i=>k=(i != 0)
 | .str y=>y.length<=sizeLine/\k=((y.length:Int) != 0)
 | .byt y=>y.size<=sizeLine/\k=((y.size:Int) != 0)
 | .ref p=>(∃xs,pS K H p xs/\k=!xs.isEmpty)\/(∃xs,ow K H p xs/\k=!xs.isEmpty)\/∃c,H p=some (.dK c)/\k=!c.isEmpty
 | _=>False
def GR{κ:Type}{kvs:List<|κ×V}{vs:List<|κ×af}(r:KV kvs vs):(!vs.isEmpty)=!kvs.isEmpty:=by
 cases r<;>rfl
def Au{xs:List V}{its:ba}(r:Vals xs its):(!its.toArray.isEmpty)=!xs.isEmpty:=by
 cases r<;>simp
def uS:(sizeLine:Nat)<2 ^ 63:=by rw[er];decide
def Xe:acn X (λx H Q=>∃k,XC X.K x H k/\Q k H):=by
 intro pins s σ H x v Q I rx h;obtain⟨k,e,q⟩:=h;have F:=uS;have hs:sizeLine=16777216:=er
 cases x with
 | non=>
  cases rx
  have c:k=false:=e;subst c;exact truthy_none ⟨H,I,q⟩
 | bl b=>
  cases rx
  have c:k=b:=e;subst c;exact dc ⟨H,I,q⟩
 | int i=>
  obtain⟨t,rfl⟩:=rx;have c:k=(i != 0):=e;subst c;exact PySem.P.truthy_int ⟨H,I,q⟩
 | str y=>
  obtain⟨t,rfl⟩:=rx;obtain⟨C,c⟩:y.length<=sizeLine/\k=((y.length:Int) != 0):=e;subst c;exact PySem.P.truthy_str () ⟨H,I.tok _,q⟩
 | byt y=>
  obtain⟨t,rfl⟩:=rx;obtain⟨C,c⟩:y.size<=sizeLine/\k=((y.size:Int) != 0):=e;subst c;exact PySem.W.truthy_bytes () ⟨H,I.tok _,q⟩
 | ref p=>
  cases rx
  have c:(∃xs,pS X.K H p xs/\k=!xs.isEmpty)\/(∃xs,ow X.K H p xs/\k=!xs.isEmpty)\/∃d,H p=some (.dK d)/\k=!d.isEmpty:=e
  rcases c with⟨xs,g,c⟩|⟨xs,g,c⟩|⟨d,g,c⟩
  ·subst c;obtain⟨j,r,pl,B⟩:=I.list g;have f:=r.length;exact wpAny_truthy_list pl.isList (by dsimp[aZ];lia) ⟨H,I.tok _,by rw[Au r];exact q⟩
  ·subst c;obtain⟨j,r,pl,B⟩:=I.tuple g;have f:=r.length;exact truthy_tuple pl (by dsimp[aZ];lia) ⟨H,I.tok _,by rw[Au r];exact q⟩
  ·subst c;obtain⟨B,hS,vs,r,m⟩:d.length<=sizeLine/\(p == sysModules)=false/\∃vs,KV d vs/\s.heap.DictOf (kL X.prog X.w) p vs:=I.hok p _ g;have f:d.length=vs.length:=i9 r;exact wpAny_truthy_dict hS m () ⟨H,I.tok _,by rw[GR r];exact q⟩
 | _=>exact(show False from e).elim
def QS(ha:PE X a ta)(he:∀whole,isTrue a X.env whole=(do let v <- whole;standAt a.pos;holding [v] (truthy v))) :
  PT X a (λσ H Q=>ta σ H λx H'=>∃k,XC X.K x H' k/\Q k H'):=by
 kt_k;exact isTrue_plain (nc (ha pins s σ H _ I h) λv c ⟨x,H1,I1,r1,d⟩=>Xe pins c σ H1 x v Q I1 r1 d)<|he _
def GJ:pK X (binaryOp .Add) (λx y H Q=>∃i j,x=.str i/\y=.str j/\i.length+j.length<=sizeLine/\Q (.str<|i++j) H):=by
 gn_on;obtain⟨i,j,rfl,rfl,c,q⟩:=h;obtain⟨t,rfl⟩:=rx;obtain⟨d,rfl⟩:=ry;exact add_str (λd e=>⟨.str<|i++j,H,I.tok _,⟨_,rfl⟩,q⟩) c
def vals1{x:V}(r:Vals [x] us):∃u,us=[u]/\RelV x u:=by
 cases r with
 | cons r1 r2=>cases r2;exact⟨_,rfl,r1⟩
def vals2{x:V}(r:Vals [x,y] us):∃u w',us=[u,w']/\RelV x u/\RelV y w':=by
 cases r with
 | cons r1 r2=>
  cases r2 with
  | cons c d=>cases d;exact⟨_,_,rfl,r1,c⟩
def PK:kO X (.builtin "abs") (λxs H Q=>∃i,xs=[.int i]/\Q (.int<|if i<0 then -i else i) H):=by
 gp_on;obtain⟨i,rfl,q⟩:=h;obtain⟨u,rfl,t,rfl⟩:=vals1 r;exact call_abs_int λu c=>⟨.int<|if i<0 then -i else i,H,I.tok _,⟨_,rfl⟩,q⟩
abbrev aci (K:au)(x:V)(H:Hp)(n:Nat):Prop:=
 match x with
 | .str y=>y.length<=sizeLine/\n=y.length
 | .byt y=>y.size<=sizeLine/\n=y.size
 | .ref p=>(∃xs,pS K H p xs/\n=xs.length)\/∃xs,ow K H p xs/\n=xs.length
 | _=>False
def NJ:kO X (.builtin "len") (λxs H Q=>∃x n,xs=[x]/\aci X.K x H n/\Q (.int n) H):=by
 gp_on;obtain⟨x,n,rfl,e,q⟩:=h;cb_eq;have B:=uS;have hs:sizeLine=16777216:=er
 cases x with
 | str y=>
  obtain⟨t,rfl⟩:=rx;obtain⟨m,d⟩:y.length<=sizeLine/\n=y.length:=e;subst d;exact len_str () ⟨.int _,H,I.tok _,⟨_,rfl⟩,q⟩
 | byt y=>
  obtain⟨t,rfl⟩:=rx;obtain⟨m,d⟩:y.size<=sizeLine/\n=y.size:=e;subst d;exact PySem.W.len_bytes () ⟨.int _,H,I.tok _,⟨_,rfl⟩,q⟩
 | ref p=>
  cases rx
  have d:(∃xs,pS X.K H p xs/\n=xs.length)\/∃xs,ow X.K H p xs/\n=xs.length:=e
  rcases d with⟨xs,f,d⟩|⟨xs,f,d⟩
  ·subst d;obtain⟨j,g,pl,k⟩:=I.list f;have c:=g.length;exact Calls.call_len_list pl.isList (by dsimp[aZ];lia) ⟨.int xs.length,H,I.tok _,⟨_,by dsimp[aZ];rw[c]⟩,q⟩
  ·subst d;obtain⟨j,g,pl,k⟩:=I.tuple f;have c:=g.length;exact len_tuple pl (by dsimp[aZ];lia) ⟨.int xs.length,H,I.tok _,⟨_,by dsimp[aZ];rw[c]⟩,q⟩
 | _=>exact(show False from e).elim
end
structure ObjM (h:aq)(x dx C:ak)(mA:Str->bd):Prop where
 obj:h.get? x=some (PySem.W.instObj C dx)
 ns:h.Ns1 dx mA
 ne:dx≠x
def KR{h:aq}{mA:Str->bd}(n:h.Ns1 dx mA):∃od,h.get? dx=some od/\∀name,PySem.W.lookIn name od=some (mA name):=by
 obtain⟨o,es,ep,g,f,j,_,k⟩:=n;refine⟨o,g,λname=>?_⟩;have e:=k name;unfold nsFind findBy at e;rw[<- Array.find?_toList]at e;unfold PySem.W.lookIn;rw[f];dsimp only;split
 ·rename_i y q;rw[q]at e;exact c7 some e
 ·rename_i q;rw[q]at e;have a:es.toList.any (·.refKey)=false:=by
   rw[List.any_eq_false];intro y m;obtain⟨z,t,c⟩:=j y<|Array.mem_toList_iff.mp m;simp[DictEntry.refKey,c]
  have d:¬es.toList.any (·.refKey)=true:=by rw[a];exact bG
  rw[aQ d];exact c7 some e
def ObjM.look{x:ak}{mA:Str->bd}(I:ObjM h x dx C mA):∃od,PySem.W.InstAt h x (PySem.W.instObj C dx) C (some od)/\∀name,PySem.W.lookIn name od=some (mA name):=
 let⟨od,ho,hl⟩:=KR I.ns
 ⟨od,⟨I.obj,rfl,rfl,ho⟩,hl⟩
def xY.some_of{v:V}(r:xY (some v) o):∃u,o=some u/\RelV v u:=by
 cases o with
 | none=>exact(show False from r).elim
 | some u=>exact⟨u,rfl,r⟩
section
variable {P:aj}{w:ah}{H:Hp}{h:aq}{a C dx:ak}{fs:List (Str×V)}
def SS(hok:vL P w H h)(e:H a=some (.ins C dx fs)):∃mA,ObjM h a dx C mA/\(∀f,xY (fs.lookup f)<|mA f)/\PySem.Within mA (fs.map (·.1))/\fs.length<=1000/\H dx=some (.own a):=by
 obtain⟨d,z,ne,c,mA,n,r,q⟩:=(show kW P w H h a (.ins C dx fs)from hok a _ e);exact⟨mA,⟨c,n,ne⟩,r,q,z,d⟩
end
structure Cls (K:au)(C:ak):Prop where
 pg:PySem.W.plainGet K C Str.empty=true
 hd:PySem.W.hasDictIn K C=true
 po:PySem.W.plainOver K C=true
 sa:PySem.W.findIn K (.ref C) "__setattr__" = some (some<|.builtin "object.__setattr__")
def Cls.get{K:au}(c:Cls K C)(f:Str):PySem.W.plainGet K C f=true:=c.pg
structure Con (K:au)(C:ak)(f:Str)(v:V)(u:af):Prop where
 at_:PySem.W.findIn K (.ref C) f=some (some u)
 rel:RelV v u
 get:PySem.W.specialIn K u "__get__" = some none
 cp:PySem.W.copiedNames.contains f=false
structure Meth (K:au)(C:ak)(m:Str)(f:ak):Prop where
 at_:PySem.W.findIn K (.ref C) m=some (some<|.ref f)
 fn:PySem.W.isFn K (.ref f)=true
 kp:PySem.W.keepIn K (.ref f)=true
section
variable {X:Cx}{pins:bo}{σ:St}{H:Hp}{s:aA}{A:az}{E:af->aA->Prop}{Q:af->aA->Prop}{c:af}{b:Bool}
inductive TyOf (K:au) (H:Hp):V->af->Prop where
 | non:TyOf K H .non (.type "NoneType")
 | bl (x:Bool):TyOf K H (.bl x) (.type "bool")
 | int (i:Int):TyOf K H (.int i) (.type "int")
 | str (x:Str):TyOf K H (.str x) (.type "str")
 | flt (x:UInt64):TyOf K H (.flt x) (.type "float")
 | lst {a:ak} {xs:List V} (e:H a=some (.lst xs)):TyOf K H (.ref a) (.type "list")
 | frz {a:ak} {o:Obj} {xs:List V} (e:H a=some (.frz o<|.lst xs)):TyOf K H (.ref a) (.type "list")
 | tup {a:ak} {xs:List V} (e:H a=some (.tup xs)):TyOf K H (.ref a) (.type "tuple")
 | dK {a:ak} {kvs:List<|Key×V} (e:H a=some (.dK kvs)):TyOf K H (.ref a) (.type "dict")
 | dT {a:ak} {kvs:List<|List Key×V} (e:H a=some (.dT kvs)):TyOf K H (.ref a) (.type "dict")
 | ins {a C dx:ak} {fs:List<|Str×V} (e:H a=some (.ins C dx fs)) (cl:Cls K C) (ha:PySem.W.findIn K (.ref C) "__class__" = some (some<|.builtin "object.__class__"))
   (hn:PySem.W.specialIn K (.builtin "object.__class__") "__get__" = some (some<|.builtin "getset_descriptor.__get__")) (htk:PySem.W.takesIn K (.builtin "object.__class__")=some true)
   (hm:PySem.W.mroIn K C (.type "object")=some true):TyOf K H (.ref a)<|.ref C
def Lm{x:V}{t:af}(I:Inv X pins σ H s)(rx:RelV x u)(ty:TyOf X.K H x t)(e:PySem.W.kitOne X.K t c=some b)(h:∀tk,Q (.bool b) { s with toks:=tk }) :
  wpAny (model X.prog X.w) A (call (.builtin "isinstance") [u,c]) Q E s:=by
 cases ty with
 | non=>cases(show u=Value.none from rx);exact cE PySem.W.kitx_none I.zA True.intro e (λz=>nomatch z) h
 | bl y=>cases(show u=Value.bool y from rx);exact cE PySem.W.kitx_bool I.zA True.intro e (λz=>nomatch z) h
 | int i=>obtain⟨t,q⟩:=(show ∃t,u=Value.int i t from rx);cases q;exact cE PySem.W.kitx_int I.zA True.intro e (λz=>nomatch z) h
 | str y=>obtain⟨t,q⟩:=(show ∃t,u=Value.str y t from rx);cases q;exact cE PySem.W.kitx_str I.zA True.intro e (λz=>nomatch z) h
 | flt y=>obtain⟨t,q⟩:=(show ∃t,u=Value.float y t from rx);cases q;exact cE PySem.W.kitx_float I.zA True.intro e (λz=>nomatch z) h
 | @lst a xs d=>
  cases(show u=Value.ref a from rx)
  obtain⟨_,_,n,_,h1⟩:=(show kW X.prog X.w H s.heap a (.lst xs)from I.hok a _ d);exact cE PySem.W.kitx_list I.zA ⟨_,h1,rfl⟩ e (λz=>nomatch z) h
 | @frz a k xs d=>
  cases(show u=Value.ref a from rx)
  obtain⟨_,_,_,n,_,h1⟩:=(show kW X.prog X.w H s.heap a (.frz k<|.lst xs)from I.hok a _ d);exact cE PySem.W.kitx_list I.zA ⟨_,h1,rfl⟩ e (λz=>nomatch z) h
 | @tup a xs d=>
  cases(show u=Value.ref a from rx)
  obtain⟨_,_,_,p⟩:=(show kW X.prog X.w H s.heap a (.tup xs)from I.hok a _ d);obtain⟨o,h1,h2,_⟩:=p;exact cE PySem.W.kitx_tuple I.zA ⟨o,h1,h2⟩ e (λz=>nomatch z) h
 | @dK a f d=>
  cases(show u=Value.ref a from rx)
  obtain⟨_,_,vs,_,p⟩:=(show kW X.prog X.w H s.heap a (.dK f)from I.hok a _ d);obtain⟨o,es,ep,h1,h2,_⟩:=p;exact cE PySem.W.kitx_dict I.zA ⟨o,h1,h2.1⟩ e (λz=>nomatch z) h
 | @dT a f d=>
  cases(show u=Value.ref a from rx)
  obtain⟨_,_,xs,_,o,es,ep,h1,h2,_⟩:=(show kW X.prog X.w H s.heap a (.dT f)from I.hok a _ d);exact cE PySem.W.kitx_dict I.zA ⟨o,h1,h2.1⟩ e (λz=>nomatch z) h
 | @ins a C dx fs d j m hn g B=>
  cases(show u=Value.ref a from rx)
  obtain⟨F,O,_⟩:=SS I.hok d;obtain⟨G,J,_⟩:=O.look;exact cE (PySem.W.kitx_own (j.get _) j.hd m hn g B) I.zA J e (λz=>nomatch z) h
end
structure Room (k:Nat)(A:az):Prop where
 hd:A.handled=none
 dp:A.depth+3 * k+5<recursionLimit
 un:A.units+16 * k+200<cLine
 gs:A.guards=some []
def Room.mono{k:Nat}{A:az}(r:Room k A)(h:j<=k):Room j A:=⟨r.hd,by have:=r.dp;lia,by have:=r.un;lia,r.gs⟩
def Room.deeper{k:Nat}{A:az}(r:Room (k+1) A)(env:Env):Room k (A.deeper env):=
 ⟨r.hd,by have:=r.dp;show A.depth+1+3 * k+5<_;lia,by have:=r.un;show A.units+3+16 * k+200<_;lia,r.gs⟩
def Room.depth{k:Nat}{A:az}(r:Room k A):A.depth<recursionLimit:=by have:=r.dp;lia
def Room.units{k:Nat}{A:az}(r:Room k A):A.units+64<cLine:=by have:=r.un;lia
abbrev acf:TA:=λ_ H Q=>Q [] H
abbrev aaj (ta:TE)(tr:TA):TA:=λσ H Q=>ta σ H λx H1=>tr σ H1 λxs H2=>Q (x::xs) H2
section
variable {X:Cx}{e:aC}{es:List aC}{te:TE}{t:TA}{pos:Pos}
def s_:PA X [] acf:=λ_ _ _ _ H Q I h=>Calls.spliced_nil ⟨[],H,I,.nil,h⟩
def oB(ha:PE X e te)(hr:PA X es t)(hs:starEach (e::es) X.env=(false,eval e X.env)::starEach es X.env<|>ε):PA X (e::es) (aaj te t):=by
 intro pos pins s σ H Q I h;rw[hs]
 skip
 refine Calls.spliced_cons<|nc (ha pins s σ H _ I h) λu g ⟨x,H1,I1,r1,c⟩=>?_;exact nc (hr pos pins g σ H1 _ I1 c) λus j ⟨xs,H2,f,r2,d⟩=>⟨x::xs,H2,f,.cons r1 r2,d⟩
abbrev ab0 (t:TA):TE:=λσ H Q=>t σ H λxs H1=>xs.length<=sizeLine/\∀p,H1 p=none->Q (.ref p) (upd H1 p<|.tup xs)
abbrev ab5 (t:TA):TE:=λσ H Q=>t σ H λxs H1=>xs.length<=sizeLine/\∀p,H1 p=none->Q (.ref p) (upd H1 p<|.lst xs)
def X9{x1}(h:PA X es t):PE X (.Tuple es x1 pos) (ab0 t):=by
 intro pins s σ H Q I d;refine wpAny_Tuple_spliced (nc (h pos pins s σ H _ I d) λus c ⟨xs,H1,I1,r,z,q⟩=>⟨by rw[<- r.length];exact z,?_⟩);have hf:H1 c.heap.objs.size=none:=I1.hok.fresh<|aL _;refine⟨.ref c.heap.objs.size,upd H1 c.heap.objs.size<|.tup xs,I1.laid (t':=c.toks) (λb u e=>aR _ e) (aL _) ?_,rfl,q _ hf⟩;exact⟨z,us,r,⟨_,bu _ rfl,rfl,rfl,_,rfl⟩⟩
def Y7(h:PA X es t):PE X (.List es pos) (ab5 t):=by
 intro pins s σ H Q I d;refine wpAny_List_spliced (nc (h pos pins s σ H _ I d) λus c ⟨xs,H1,I1,r,z,q⟩=>⟨by rw[<- r.length];exact z,?_⟩);have hf:H1 c.heap.objs.size=none:=I1.hok.fresh<|aL _;refine⟨.ref c.heap.objs.size,upd H1 c.heap.objs.size<|.lst xs,I1.laid (t':=c.toks) (λb u e=>aR _ e) (aL _) ?_,rfl,q _ hf⟩;exact⟨z,us,0,r,bu _ rfl⟩
end
meta abbrev Sp:=List V->Hp->VK->XK->Prop
meta abbrev PN:=List Env->Hp->aA->XK->af->aA->Prop
structure Env0 (P:aj)(w:ah)(K:au)(mg:Str->bd)(base:aq)(A:az)(outer:List Env)(s:aA)(H:Hp):Prop where
 frames:A.frames=some outer
 mod:Mod K mg base
 bs:∀b o,base.get? b=some o->s.heap.get? b=some o/\H b=none
 bsz:base.objs.size<=s.heap.objs.size
 tO:s.heap.FunFrames base outer
 frf:∀b∈frs outer,H b=none
 hok:vL P w H s.heap
 bare:AllBare s.gens
abbrev CE (outer:List Env)(P:aj)(w:ah)(H:Hp)(s:aA)(Q:VK)(u:af)(s':aA):Prop:=
 ∃v H',s'.os=s.os/\AllBare s'.gens/\Un (frs outer) [] H H' s.heap s'.heap/\vL P w H' s'.heap/\RelV v u/\Q v H'
abbrev CR (CX:PN)(outer:List Env)(P:aj)(w:ah)(H:Hp)(s:aA)(Q:VK)(E:XK)(r:Result)(s':aA):Prop:=
 match r with
 | .ok (.ret u)=>CE outer P w H s Q u s'
 | .ok _=>False
 | .error e=>CX outer H s E e s'
structure FnOk (P:aj)(w:ah)(K:au)(mg:Str->bd)(base:aq)(CX:PN)(k:Nat)(f:ak)(fd:FuncData)(ps:ar)(sp:Sp):Prop where
 len:∀vs H Q E,sp vs H Q E->vs.length=ps.length
 run:∀(A:az) (outer:List Env) (s:aA) (H:Hp) (args:Args) (us:ba) (vs:List V) (Q:VK) (E:XK),Room k A->Env0 P w K mg base A outer s H->BindsTo s fd args (ps.zip us)->Vals vs us->sp vs H Q E ->
  codeAny (model P w) A (.call (.ref f) args) (CR CX outer P w H s Q E) s
section
variable {X:Cx}{pins:bo}{σ:St}{H:Hp}{s s':aA}
def Inv.ZU(I:Inv X pins σ H s):Env0 X.prog X.w X.K X.mg X.base X.A X.stack s H:=
 ⟨I.ok.frames,I.ok.mod,I.bs,bF I.ok.bsz I.sz,I.stack,I.yZ,I.hok,I.bare⟩
def Inv.after{Q:VK}(I:Inv X pins σ H s)(h:CE X.stack X.prog X.w H s Q u s'):EP X pins σ Q u s':=by
 obtain⟨v,H',os,c,un,hok,r,q⟩:=h;obtain⟨f,g,d,t,e⟩:=s';obtain rfl:e=s.os:=os;exact⟨v,H',I.call (h':=f) (g':=g) (d':=d) (t':=t) (ch:=[]) un hok c λb z=>absurd z<|by simp,r,q⟩
end
abbrev M_ (sp:Sp)(dvs:List V)(E:XK)(t:TA):TE:=λσ H Q=>t σ H λvs H1=>sp (vs++dvs) H1 Q E
abbrev Binds (K:au)(fd:FuncData)(ps:ar)(ds:ba):Prop:=
 ∀(s:aA) (us:ba),K.In s.heap->(us++ds).length=ps.length->BindsTo s fd ⟨us,[]⟩ (ps.zip<|us++ds)
def Binds.all{K:au}{ps:ar}(h:∀us:ba,us.length=ps.length->bindArgs fd ⟨us,[]⟩=pure (ps.zip us)):Binds K fd ps []:=λs us _ c=>by
 rw[bN]at c ⊢;exact .of_eq<|h us c
abbrev Passes (CX:PN)(X:Cx)(E:XK):Prop:=∀(pins:bo) (σ:St) (H:Hp) (s:aA) (e:af) (s':aA),Inv X pins σ H s->CX X.stack H s E e s'->X.xe e s'
section
variable {X:Cx}{CX:PN}{k:Nat}{f C:ak}{fd:FuncData}{ps:ar}{sp:Sp}{dvs:List V}{ds:ba}{E:XK}{x:Str}{p pos:Pos}{e:aC}{es:List aC}{t:TA}
def XS{H:Hp}{Q:VK}(F:FnOk X.prog X.w X.K X.mg X.base CX k f fd ps sp)(hr:Room k X.A)(hb:Binds X.K fd ps ds)(hd:Vals dvs ds)(hx:Passes CX X E)
  (I:Inv X pins σ H s) (r:Vals vs us) (h:sp (vs++dvs) H Q E):wpAny (model X.prog X.w) X.A (call (.ref f) us) (EP X pins σ Q) X.xe s:=by
 have r2:Vals (vs++dvs) (us++ds):=r.append hd;have d:(us++ds).length=ps.length:=by rw[<- r2.length];exact F.len _ _ _ _ h
 refine jh (iO (F.run X.A X.stack s H ⟨us,[]⟩ (us++ds) (vs++dvs) Q E hr I.ZU (hb s us I.zA d) r2 h) λr s' c=>?_)
 cases r with
 | error e=>exact hx pins σ H s e s' I c
 | ok fl=>
  cases fl with
  | ret u=>exact I.after c
  | next=>exact False.elim c
  | brk=>exact False.elim c
  | cont=>exact False.elim c
def Iz(F:FnOk X.prog X.w X.K X.mg X.base CX k f fd ps sp)(hr:Room k X.A)(hg:Gl X x)(hm:X.mg x=some (.ref f))(hk:PySem.W.keepIn X.K (.ref f)=true)(hb:Binds X.K fd ps ds)(hd:Vals dvs ds)(hx:Passes CX X E)
  (ha:PA X (e::es) t) (hdb:(x == ("__debug__" : Str))=false<|>δ) (he:starEach (e::es) X.env=(false,eval e X.env)::starEach es X.env<|>ε) (hpl:((backTo pos<|starEach es X.env).any (·.1)=false)<|>ε) :
  PE X (.Call (.Name x p) (e::es) [] pos) (M_ sp dvs E t):=by
 kt_k;refine gC<|wO I hg hm ?_ hdb;refine PySem.W.callWith_K (h₀:=X.base) I.ok.mod.kin hk (nc (ha pos pins s σ H _ I h) λus c ⟨vs,H1,I1,r,q⟩=>⟨I1.zA,?_⟩) he hpl;exact XS F hr hb hd hx I1 r q
structure Mk (K:au)(C f:ak):Prop where
 makes:PySem.W.makesIn K C=true
 init:PySem.W.findIn K (.ref C) "__init__" = some (some<|.ref f)
 fn:PySem.W.isFn K (.ref f)=true
 kp:PySem.W.keepIn K (.ref C)=true
end
section
variable {fd:FuncData}{ps ks:ar}
structure KBinds (K:au)(fd:FuncData)(ps ks:ar)(g:ba->ba->ba)(gV:List V->List V->List V):Prop where
 to:∀(s:aA) (us ws:ba),K.In s.heap->(g us ws).length=ps.length->BindsTo s fd ⟨us,ks.zip ws⟩ (ps.zip<|g us ws)
 rel:∀{vs:List V} {us:ba} {zs:List V} {ws:ba},Vals vs us->Vals zs ws->Vals (gV vs zs) (g us ws)
end
structure FnScope (N P:ar)(sc:Scope):Prop where
 kind:sc.kind=.function
 co:sc.isCoroutine=false
 gen:sc.isGenerator=false
 nd:N.Nodup
 pre:N.take P.length=P
 par:∀x∈P,sc.names.lookup x=some .local\/sc.names.lookup x=some .cell
 nofree:∀y∈sc.names,y.2≠.free
theorem Cr{kindOf:Str->Option NameKind}{x:Str}:∀{binds:List<|Str×af}{m:Str->bd},(∀v,(x,v)∉binds)->bindL kindOf binds m x=m x
 | [],_,_=>rfl
 | (n,v)::r,m,h=>by
  unfold bindL;rw[Cr λw hw=>h w<|aK _ hw];split
  ·have:x≠n:=by rintro rfl;exact h v aN
   simp[this]
  ·rfl
theorem B7{kindOf:Str->Option NameKind}{x:Str}:∀{binds:List<|Str×af}{m:Str->bd},(∀v,(x,v)∉binds)->bindC kindOf binds m x=m x
 | [],_,_=>rfl
 | (n,v)::r,m,h=>by
  unfold bindC;rw[B7 λw hw=>h w<|aK _ hw];split
  ·rfl
  ·have:x≠n:=by rintro rfl;exact h v aN
   simp[this]
theorem BG{kindOf:Str->Option NameKind}{x:Str}{v:af}:∀{P:ar}{vs:ba}{i:Nat}{m:Str->bd},P.Nodup->P[i]?=some x->vs[i]?=some v->kindOf x=some .local ->
  bindL kindOf (P.zip vs) m x=some v
 | [],_,_,_,_,h,_,_=>by simp at h
 | _::_,[],_,_,_,_,h,_=>by simp at h
 | p::P,w::vs,0,m,nd,h1,h2,hk=>by
  simp at h1 h2;subst h1;subst h2;show bindL kindOf ((p,w)::P.zip vs) m p=_;unfold bindL;rw[Cr λv hv=>(bQ.mp nd).1 (iJ hv).1,aS hk];simp
 | p::P,w::vs,i+1,m,nd,h1,h2,hk=>by
  skip
  unfold bindL;exact BG (i:=i) (bQ.mp nd).2 (by simpa using h1) (by simpa using h2) hk
theorem BA{kindOf:Str->Option NameKind}{x:Str}{v:af}:∀{P:ar}{vs:ba}{i:Nat}{m:Str->bd},P.Nodup->P[i]?=some x->vs[i]?=some v->kindOf x≠some .local ->
  bindC kindOf (P.zip vs) m x=some v
 | [],_,_,_,_,h,_,_=>by simp at h
 | _::_,[],_,_,_,_,h,_=>by simp at h
 | p::P,w::vs,0,m,nd,h1,h2,hk=>by
  simp at h1 h2;subst h1;subst h2;show bindC kindOf ((p,w)::P.zip vs) m p=_;unfold bindC;rw[B7 λv hv=>(bQ.mp nd).1 (iJ hv).1,aQ hk];simp
 | p::P,w::vs,i+1,m,nd,h1,h2,hk=>by
  skip
  unfold bindC;exact BA (i:=i) (bQ.mp nd).2 (by simpa using h1) (by simpa using h2) hk
abbrev start (N:ar)(vs:List V):St:=vs.map some++List.replicate (N.length-vs.length) none
abbrev xy (CX:PN)(P:aj)(w:ah)(K:au)(mg:Str->bd)(base:aq)(N:ar)(qual:Str)(scope:Scope)(f:ak)(cd:af)(A:az)(outer:List Env)(s:aA)(H:Hp)(E:XK):Cx where
 prog:=P
 w:=w
 K:=K
 mg:=mg
 base:=base
 A:=A.deeper (envOfC qual scope s.heap.objs.size f cd)
 N:=N
 s₀:=s
 H₀:=H
 env:=envOfC qual scope s.heap.objs.size f cd
 outer:=outer
 stack:=envOfC qual scope s.heap.objs.size f cd::outer
 ex:=[]
 calm:=true
 fn:=λ_=>true
 pn:=[]
 xe:=λe s'=>wpAny (model P w) (A.deeper<|envOfC qual scope s.heap.objs.size f cd) (leaving (envOfC qual scope s.heap.objs.size f cd) e) (λ_ c=>CX outer H s E e c) (λd c=>CX outer H s E d c) s'
def Fp{sc:Scope}{n:Nat}{x:Str}(h:sc.names.lookup x=some .cell):∃c,(cellsFrom n sc.names []).lookup x=some c:=by
 have q:=dM sc.names n []<|.inl h;exact cN.mp q
def BP{CX:PN}{P:aj}{w:ah}{K:au}{mg:Str->bd}{base:aq}{N ps:ar}{scope:Scope}{f:ak}{A:az}{outer:List Env}{s:aA}{H:Hp}{E:XK}{vs:List V}
  (S:FnScope N ps scope) (hd:A.handled=none) (e0:Env0 P w K mg base A outer s H) (hl:vs.length=ps.length) (r:Vals vs us)
  (x:InCallC s s.heap.objs.size (bindL (envOfC qual scope s.heap.objs.size f cd).kindOf (ps.zip us) λ_=>none) (cellsFrom (s.heap.objs.size+1) scope.names []) (bindC (envOfC qual scope s.heap.objs.size f cd).kindOf (ps.zip us) λ_=>none) s1) :
  Inv (xy CX P w K mg base N qual scope f cd A outer s H E) [] (start N vs) H s1:=by
 have G:ps.length<=N.length:=by have:=c7 List.length S.pre;rw[cO]at this;lia
 obtain⟨h1,J,rfl,t⟩:=x.done;have d:∀b:ak,b∉(xy CX P w K mg base N qual scope f cd A outer s H E).ex:=λb z=>absurd (show b∈([]:bb)from z) (by simp);refine⟨⟨e0.mod,S.kind,rfl,rfl,aL _,λy z c h1 h2=>?_,λy g=>?_,λy c _ h=>?_,λ_=>hd,Around.frames_deeper e0.frames,.inr ⟨rfl,rfl⟩,λb z=>absurd z<|d b,e0.bs,e0.bsz,λb _ _=>d b,λb z=>absurd z<|d b,e0.tO,e0.frf⟩,
  rfl,e0.bare,Un.kept t,⟨_,x.toInCall.ns,λi y v h1 h2 h3=>?_⟩,λy c h=>⟨_,x.cell y c h⟩,e0.hok.fresh<|aL _,λy c h=>?_,λp hp=>absurd (show p∈([]:bo)from hp)<|by simp,e0.hok.kept t,?_⟩
 ·exact name_of_addr x.apart (cD h1) (cD h2)
 ·have g:scope.names.lookup y=some .cell\/scope.names.lookup y=some .free:=g
  rcases g with g|g
  ·exact Fp g
  ·exact absurd rfl<|S.nofree _<|cD g
 ·exact dJ (x.above y c<|cD h)
 ·have m:i<vs.length:=by
   unfold start at h2;by_cases m:i<vs.length
   ·exact m
   ·rw[iQ<|by simpa using m]at h2;rw[gG]at h2;split at h2<;>cases h2
  have C:vs[i]?=some v:=by
   unfold start at h2;rw[bB<|by simpa using m,aV]at h2
   cases e:vs[i]? with
   | none=>rw[e]at h2;cases h2
   | some a=>rw[e]at h2;cases h2;rfl
  obtain⟨u,B,F⟩:=r.get C;have hp:ps[i]?=some y:=by
   rw[<- S.pre,List.getElem?_take_of_lt ()];exact h1
  have j:ps.Nodup:=by rw[<- S.pre];exact S.nd.sublist (List.take_sublist _ _)
  refine⟨u,F,?_⟩
  rcases S.par y (bq hp)with k|k
  ·exact .inl ⟨k,BG j hp B k⟩
  ·obtain⟨c,e⟩:=Fp (n:=s.heap.objs.size+1) k;refine .inr ⟨.inl k,c,e,?_⟩;have q:=x.cell y c e;rw[BA j hp B<|by show scope.names.lookup y≠_;rw[k];decide]at q;exact q
 ·exact e0.hok.fresh (dJ<|x.above y c<|cD h)
 ·unfold start;show _=N.length;rw[bf,aG,List.length_replicate]
  lia
def VT{CX:PN}{P:aj}{w:ah}{K:au}{mg:Str->bd}{base:aq}{k:Nat}{f:ak}{kV pm ct:af}
  {osl:Array<|bd} {N ps:ar} {sp:Sp} (lk:K.lookup f=some ⟨oc,od,.func<|PySem.W.fnOf name qual params body scope dV kV doc pm an cdv ct,osl⟩) (hcd:PySem.W.codeIn K cdv qual=true) (S:FnScope N ps scope)
  (len:∀vs H Q E,sp vs H Q E->vs.length=ps.length)
  (hbody:∀(A:az) (outer:List Env) (s:aA) (H:Hp) (vs:List V) (Q:VK) (E:XK),Room k (A.deeper<|envOfC qual scope s.heap.objs.size f cdv)->sp vs H Q E ->
   ∃t,Bp (xy CX P w K mg base N qual scope f cdv A outer s H E) body t/\t { nx:=λ_ H'=>Q .non H',rt:=Q } (start N vs) H) :
  FnOk P w K mg base CX (k+1) f (PySem.W.fnOf name qual params body scope dV kV doc pm an cdv ct) ps sp:=by
 refine⟨len,λA outer s H C us vs Q E B e0 L r j=>?_⟩;have U:=len _ _ _ _ j;have G:K.In s.heap:=e0.mod.kin.keeps λb o e=>(e0.bs b o e).1;have m:s.heap.NoLimit:=e0.mod.nolimit.keeps λb o e=>(e0.bs b o e).1;have d:∀y∈ps.zip us,scope.names.lookup y.1=some .local\/(scope.names.lookup y.1=some .cell/\((cellsFrom (s.heap.objs.size+1) scope.names []).lookup y.1).isSome=true):=λ⟨n,v⟩ Y=>by
  rcases S.par n (iJ Y).1 with q|q
  ·exact .inl q
  ·exact .inr ⟨q,dM _ _ _<|.inl q⟩
 refine codeAny_call_function B.depth (G _ _ lk) rfl S.co S.gen rfl (PySem.W.codeRec_of G hcd)<|L _ _ _ _ ?_;refine wpAny_newFunctionEnv_cells S.kind d λenv O F x=>?_;subst O;refine⟨m.keeps x.toInCall.keep,codeAny_func ?_⟩;obtain⟨t,M,T⟩:=hbody A outer s H vs Q E (B.deeper _) j;have I:Inv (xy CX P w K mg base N qual scope f cdv A outer s H E) [] (start N vs) H F:=BP S B.hd e0 U r x;refine cZ (M [] F (start N vs) H _ I T) (λfl s' hs=>?_) λe s' hs=>hs;have g:∀{c:St} {H':Hp} {v:V} {u:af},Inv (xy CX P w K mg base N qual scope f cdv A outer s H E) [] c H' s'->RelV v u->Q v H'->CE outer P w H s Q u s':=
  λ{c H' v u} J p q=>⟨v,H',J.os,J.bare,J.base,J.hok,p,q⟩
 cases fl with
 | ret u=>
  obtain⟨v,c,H',J,p,q⟩:=hs;exact g J p q
 | next=>
  obtain⟨c,H',J,q⟩:=hs;exact g (v:=V.non) (u:=Value.none) J rfl q
 | brk=>
  obtain⟨_,_,_,q⟩:=hs;exact False.elim q
 | cont=>
  obtain⟨_,_,_,q⟩:=hs;exact False.elim q
section
variable {X:Cx}{x:Str}{p pos:Pos}{e:aC}{es:List aC}{t:TA}{id T:String}{r:List V->Hp->VK->Prop}
abbrev tCB (r:List V->Hp->VK->Prop)(t:TA):TE:=λσ H Q=>t σ H λvs H1=>r vs H1 Q
def Fe(hc:kO X (.builtin id) r)(hg:Gl X x)(hm:X.mg x=none)(hv:bootBuiltins x=some (.builtin id))(ha:PA X (e::es) t)(hn:x ≠ "__name__"<|>δ)(hdb:(x == ("__debug__" : Str))=false<|>δ)
  (he:starEach (e::es) X.env=(false,eval e X.env)::starEach es X.env<|>ε) (hpl:((backTo pos<|starEach es X.env).any (·.1)=false)<|>ε):PE X (.Call (.Name x p) (e::es) [] pos) (tCB r t):=by
 kt_k;refine gC<|uv I hg hm hv ?_ hn hdb;exact PyProof.Rows.callWith_builtin1 (nc (ha pos pins s σ H _ I h) λus c ⟨vs,H1,I1,r1,d⟩=>hc pins c σ H1 vs us Q I1 r1 d) he hpl
def Lw(hc:kO X (.type T) r)(hg:Gl X x)(hm:X.mg x=none)(hv:bootBuiltins x=some (.type T))(ha:PA X (e::es) t)(hn:x ≠ "__name__"<|>δ)(hdb:(x == ("__debug__" : Str))=false<|>δ)
  (he:starEach (e::es) X.env=(false,eval e X.env)::starEach es X.env<|>ε) (hpl:((backTo pos<|starEach es X.env).any (·.1)=false)<|>ε):PE X (.Call (.Name x p) (e::es) [] pos) (tCB r t):=by
 kt_k;refine gC<|uv I hg hm hv ?_ hn hdb;exact cP (nc (ha pos pins s σ H _ I h) λus c ⟨vs,H1,I1,r1,d⟩=>hc pins c σ H1 vs us Q I1 r1 d) he hpl
end
end L2
namespace HT
open PySem PyProof.Rows
abbrev lexLt:ag->ag->Bool
 | [],[]=>false
 | [],_::_=>true
 | _::_,[]=>false
 | x::xs,y::ys=>if x=y then lexLt xs ys else decide (x<y)
def tY(x y:Int)(xs ys:ag):lexLt (x::xs) (y::ys)=if x=y then lexLt xs ys else decide (x<y):=rfl
def sC:lexLt [] []=false:=rfl
def oA(y:Int)(ys:ag):lexLt [] (y::ys)=true:=rfl
def qM(x:Int)(xs:ag):lexLt (x::xs) []=false:=rfl
section
variable {prog:aj}{w:ah}{A:az}{E:af->aA->Prop}{s:aA}
def SG{t:ak}{vs ws:ba}{Q:af->aA->Prop}(ht:IsTup s.heap t vs.toArray)(hb:IsTup s.heap b ws.toArray)(hv:vs≠[])
  (h1:ws=[]->Q (.ref t) s) (h2:ws≠[]->Q (.ref s.heap.objs.size) { s with heap:=s.heap.push { cls:=.type "tuple",data:=.seq (vs++ws).toArray }})
  (hsz:vs.length+ws.length<=sizeLine):wpAny (model prog w) A (binaryOp .Add (.ref t)<|.ref b) Q E s:=by
 obtain⟨⟨cls,dd,data,q⟩,k,hc,n,p⟩:=id ht;obtain⟨⟨B,j,m,d⟩,c,f,C,g⟩:=id hb;simp only at hc p f g;subst hc p f g;have e:vs.toArray++ws.toArray=(vs++ws).toArray:=by simp
 by_cases hw:ws=[]
 ·exact concat_meets ⟨_,k,rfl⟩ ⟨_,c,rfl⟩ noFill_tuple_add seq_tuple_add gO gH (gc _ _)
   (tuple_addW1 t b vs.toArray ws.toArray n C dd j q d (by simpa using hv)<|by simp[hw]) ⟨k,c,h1 hw⟩
 ·refine concat_meets ⟨_,k,rfl⟩ ⟨_,c,rfl⟩ noFill_tuple_add seq_tuple_add gO gH (gc _ _)
   (tuple_addW2 t b vs.toArray ws.toArray n C dd j q d (by simpa using hv) (by simpa using hw)<|by rw[aZ,aZ];exact hsz) ⟨k,c,?_⟩
  rw[e];exact h2 hw
abbrev sIx (n d:Nat):Option Int->Nat
 | none=>d
 | some v=>if v<0 then(v+(n:Int)).toNat else min v.toNat n
end
end HT
namespace L2
open PySem PySem.Spec PyProof.Rows
meta abbrev TO:=St->Hp->(Option Int->Hp->Prop)->Prop
def intsAre_of{ns:ag}:∀{us:ba},Vals (ns.map V.int) us->IntsAre us ns:=by
 induction ns with
 | nil=>intro us r;rw[dg]at r;cases r;exact .nil
 | cons n ns c=>
  intro us r;rw[bh]at r
  cases r with
  | cons r1 r2=>
   obtain⟨t,e⟩:=r1;subst e;exact .cons n t<|c r2
section
variable {X:Cx}{p2:Pos}
abbrev aaO (K:au):R2:=λx y H Q=>∃a b xs ys,x=.ref a/\y=.ref b/\ow K H a xs/\ow K H b ys/\xs≠[]/\xs.length+ys.length<=sizeLine /\
 (ys=[]->Q (.ref a) H)/\(ys≠[]->∀p,H p=none->Q (.ref p) (upd H p<|.tup<|xs++ys))
def Vals.CB(r:Vals xs us):us=[] ↔ xs=[]:=by
 cases r with
 | nil=>simp
 | cons _ _=>simp
def Uu:pK X (binaryOp .Add) (aaO X.K):=by
 gn_on;obtain⟨a,b,xs,ys,rfl,rfl,f,e,k,c,g,j⟩:=h
 cases rx
 cases ry
 obtain⟨m,r1,p1,_⟩:=I.tuple f;obtain⟨d,r2,p2,_⟩:=I.tuple e;refine HT.SG p1 p2 (λz=>k<|r1.CB.mp z) (λz=>⟨.ref a,H,I,rfl,g<|r2.CB.mp z⟩) (λz=>?_) (by rw[<- r1.length,<- r2.length];exact c);refine⟨.ref s.heap.objs.size,_,I.laid (t':=s.toks) (o:=.tup<|xs++ys) (λb p q=>aR _ q) (aL _) ?_,rfl,j (λw=>z<|r2.CB.mpr w) _<|I.hok.fresh<|aL _⟩;exact⟨by rw[bf];exact c,_,r1.append r2,qX.new _ _⟩
end
abbrev Ec (n:Nat)(i:Int):bj:=if 0<=i then(if i<n then some i.toNat else none)else if -(n:Int)<=i then some (i+n).toNat else none
abbrev qZ {α:Type}(xs:List α)(i:Int):Option α:=(Ec xs.length i).bind λj=>xs[j]?
def JZ{n:Nat}{i:Int}(h:Ec n i=some j):seqIndex? i n=some j/\j<n/\-(n:Int)<=i/\i<n:=by
 unfold Ec at h;by_cases h0:0<=i
 ·rw[aS h0]at h;by_cases h1:i<n
  ·rw[aS h1]at h;have e:i.toNat=j:=aX h;exact⟨by rw[seqIndex_of h0 h1,e],(),(),h1⟩
  ·rw[aQ h1]at h;cases h
 ·rw[aQ h0]at h;by_cases h1:-(n:Int)<=i
  ·rw[aS h1]at h;have e:(i+n).toNat=j:=aX h;exact⟨by rw[seqIndex_neg () h1,e],(),h1,()⟩
  ·rw[aQ h1]at h;cases h
def DL{α:Type}{xs:List α}{i:Int}{v:α}(h:qZ xs i=some v):∃j,seqIndex? i xs.length=some j/\xs[j]?=some v/\j<xs.length/\-(xs.length:Int)<=i/\i<xs.length:=by
 unfold qZ at h
 cases e:Ec xs.length i with
 | none=>rw[e]at h;cases h
 | some j=>
  rw[e]at h;obtain⟨h1,h2,h3,c⟩:=JZ e;exact⟨j,h1,h,h2,h3,c⟩
def UI{α:Type}{xs:List α}{j:Nat}{v:α}(h:xs[j]?=some v):qZ xs (j:Int)=some v:=by
 have c:j<xs.length:=(aI.mp h).1;have e:Ec xs.length (j:Int)=some j:=by
  unfold Ec;rw[aS (),aS ()];simp
 unfold qZ;rw[e];exact h
abbrev yU (b:aC):Prop:=∀o i,subscripted b false o i=operate [o,i] (getItem o i)
abbrev Vy (X:Cx)(r:R2):Prop:=
 ∀(d c:aC) (pins:bo) (s:aA) (σ:St) (H:Hp) (x y:V) (v u:af) (Q:VK),Inv X pins σ H s->RelV x v->RelV y u->r x y H Q ->
  subscripted c false v u=operate [v,u] (getItem v u)->wpAny (model X.prog X.w) X.A (subscriptTail d c v u) (EP X pins σ Q) X.xe s
abbrev Ed (X:Cx)(id:String)(r:V->List V->Hp->VK->Prop):Prop:=
 ∀(pins:bo) (s:aA) (σ:St) (H:Hp) (x:V) (xs:List V) (v:af) (us:ba) (Q:VK),Inv X pins σ H s->RelV x v->Vals xs us->r x xs H Q ->
  wpAny (model X.prog X.w) X.A (call (.builtin id) (v::us)) (EP X pins σ Q) X.xe s
section
variable {X:Cx}{a b:aC}{ta tb:TE}{pos:Pos}
def Pq{r:R2}(hr:Vy X r)(ha:PE X a ta)(hb:PE X b tb)(hs:yU b):PE X (.Subscript a b pos) (ZR r ta tb):=by
 kt_k;exact Subscript_<|XG ha hb I h λv u d x y H2 c rx ry q=>hr a b pins d σ H2 x y v u Q c rx ry q<|hs _ _
abbrev abG (K:au):R2:=λx y H Q=>∃p xs i v,x=.ref p/\y=.int i/\pS K H p xs/\qZ xs i=some v/\Q v H
abbrev abO (K:au):R2:=λx y H Q=>∃p xs i v,x=.ref p/\y=.int i/\ow K H p xs/\qZ xs i=some v/\Q v H
abbrev abE:R2:=λx y H Q=>∃z i c,x=.str z/\y=.int i/\z.length<=sizeLine/\qZ z.cps.toList i=some c/\Q (.str ⟨#[c]⟩) H
def Jr:Vy X (abG X.K):=by
 intro e d pins s σ H x y v u Q I rx ry h hs;obtain⟨p,xs,i,z,rfl,rfl,C,B,q⟩:=h
 cases rx
 obtain⟨t,rfl⟩:=ry;obtain⟨k,r,pl,L⟩:=I.list C;obtain⟨j,h1,h2,h3,F,G⟩:=DL B;obtain⟨w,m,f⟩:=r.get h2;have J:=r.length;have hn:=uS;have c:EP X pins σ Q w s:=⟨z,H,I,f,q⟩;by_cases h0:0<=i
 ·have g:i.toNat=j:=by
   rw[seqIndex_of h0 G]at h1;exact aX h1
  exact item_listR pl.isList h0 () (by rw[g];simpa using m) c hs
 ·have g:(i+(k.toArray.size:Int)).toNat=j:=by
   rw[seqIndex_neg () F]at h1;rw[aZ,<- J];exact aX h1
  exact subscriptTail_builtinR (x:=w) pl.isList.typeIs slot_list_getitem.lookup
   (wpAny_getItem_list_neg (Q:=λr s'=>r=w/\EP X pins σ Q r s') pl.isList () (by rw[aZ]<;>lia) () (by rw[g];simpa using m) ⟨rfl,c⟩) hs
def WJ:Vy X (abO X.K):=by
 intro e c pins s σ H x y v u Q I rx ry h hs;obtain⟨p,xs,i,z,rfl,rfl,k,g,q⟩:=h
 cases rx
 obtain⟨t,rfl⟩:=ry;obtain⟨m,r,pl,F⟩:=I.tuple k;obtain⟨j,h1,h2,h3,G,J⟩:=DL g;obtain⟨w,B,f⟩:=r.get h2;have C:=r.length;have hn:=uS;have d:EP X pins σ Q w s:=⟨z,H,I,f,q⟩;exact subscriptTail_builtinR (x:=w) pl.typeIs slot_tuple_getitem.lookup
  (getItem_tuple (j:=j) (Q:=λr s'=>r=w/\EP X pins σ Q r s') pl () () (by rw[aZ,<- C];exact h1) (by simpa using B) ⟨rfl,d⟩) hs
def Yz:Vy X abE:=by
 intro e d pins s σ H x y v u Q I rx ry h hs;obtain⟨z,i,c,rfl,rfl,p,f,q⟩:=h;obtain⟨t,rfl⟩:=rx;obtain⟨B,rfl⟩:=ry;obtain⟨j,h1,h2,h3,g,k⟩:=DL f;have m:z.cps.toList.length=z.length:=by simp[Str.length]
 rw[m]at h1 g k;have hn:=uS;exact tail_any (typeIs_str s z t) slot_str_getitem.lookup (getItem_str (c:=c) (by
  have e1:decide (i < -(2 ^ 63:Int))=false:=bw ();have e2:decide (i>=2 ^ 63)=false:=bw ();rw[e1,e2,Bool.or_false]) (by rw[h1];simpa using h2) ⟨.str ⟨#[c]⟩,H,I.tok _,⟨_,rfl⟩,q⟩) hs
def GQ(its:ba)(n j:Nat)(u:af):Obj.mapSeq (·.setIfInBounds j u) { cls:=.type "list",data:=.seq its.toArray n }={ cls:=.type "list",data:=.seq (its.set j u).toArray n }:=by
 simp[Obj.mapSeq]
def Inv.lst{H:Hp}{s:aA}{p:ak}{xs:List V}(I:Inv X pins σ H s)(h:H p=some (.lst xs)) :
  ∃(its:ba) (n:Nat),Vals xs its/\s.heap.get? p=some { cls:=.type "list",data:=.seq its.toArray n }/\xs.length<=sizeLine:=by
 obtain⟨z,its,n,r,e⟩:=I.hok p _ h;exact⟨its,n,r,e,z⟩
def Inv.XJ{H:Hp}{s:aA}{p:ak}{ys:List V}{its its':ba}{n:Nat}{f:Obj->Obj}(I:Inv X pins σ H s)(h:H p=some (.lst xs))
  (ho:s.heap.get? p=some { cls:=.type "list",data:=.seq its.toArray n }) (hf:f { cls:=.type "list",data:=.seq its.toArray n }={ cls:=.type "list",data:=.seq its'.toArray n' }) (r:Vals ys its') (hz:ys.length<=sizeLine) (t:Nat) :
  Inv X pins σ (upd H p<|.lst ys) { s with heap:=s.heap.update p f,toks:=t }:=by
 have e:(s.heap.update p f).get? p=some { cls:=.type "list",data:=.seq its'.toArray n' }:=by
  rw[dY f ho<|by rw[hf]<;>rfl,hf]
 refine I.write (x:=p) (e:=p) (by rw[h];trivial) (.inl rfl) (λb u c q=>(eY _ _<|cK c).trans q) ⟨_,e⟩ ?_;exact⟨hz,its',n',r,e⟩
abbrev Zo:V->V->V->Hp->(Hp->Prop)->Prop:=λo i v H Q=>∃p xs k j,o=.ref p/\i=.int k/\H p=some (.lst xs)/\Ec xs.length k=some j/\Q (upd H p<|.lst<|xs.set j v)
def set_list:F4 X Zo:=by
 intro pins s σ H o i v K iv u Q I J G F h;obtain⟨p,xs,k,j,rfl,rfl,hp,C,q⟩:=h
 cases J
 obtain⟨t,rfl⟩:=G;obtain⟨c,n,r,d,B⟩:=I.lst hp;obtain⟨h1,h2,h3,m⟩:=JZ C;have f:=r.length;have hn:=uS;have g:Inv X pins σ (upd H p<|.lst<|xs.set j v) { s with heap:=s.heap.update p<|Obj.mapSeq (·.setIfInBounds j u)}:=
  I.XJ hp d (GQ c n j u) (r.set F j) (by rw[cu];exact B) s.toks
 by_cases h0:0<=k
 ·have e:k.toNat=j:=by
   rw[seqIndex_of h0 m]at h1;exact aX h1
  exact PySem.W.ki_setAt d h0 () (by rw[aZ,<- f];exact m)<|by rw[e];exact⟨_,g,q⟩
 ·have e:(k+(c.toArray.size:Int)).toNat=j:=by
   rw[seqIndex_neg () h3]at h1;rw[aZ,<- f];exact aX h1
  exact PySem.W.ki_setBack d () (by rw[aZ,<- f];exact h3) ()<|by rw[e];exact⟨_,g,q⟩
abbrev eqV:V->V->Bool
 | .non,.non=>true
 | .bl a,.bl b=>a == b
 | .bl a,.int b=>(if a then 1 else 0) == b
 | .int a,.bl b=>a == (if b then 1 else 0)
 | .int a,.int b=>a == b
 | .str a,.str b=>a == b
 | _,_=>false
def t7:kO X (.type "list") (λxs H Q=>∃p ys,xs=[.ref p]/\(pS X.K H p ys\/ow X.K H p ys)/\∀l,H l=none->Q (.ref l) (upd H l<|.lst ys)):=by
 gp_on;obtain⟨p,ys,rfl,k,q⟩:=h;cb_eq
 cases rx
 have j:∀(c:ba),Vals ys c->ys.length<=sizeLine->∀(h':aq) (d:Nat),(∀b o',s.heap.get? b=some o'->h'.get? b=some o') ->
   h'.get? s.heap.objs.size=some { cls:=.type "list",dict:=none,data:=.seq c.toArray d,slots:=#[]}->EP X pins σ Q (.ref s.heap.objs.size) { s with heap:=h' }:=λc f g h' d kp e=>
  ⟨.ref s.heap.objs.size,_,I.laid (t':=s.toks) kp (aL _)<|show kW X.prog X.w _ h' _ (.lst ys)from⟨g,c,d,f,e⟩,rfl,q _<|I.hok.fresh<|aL _⟩
 rcases k with k|k
 ·obtain⟨c,f,pl,g⟩:=I.list k;have m:=f.length;obtain⟨o,B,hc,n,t⟩:=pl.isList;exact call_list_seq p (.inl rfl) B hc t (λh' d kp e=>j c f g h' d kp e) (by dsimp[aZ]<;>lia)
 ·obtain⟨c,f,pl,g⟩:=I.tuple k;have m:=f.length;obtain⟨o,B,hc,n,t⟩:=pl;exact call_list_seq p (.inr rfl) B hc t (λh' d kp e=>j c f g h' d kp e)<|by dsimp[aZ]<;>lia
def rZ:kO X (.type "tuple") (λxs H Q=>∃p ys,xs=[.ref p]/\((pS X.K H p ys/\∀l,H l=none->Q (.ref l) (upd H l<|.tup ys))\/(ow X.K H p ys/\Q (.ref p) H))):=by
 gp_on;obtain⟨p,ys,rfl,h⟩:=h;cb_eq
 cases rx
 rcases h with⟨d,q⟩|⟨d,q⟩
 ·obtain⟨c,f,pl,g⟩:=I.list d;have j:=f.length;refine call_tuple_list pl.isList (λh' kp=>?_) (by dsimp[aZ]<;>lia);have I1:Inv X pins σ H { s with heap:=h' }:=I.kept (t':=s.toks) kp;have k:Inv X pins σ (upd H h'.objs.size<|.tup ys) { s with heap:=h'.push { cls:=.type "tuple",data:=.seq c.toArray }}:=
   I1.laid (t':=s.toks) (λb o e=>aR _ e) (aL _) (show kW X.prog X.w _ _ _ (.tup ys)from⟨g,c,f,qX.new _ _⟩)
  exact⟨.ref h'.objs.size,_,k,rfl,q _<|I1.hok.fresh<|aL _⟩
 ·obtain⟨c,f,pl,g⟩:=I.tuple d;exact call_tuple_same pl ⟨.ref p,H,I,rfl,q⟩
abbrev Zb (K:au)(T:String)(x:V)(H:Hp):Prop:=match x with
 | .str _=>T = "str"
 | .int _=>T = "int"
 | .ref p=>(T = "list" /\ ∃xs,pS K H p xs)\/(T = "tuple" /\ ∃o,K.lookup p=some o/\o.cls=.type "tuple" /\ o.dict=none) \/
   (T = "dict" /\ ((∃c,H p=some (.dK c))\/∃c,H p=some (.dT c)))\/(T = "set" /\ ∃S n,H p=some (.set S n))
 | _=>False
def Nx{H:Hp}{s:aA}{x:V}{v:af}(I:Inv X pins σ H s)(r:RelV x v)(ty:Zb X.K T x H) :
  s.TypeIs v T/\∀a,v=.ref a->∃ob,s.heap.get? a=some ob/\ob.dict=none:=by
 cases x with
 | str z=>
  obtain⟨t,rfl⟩:=r
  cases(show T = "str" from ty)
  exact⟨typeIs_str s z t,nofun⟩
 | int i=>
  obtain⟨t,rfl⟩:=r
  cases(show T = "int" from ty)
  exact⟨typeIs_int s i t,nofun⟩
 | ref p=>
  cases r
  rcases ty with⟨rfl,xs,k⟩|⟨rfl,o,d,hc,f⟩|⟨rfl,d⟩|⟨rfl,S,n,d⟩
  ·obtain⟨j,_,pl,_⟩:=I.list k;refine⟨pl.isList.typeIs,λa e=>?_⟩
   cases e
   obtain⟨o,n,e,c,f,_⟩:=pl;exact⟨o,e,f⟩
  ·refine⟨⟨o,I.zA p o d,hc⟩,λa e=>?_⟩
   cases e
   exact⟨o,I.zA _ o d,f⟩
  ·have z:∃o,s.heap.get? p=some o/\o.ExactDict:=by
    rcases d with⟨g,d⟩|⟨g,d⟩
    ·obtain⟨_,_,_,_,o,_,_,e,ex,_⟩:=I.hok p _ d;exact⟨o,e,ex⟩
    ·obtain⟨_,_,_,_,o,_,_,e,ex,_⟩:=I.hok p _ d;exact⟨o,e,ex⟩
   obtain⟨o,e,ex⟩:=z;refine⟨⟨o,e,ex.1⟩,λa e2=>?_⟩
   cases e2
   exact⟨o,e,ex.2.1⟩
  ·obtain⟨o,_,_,_,e,ex,_⟩:=I.hok p _ d;refine⟨⟨o,e,ex.1⟩,λa e2=>?_⟩
   cases e2
   exact⟨o,e,ex.2.1⟩
 | _=>exact False.elim ty
abbrev abF (K:au)(T:String)(r:V->List V->Hp->VK->Prop)(to:TE):TE:=λσ H Q=>to σ H λx H1=>Zb K T x H1/\r x [] H1 Q
abbrev tBM (K:au)(T:String)(r:V->List V->Hp->VK->Prop)(to:TE)(t:TA):TE:=λσ H Q=>to σ H λx H1=>Zb K T x H1/\t σ H1 λxs H2=>r x xs H2 Q
variable {o e:aC}{es:List aC}{to:TE}{t:TA}{name:Str}{apos cpos:Pos}{T id:String}{r:V->List V->Hp->VK->Prop}
def Wq(pa:PlainAttrs T)(slot:Slot T name id)(hty:typeOf (.builtin id)=pure (.type "method_descriptor"))(hm:Ed X id r)(ho:PE X o to)
  (hbase:attributeBase o name X.env (eval o X.env)=eval o X.env<|>ε) (hline:(apos.endLine == cpos.line)=true<|>ε):PE X (.Call (.Attribute o name apos) [] [] cpos) (abF X.K T r to):=by
 kt_k;refine wpAny_Call_method0_late hbase hline<|nc (ho pins s σ H _ I h) λv c ⟨x,H1,I1,r1,ty,d⟩=>?_;obtain⟨h1,h2⟩:=Nx I1 r1 ty;exact⟨T,id,pa,slot,hty,h1,h2,gP rfl<|PySem.evalArgs_none<|hm pins c σ H1 x [] v [] Q I1 r1 .nil d⟩
def ME(pa:PlainAttrs T)(slot:Slot T name id)(hty:typeOf (.builtin id)=pure (.type "method_descriptor"))(hm:Ed X id r)(ho:PE X o to)(ha:PA X (e::es) t)
  (hbase:attributeBase o name X.env (eval o X.env)=eval o X.env<|>ε)
  (hfew:(((backTo cpos<|starEach (e::es) X.env).all (λx=>!x.1) && (backToKw cpos<|keywordEach [] X.env).all (λx=>x.1.isSome)
   && decide ((e::es).length+([]:List Keyword).length+(if ([]:List Keyword).isEmpty then 0 else 1)<30))=true)<|>ε)
  (hline:(apos.endLine == cpos.line)=true<|>ε) (hs:starEach (e::es) X.env=(false,eval e X.env)::starEach es X.env<|>ε) (hplain:((backTo cpos<|starEach es X.env).any (·.1)=false)<|>ε) :
  PE X (.Call (.Attribute o name apos) (e::es) [] cpos) (tBM X.K T r to t):=by
 kt_k;refine wpAny_Call_method_late hbase hfew hline rfl<|nc (ho pins s σ H _ I h) λv g ⟨x,H1,I1,r1,ty,j⟩=>?_;obtain⟨h1,h2⟩:=Nx I1 r1 ty;refine⟨T,id,pa,slot,hty,h1,h2,?_⟩;have c:=ha cpos pins g σ H1 _ I1 j;rw[hs]at c ⊢;refine gP (by show(false || (backTo cpos<|starEach es X.env).any (·.1))=false;rw[hplain]<;>rfl)<|iF ?_;exact nc c λus k ⟨vs,H2,f,r2,d⟩=>hm pins k σ H2 x vs v us Q f r1 r2 d
end
abbrev MtM (X:Cx)(id:String)(r:V->List V->Hp->VK->Prop):Prop:=
 ∀(pins:bo) (s:aA) (σ:St) (H:Hp) (x:V) (xs:List V) (v:af) (us:ba) (Q:VK),Inv X pins σ H s->RelV x v->Vals xs us->r x xs H Q ->
  wpAny (model X.prog X.w) X.A (call (.builtin id) (v::us)) (EP X pins σ Q) X.xe s
def Vals.one:∀{x:V}{us:ba},Vals [x] us->∃u,us=[u]/\RelV x u
 | _,_,.cons r .nil=>⟨_,rfl,r⟩
theorem Vals.eraseIdx:∀{xs:List V}{us:ba}(i:Nat),Vals xs us->Vals (xs.eraseIdx i) (us.eraseIdx i)
 | _,_,_,.nil=>.nil
 | _,_,0,.cons _ t=>t
 | _,_,i+1,.cons r t=>.cons r<|Vals.eraseIdx i t
theorem Vals.rep(h:Vals xs us):∀k:Nat,Vals (List.replicate k xs).flatten (List.replicate k us).flatten
 | 0=>.nil
 | k+1=>by
  rw[di,di,eB,eB];exact Vals.append h<|Vals.rep h k
theorem By{α:Type}:∀(l:List α) (i:Nat),(l.eraseIdx i).length<=l.length
 | [],_=>aL _
 | _::_,0=>jq _
 | _::r,i+1=>Nat.succ_le_succ<|By r i
theorem foldl_rep(its:ba):∀(k:Nat) (acc:ba),
  List.foldl (λx1 x2=>x1++x2) acc.toArray (List.replicate k its.toArray)=(acc++(List.replicate k its).flatten).toArray
 | 0,acc=>by simp
 | k+1,acc=>by
  have e:acc.toArray++its.toArray=(acc++its).toArray:=by simp
  have e2:(acc++its)++(List.replicate k its).flatten=acc++(List.replicate (k+1) its).flatten:=by
   rw[di,eB,cH]
  rw[<- e2,<- foldl_rep its k (acc++its),<- e,di,d_]
section
variable {X:Cx}{pins:bo}{σ:St}{H:Hp}{s:aA}{l:ak}{xs ys:List V}
def Inv.Ul{its its':ba}{n:Nat}{f:Array af->Array af}{t':Nat}(I:Inv X pins σ H s)(hH:H l=some (.lst xs))
  (e:s.heap.get? l=some { cls:=.type "list",data:=.seq its.toArray n }) (hf:f its.toArray=its'.toArray) (hv:Vals ys its') (hz:ys.length<=sizeLine) :
  Inv X pins σ (upd H l<|.lst ys) { s with heap:=s.heap.update l<|Obj.mapSeq f,toks:=t' }:=by
 have q:=PySem.IsL.update e f;rw[hf]at q;refine I.write (x:=l) (e:=l) (by rw[hH];exact trivial) (.inl rfl) (λg u c d=>(eY s.heap (Obj.mapSeq f)<|cK c).trans d) ⟨_,q⟩ ?_;exact⟨hz,its',_,hv,q⟩
def Inv.XH{its:ba}{t':Nat}(I:Inv X pins σ H s)(hv:Vals ys its)(hz:ys.length<=sizeLine) :
  Inv X pins σ (upd H s.heap.objs.size<|.lst ys) { s with heap:=s.heap.push { cls:=.type "list",data:=.seq its.toArray },toks:=t' }:=
 I.laid (λ_ _ q=>aR _ q) (aL _) ⟨hz,its,0,hv,bu _ rfl⟩
def Inv.fresh(I:Inv X pins σ H s):H s.heap.objs.size=none:=I.hok.fresh<|aL _
def Inv.Ey(I:Inv X pins σ H s)(hH:H l=some (.lst xs)):xs.length<=sizeLine/\∃(its:ba) (n:Nat),Vals xs its/\xs.length=its.length/\s.heap.get? l=some { cls:=.type "list",data:=.seq its.toArray n }:=by
 obtain⟨z,its,n,r,e⟩:=I.hok l _ hH;exact⟨z,its,n,r,r.length,e⟩
def EC{n:Nat}(h:n<=sizeLine):Builtin.List.listTooLong n=false:=by
 unfold Builtin.List.listTooLong;exact bw ()
end
section
variable {X:Cx}
abbrev Se:V->List V->Hp->VK->Prop:=λx vs H Q=>∃l xs y,x=.ref l/\vs=[y]/\H l=some (.lst xs)/\xs.length<sizeLine/\Q .non (upd H l<|.lst<|xs++[y])
def BX:MtM X "list.append" Se:=by
 intro pins s σ H x vs v us Q I rx f h;obtain⟨l,xs,y,rfl,rfl,d,j,q⟩:=h
 cases rx
 obtain⟨u,rfl,g⟩:=f.one;obtain⟨z,c,n,r,k,e⟩:=I.Ey d;refine fL F.slot_list_append ⟨_,e,rfl⟩ F.entry_list_append (F.args_list_append_2 _ _) (PySem.list_append l c.toArray n u<|by rw[aZ];lia) ⟨e,?_⟩;refine⟨.non,_,I.Ul (its':=c++[u]) d e (by simp) (r.append<|.cons g .nil) ?_,rfl,q⟩;rw[bf,List.length_singleton]
 lia
abbrev SV:V->List V->Hp->VK->Prop:=λx vs H Q=>∃l b xs zs,x=.ref l/\vs=[.ref b]/\H l=some (.lst xs)/\H b=some (.lst zs)/\xs.length+zs.length<=sizeLine/\Q .non (upd H l<|.lst<|xs++zs)
def KI:MtM X "list.extend" SV:=by
 intro pins s σ H x vs v us Q I rx p h;obtain⟨l,b,xs,zs,rfl,rfl,j,m,C,q⟩:=h
 cases rx
 obtain⟨u,rfl,B⟩:=p.one
 cases B
 obtain⟨z,d,n,r,J,e⟩:=I.Ey j;obtain⟨G,c,k,r2,t,e2⟩:=I.Ey m;have g:d.toArray.size+c.toArray.size<=sizeLine:=by rw[aZ,aZ];lia
 have f:¬(!d.toArray.isEmpty && Builtin.List.listTooLong (d.toArray.size+c.toArray.size))=true:=by
  rw[EC g,jt];exact bG
 refine fL F.slot_list_extend ⟨_,e,rfl⟩ F.entry_list_extend (F.args_list_extend_2 _ _)
  (AutoSeq1.list_extend_list_list_0 l d.toArray n b c.toArray k f (by rw[aZ];lia) ()) ⟨e,e2,?_⟩
 refine⟨.non,_,I.Ul (its':=d++c) j e (by simp) (r.append r2) ?_,rfl,q⟩;rw[bf]
 lia
abbrev Yp:V->List V->Hp->VK->Prop:=λx vs H Q=>∃l xs i k y,x=.ref l/\vs=[.int i]/\H l=some (.lst xs)/\-(2 ^ 63)<=i/\i<2 ^ 63/\seqIndex? i xs.length=some k/\xs[k]?=some y/\Q y (upd H l<|.lst<|xs.eraseIdx k)
def MX:MtM X "list.pop" Yp:=by
 intro pins s σ H x vs v us Q I rx m h;obtain⟨l,xs,i,k,y,rfl,rfl,f,h1,h2,j,g,q⟩:=h
 cases rx
 obtain⟨u,rfl,p⟩:=m.one;obtain⟨t,rfl⟩:=p;obtain⟨z,c,n,r,B,e⟩:=I.Ey f;obtain⟨w,hw,d⟩:=r.get g;refine fL F.slot_list_pop ⟨_,e,rfl⟩ F.entry_list_pop (F.args_list_pop_2 _ _)
  (MeetsSeq.list_pop_at l c.toArray n i t k w (fitsIndex_both h1 h2) (by rw[aZ,<- B];exact j) (by rw[<- dZ];exact hw)<|by rw[aZ];lia) ⟨e,?_⟩
 refine⟨y,_,I.Ul (its':=c.eraseIdx k) f e ?_ (r.eraseIdx k) ?_,d,q⟩
 ·skip
  rw[List.eraseIdxIfInBounds_toArray]
 ·have:=By xs k
  lia
abbrev acm:R2:=λx y H Q=>∃l b xs zs,x=.ref l/\y=.ref b/\H l=some (.lst xs)/\H b=some (.lst zs)/\xs.length+zs.length<=sizeLine/\∀p,H p=none->Q (.ref p) (upd H p<|.lst<|xs++zs)
def YD:pK X (binaryOp .Add) acm:=by
 gn_on;obtain⟨l,b,xs,zs,rfl,rfl,k,g,m,q⟩:=h
 cases rx
 cases ry
 obtain⟨z,d,n,r,B,e⟩:=I.Ey k;obtain⟨t,c,p,r2,j,e2⟩:=I.Ey g;refine PySem.P.add_list e e2 ?_ (by rw[aZ,aZ];lia);have f:d.toArray++c.toArray=(d++c).toArray:=by simp
 rw[f];exact⟨.ref _,_,I.XH (t':=s.toks) (r.append r2)<|by rw[bf];lia,rfl,q _ I.fresh⟩
abbrev acG:R2:=λx y H Q=>∃l k xs,x=.ref l/\y=.int k/\H l=some (.lst xs)/\-(2 ^ 63)<=k/\k<2 ^ 63/\xs.length * k.toNat<=sizeLine /\
 ∀p,H p=none->Q (.ref p) (upd H p<|.lst (List.replicate k.toNat xs).flatten)
def len_rep{α:Type}(xs:List α)(k:Nat):(List.replicate k xs).flatten.length=k * xs.length:=by
 induction k with
 | zero=>simp
 | succ k c=>rw[di,eB,bf,c,iP,Nat.add_comm]
def Ym:pK X (binaryOp .Mult) acG:=by
 gn_on;obtain⟨l,k,xs,rfl,rfl,K,h1,h2,G,q⟩:=h
 cases rx
 obtain⟨t,rfl⟩:=ry;obtain⟨z,c,n,r,J,e⟩:=I.Ey K;have p:c.toArray.size * k.toNat<=sizeLine:=by rw[aZ,<- J];exact G
 have j:¬c.toArray.size * k.toNat>(2 ^ 63-1) / 8:=by
  have:(sizeLine:Nat)<=(2 ^ 63-1) / 8:=by decide
  omega
 have f:¬(!Builtin.List.listFitsIndex k)=true:=by
  rw[fitsIndex_both h1 h2];exact bG
 have d:¬Builtin.List.listTooLong (c.toArray.size * k.toNat)=true:=by
  rw[EC p];exact bG
 have g:List.foldl (λB C=>B++C) #[] (List.replicate (if c.toArray.isEmpty=true then 0 else k.toNat) c.toArray)=(List.replicate k.toNat c).flatten.toArray:=by
  have f0:∀m:Nat,List.foldl (λB C=>B++C) #[] (List.replicate m c.toArray)=(List.replicate m c).flatten.toArray:=λm=>by
   have:=foldl_rep c m [];rw[jn]at this;exact this
  rw[f0]
  cases c with
  | nil=>simp
  | cons a L=>rw[aQ<|by simp]
 refine wpAny_binaryOp_repeat_ref (T := "list") (U := "int") ⋯ ⟨_,e,rfl⟩ (λs'=>typeIs_int s' k t) noFill_list_mul F.fills_int_mul F.slot_int_rmul repeat_list F.slot_int_index.lookup
  (fL F.slot_int_rmul (typeIs_int s k t) F.entry_int_rmul (F.args_int_rmul_2 _ _) (int___rmul___int_list k t l c.toArray n)
   ⟨e,rfl,⟨_,e,rfl⟩,fL F.slot_list_mul ⟨_,e,rfl⟩ F.entry_list_mul (F.args_list_mul_2 _ _) (AutoListH.list___mul___list_int_3 l c.toArray n k t f j d) ⟨e,?_⟩⟩)
 rw[g];exact⟨.ref _,_,I.XH (t':=s.toks) (r.rep k.toNat)<|by rw[len_rep,Nat.mul_comm];exact G,rfl,q _ I.fresh⟩
end
end L2
namespace Att
open PySem PySem.W PySem.Calls PyProof.Rows
def yL{P:Params}:∀(ns:ag) (vs:ba),WellAll P h vs (ns.map WData.int)->IntsAre vs ns:=by
 intro ns
 induction ns with
 | nil=>
  intro vs w;rw[dg]at w
  cases w
  exact .nil
 | cons n ns c=>
  intro vs w;rw[bh]at w
  cases w with
  | cons a b=>
   cases a
   exact .cons _ _<|c _ b
def Mi{l:OpenLaw}{n:Nat}(hn:l.most=some n){P:Params}{h:aq}
  (hpre:l.row.toRowW.claim.pre args=true) (hwl:WellAll P h vals args) :
  ∃a vs ns,vals=[Value.ref a]/\args=[WData.list<|ns.map WData.int]/\h.get? a=some { cls:=.type "list",data:=.seq vs.toArray }/\IntsAre vs ns/\ns.length<=n:=by
 have j:WShape.hasAll [] args [.list .int]=true:=(pre_splitW hpre).1;have hc:l.pre.holds [] { args:=args }=true:=(pre_splitW hpre).2;obtain⟨d,r,rfl,h1,h2⟩:=hasAllW_cons j;obtain rfl:=hasAllW_nil h2;obtain⟨xs,rfl,h3⟩:=hasW_list h1;obtain⟨ns,rfl⟩:=items_int h3;have e:ns.length<=n:=by
  unfold OpenLaw.pre at hc;have f:(WTm.not<|.lt (.lit<|.int (n:Int))<|.len<|.arg 0).holds [] { args:=[.list<|ns.map .int]}=true:=by
   have f:=(holds_andW hc).1;rw[hn]at f;exact f
  have g:=condW_of f<|w_not<|w_lt w_lit<|w_len_list<|w_arg rfl;rw[aG]at g;refine Nat.le_of_not_lt λq=>?_;have q':(n:Int)<((ns.length:Nat):Int):=by omega
  first
   | (rw[aY q']at g;exact absurd g ⋯)
   | (simp at g;omega)
 cases hwl with
 | cons k p=>
  cases p
  cases k with
  | list m c=>exact⟨_,_,ns,rfl,rfl,m,yL ns _ c,e⟩
def Lg(l:OpenLaw)(args:List WData):l.row.toRowW.claim.post args (.bool true) args=true:=
 postW_of (r:=l.row.toRowW) (X:=(true == true))
  (show WShape.has [] (.bool true) .bool=true by first|rfl|decide|simp[WShape.has,WShape.arms,WShape.armsAll])
  (show(WTm.eq .res<|.lit<|.bool true).value [] { args:=args,res:=some<|.bool true,after:=args }=some (.bool<|true == true)from w_eq_bool (w_res rfl) w_lit) rfl
def Fq{l:OpenLaw}{n:Nat}{q:aj}{XP:(Str->bd)->aq->Prop}{YP:ah->aq->Prop}{d:DefRec}
  (hn:l.most=some n) (hdf:d.params.defaults=[])
  (call:∀(w:ah) (s₀ s₁:aA) (mg mb:Str->bd) (fa:ak) (o:Obj) (pm cd doc:af) (a:ak) (vs:ba) (ns:ag),
   Ground q loose [] XP w s₀ mg mb s₁.heap->YP w s₁.heap ->
   s₁.heap.get? fa=some o->o.data=.func (docDef d.name d.params d.body d.scope pm cd doc)->s₁.heap.CodeRec cd d.name->mg d.name=some (.ref fa) ->
   s₁.heap.get? a=some { cls:=.type "list",data:=.seq vs.toArray }->IntsAre vs ns->ns.length<=n->s₁.gens=#[] ->
   codeAny (model l.prog w) callerA (.call (.ref fa) ⟨[.ref a],[]⟩) (λr s'=>r=.ok (.ret<|.bool true)/\OldK s₁.heap s'.heap/\s'.os=s₁.os/\AllBare s'.gens) s₁) :
  WalkO q loose XP YP l.row.toRowW d [] (λf vs=>PySem.call f vs):=by
 intro w s₀ s₁ mg mb G Y fa o pm cd doc P kV M J p B k hg C F as e t O m K;obtain rfl:P=.none:=Dflts.none B hdf;obtain rfl:kV=.none:=Dflts.noKw B;obtain⟨a,vs,ns,rfl,rfl,g,c,j⟩:=Mi hn e m;refine enter_call<|iO (call w s₀ s₁ mg mb fa o pm cd doc a vs ns G Y M (fd_plain J) p k g c j hg) λr s' N=>?_;obtain⟨rfl,h2,h3,T⟩:=N;exact⟨.inl ⟨.bool true,.bool true,[],rfl,λ_=>rfl,.bool true,Lg l _,λ_=>⟨List.Pairwise.nil,λ_ L=>(nomatch L)⟩⟩,h2,h3,T⟩
end Att
namespace L2
open PySem PySem.Spec PyProof.Rows
theorem B9:∀{vs:ba}{ns:ag},IntsAre vs ns->Vals (ns.map V.int) vs
 | _,_,.nil=>.nil
 | _,_,.cons n t h=>.cons ⟨t,rfl⟩<|B9 h
abbrev Sf (H:Hp):Prop:=∀b,H b=none\/∃o xs,H b=some (.frz o<|.lst xs)
def Q3{P:aj}{w:ah}{K:au}{mg mb:Str->bd}{CX:PN}{k:Nat}{fa a:ak}{x:Str}{sp:Sp}{s₁:aA}{vs:ba}{ns:ag}
  (KX:K.In s₁.heap) (hns:s₁.heap.Ns mainGlobals mg) (hb:s₁.heap.Ns builtinsNs mb) (hbb:∀x:Str,x ≠ "__name__" -> mb x=bootBuiltins x) (hlim:s₁.heap.NoLimit) (hg:s₁.gens=#[])
  (ha:s₁.heap.get? a=some { cls:=.type "list",data:=.seq vs.toArray }) (hi:IntsAre vs ns) (hl:ns.length<=sizeLine) (hr:Room k callerA)
  (F:∀base:aq,K.In base->base.Ns mainGlobals mg->FnOk P w K mg base CX k fa fd [x] sp) (hbind:∀(s:aA) (u:af),BindsTo s fd ⟨[u],[]⟩ [(x,u)])
  (hsp:∀H:Hp,Sf H->pS K H a (ns.map V.int)->sp [.ref a] H (λv _=>v=.bl true) λ_ _ _=>False)
  (hCX:∀H e s',CX [] H s₁ (λ_ _ _=>False) e s'->False) :
  codeAny (model P w) callerA (.call (.ref fa) ⟨[.ref a],[]⟩) (λr s'=>r=.ok (.ret<|.bool true)/\OldK s₁.heap s'.heap/\s'.os=s₁.os/\AllBare s'.gens) s₁:=by
 have N:=B9 hi;have p:=hi.length;have g:∀H:Hp,Sf H->pS K H a (ns.map V.int)->vL P w H s₁.heap->(∀b,H b≠none->b=a)->(H a≠none->K.lookup a=none) ->
   codeAny (model P w) callerA (.call (.ref fa) ⟨[.ref a],[]⟩) (λr s'=>r=.ok (.ret<|.bool true)/\OldK s₁.heap s'.heap/\s'.os=s₁.os/\AllBare s'.gens) s₁:=by
  intro H O hS hok M hK;have c:∀{b:ak} {o:Obj},s₁.heap.get? b=some o->H b=none->(C5 s₁.heap H).get? b=some o:=λe n=>P5 e n;have G:∀{b:ak} {o:Obj} {es:Array DictEntry} {ep:Nat},s₁.heap.get? b=some o->o.data=.dict es ep->H b=none:=λ{b o es ep} e d=>by
   cases q:H b with
   | none=>rfl
   | some u=>
    have L:b=a:=M b (by rw[q];simp);subst L;rw[ha]at e;cases e;have W:Data.seq vs.toArray _=Data.dict es ep:=d
    cases W
  have f:∀{b:ak} {m:Str->bd},s₁.heap.Ns b m->(C5 s₁.heap H).Ns b m:=λ{b m} ⟨o,es,ep,e,d,r⟩=>⟨o,es,ep,c e<|G e d,d,r⟩;have C:K.In (C5 s₁.heap H):=λb o e=>c (KX b o e) (by
   cases q:H b with
   | none=>rfl
   | some u=>
    have L:b=a:=M b (by rw[q];simp);subst L;rw[hK<|by rw[q];simp]at e;cases e)
  have T:Mod K mg (C5 s₁.heap H):=⟨C,f hns,⟨mb,f hb,hbb⟩,let⟨mc,h1,h2⟩:=hlim;⟨mc,f h1,h2⟩⟩;have e0:Env0 P w K mg (C5 s₁.heap H) callerA [] s₁ H:=⟨rfl,T,λb o e=>Sy e,Nat.le_of_eq<|K_ _ _,trivial,λb hb=>absurd (show b∈([]:bb)from hb)<|by simp,hok,.of_eq hg⟩;refine iO ((F _ C<|f hns).run callerA [] s₁ H ⟨[.ref a],[]⟩ [.ref a] [.ref a] _ _ hr e0 (hbind s₁<|.ref a) (.cons rfl .nil)<|hsp H O hS) λr s' h=>?_
  cases r with
  | error e=>exact(hCX H e s' h).elim
  | ok fl=>
   cases fl with
   | next=>exact False.elim h
   | brk=>exact False.elim h
   | cont=>exact False.elim h
   | ret u=>
    obtain⟨v,H',os,t,un,j,Z,q⟩:=h;have q':v=.bl true:=q;subst q';obtain rfl:u=Value.bool true:=Z;refine⟨rfl,OldK.of_keep λb o e=>?_,os,t⟩
    cases q:H b with
    | none=>exact un.keep b o e q (by intro z;exact absurd (show b∈([]:bb)from z)<|by simp) (by simp)
    | some u=>
     rcases O b with z|⟨U,xs,z⟩
     ·rw[q]at z;cases z
     ·have Y:=un.frzs b U _ z;obtain⟨e1,_⟩:=hok b _ z;obtain⟨e2,_⟩:=j b _ Y;rw[e]at e1;cases e1;exact e2
 cases J:K.lookup a with
 | some o=>
  have e:=KX a o J;rw[ha]at e
  cases e
  refine g (λ_=>none) (λ_=>.inl rfl) (.inr ⟨_,vs.toArray,_,J,rfl,rfl,rfl,by rw[aZ,p];exact hl,by simpa using N⟩) (λb u z=>by have B:(none:Option HO)=some u:=z;cases B) (λb z=>absurd rfl z) λz=>absurd rfl z
 | none=>
  refine g (λb=>if b=a then some (.frz { cls:=.type "list",data:=.seq vs.toArray } (.lst<|ns.map V.int))else none) (λb=>?_) (.inl<|.inr ⟨{ cls:=.type "list",data:=.seq vs.toArray },aS rfl⟩) (λb u z=>?_) (λb z=>?_) λ_=>J
  ·by_cases hb:b=a
   ·exact .inr ⟨_,_,aS hb⟩
   ·exact .inl<|aQ hb
  ·by_cases hb:b=a
   ·have B:=(aS hb).symm.trans z
    cases B
    subst hb;exact⟨ha,by rw[aG];exact hl,vs,_,N,ha⟩
   ·have B:=(aQ hb).symm.trans z
    cases B
  ·by_cases hb:b=a
   ·exact hb
   ·exact absurd (aQ hb) z
def Ui{l:PySem.W.OpenLaw}{n k:Nat}{q:aj}{XP:(Str->bd)->aq->Prop}{YP:ah->aq->Prop}{d:DefRec}{K:Params->au}{CX:ah->PN}{sp:ah->Sp}{x:Str}
  (hn:l.most=some n) (hn2:n<=sizeLine) (hdf:d.params.defaults=[]) (hr:Room k callerA)
  (hY:∀(w:ah) (h:aq),YP w h->(K w.params).In h)
  (F:∀(w:ah) (mg:Str->bd) (fa:ak) (h:aq),(K w.params).In h->h.Ns mainGlobals mg->mg d.name=some (.ref fa) ->
   ∃fd:FuncData,(∀(s:aA) (u:af),BindsTo s fd ⟨[u],[]⟩ [(x,u)]) /\
    ∀base:aq,(K w.params).In base->base.Ns mainGlobals mg->FnOk l.prog w (K w.params) mg base (CX w) k fa fd [x] (sp w))
  (hsp:∀(w:ah) (H:Hp) (a:ak) (ns:ag),ns.length<=n->Sf H->pS (K w.params) H a (ns.map V.int)->sp w [.ref a] H (λv _=>v=.bl true) λ_ _ _=>False)
  (hCX:∀(w:ah) (H:Hp) (s:aA) (e:af) (s':aA),CX w [] H s (λ_ _ _=>False) e s'->False) :
  PySem.W.WalkO q loose XP YP l.row.toRowW d [] (λf vs=>PySem.call f vs):=by
 refine Att.Fq hn hdf λw C m mg Z fa o U cd L a vs ns G Y ho P M t p j c hg=>?_;have B:=hY w _ Y;obtain⟨fd,J,O⟩:=F w mg fa _ B G.T.g t;exact Q3 B G.T.g G.T.b G.T.builtins G.T.nolimit hg p j (bF c hn2) hr O J (λH N hS=>hsp w H a ns c N hS) λH e s'=>hCX w H m e s'
abbrev vh (s:aE):Arguments:=match s with
 | .FunctionDef _ a _ _ _ _ _ _ _ _=>a
 | _=>{ posonlyargs:=[],args:=[],vararg:=none,kwonlyargs:=[],kw_defaults:=[],kwarg:=none,defaults:=[]}
abbrev nR (s:aE):List aE:=match s with
 | .FunctionDef _ _ b _ _ _ _ _ _ _=>b
 | _=>[]
abbrev jN (s:aE):Scope:=match s with
 | .FunctionDef _ _ _ _ _ _ c _ _ _=>c
 | _=>{ kind:=.function,names:=[],isGenerator:=false,isCoroutine:=false }
meta abbrev rQ:PN:=λ_ _ _ _ _ _=>False
meta abbrev E0:XK:=λ_ _ _=>False
def Z9{X:Cx}:Passes rQ X E0:=λ_ _ _ _ _ _ _ h=>h.elim
structure Fun (K:au)(x qual:Str)(st:aE)(f:ak)(fd:FuncData):Prop where
 ex:∃(oc:af) (od:Option ak) (kV doc pm:af) (an:Option ak) (cdv ct:af) (osl:Array<|bd),
  fd=PySem.W.fnOf x qual (vh st) (nR st) (jN st) .none kV doc pm an cdv ct/\K.lookup f=some ⟨oc,od,.func fd,osl⟩/\PySem.W.codeIn K cdv qual=true
 kp:PySem.W.keepIn K (.ref f)=true
section
variable {P:aj}{w:ah}{K:au}{mg:Str->bd}{base:aq}
def Fun.ok{x:Str}{st:aE}{f:ak}{N ps:ar}{k:Nat}{sp:Sp}(F:Fun K x qual st f fd)(S:FnScope N ps<|jN st)(len:∀vs H Q E,sp vs H Q E->vs.length=ps.length)
  (hbody:∀(cdv:af) (A:az) (outer:List Env) (s:aA) (H:Hp) (vs:List V) (Q:VK) (E:XK),Room k (A.deeper<|envOfC qual (jN st) s.heap.objs.size f cdv)->sp vs H Q E ->
   ∃t,Bp (xy rQ P w K mg base N qual (jN st) f cdv A outer s H E).nox (nR st) t/\t { nx:=λ_ H'=>Q .non H',rt:=Q } (start N vs) H):FnOk P w K mg base rQ (k+1) f fd ps sp:=by
 obtain⟨B,G,kV,g,p,C,cdv,ct,m,rfl,e,c⟩:=F.ex;refine VT e c S len λA outer s H vs Q E j d=>?_;obtain⟨t,h,q⟩:=hbody cdv A outer s H vs Q E j d;exact⟨t,h.nox,q⟩
def Fun.binds{x:Str}{st:aE}{f:ak}{ps:ar}(F:Fun K x qual st f fd)
  (h:∀(kV doc pm:af) (an:Option ak) (cdv ct:af) (us:ba),us.length=ps.length->bindArgs (PySem.W.fnOf x qual (vh st) (nR st) (jN st) .none kV doc pm an cdv ct) ⟨us,[]⟩=pure (ps.zip us)):Binds K fd ps []:=by
 obtain⟨j,e,kV,doc,pm,an,cdv,ct,d,rfl,g,c⟩:=F.ex;exact .all<|h kV doc pm an cdv ct
def Yt{x:Str}{st:aE}{f:ak}{kV pm ct:af}(l:K.lookup f=some ⟨oc,od,.func<|PySem.W.fnOf x qual (vh st) (nR st) (jN st) .none kV doc pm an cdv ct,osl⟩)
  (c:PySem.W.codeIn K cdv qual=true) (k:PySem.W.keepIn K (.ref f)=true):Fun K x qual st f (PySem.W.fnOf x qual (vh st) (nR st) (jN st) .none kV doc pm an cdv ct):=⟨⟨oc,od,kV,doc,pm,an,cdv,ct,osl,rfl,l,c⟩,k⟩
end
set_option maxHeartbeats 4000000
abbrev XM (σ:St):bj->Option V
 | some j=>(σ[j]?).getD none
 | none=>none
abbrev xq (env:Env):List (Str×NameKind)->List (Str×ak)->List (Str×ak)
 | [],cs=>cs
 | (n,k)::r,cs=>xq env r (if k == .free then(n,(env.cells.lookup n).getD 0)::cs else cs)
def GA{scope:Scope}{env:Env}(h:∀y∈scope.names,y.2=.free->∃c,env.cells.lookup y.1=some c):closureFor scope env=pure (xq env scope.names []):=by
 have e:∀(l:List<|Str×NameKind) (cs:List<|Str×ak),(∀y∈l,y.2=.free->∃c,env.cells.lookup y.1=some c) ->
   (forIn l cs (λ(x:Str×NameKind) (r:List<|Str×ak)=>(match x with
    | (name,kind)=>if (kind == NameKind.free)=true then(do let c <- cellOf env name;pure (ForInStep.yield ((name,c)::r)))else pure (ForInStep.yield r):Sem<|ForInStep<|List<|Str×ak)))=(pure (xq env l cs):Sem<|List<|Str×ak):=by
  intro l
  induction l with
  | nil=>intro cs _;rfl
  | cons y r j=>
   intro cs f;obtain⟨n,k⟩:=y;rw[List.forIn_cons];by_cases m:k=.free
   ·subst m;obtain⟨c,hc⟩:=f (n,.free) aN rfl;have e1:cellOf env n=pure c:=by
     unfold cellOf;rw[hc]
    dsimp[cG,eZ,e1,pure_bind];rw[j _ λz d=>f z<|aK _ d];dsimp[xq,cG,eZ,hc,iA]
   ·have g:(k == NameKind.free)=false:=by simpa using m
    dsimp[g,bH,cQ,pure_bind];rw[j _ λz d=>f z<|aK _ d];dsimp[xq,g,bH,cQ]
 have:=e scope.names [] h;exact(c7 (λz=>z >>= λcs=>(pure cs:Sem<|List<|Str×ak)) this).trans (pure_bind _ _)
theorem A3:∀{l:List<|Str×NameKind}{x:Str}{k:NameKind},l.lookup x=some k->(x,k)∈l
 | [],_,_,h=>nomatch h
 | (n,k')::r,x,k,h=>by
  rw[dO]at h
  cases c:x == n with
  | true=>
   rw[c]at h;have e:x=n:=by simpa using c
   subst e
   cases h
   exact aN
  | false=>rw[c]at h;exact aK _<|A3 h
theorem Cg{env:Env}{x:Str}{c:ak}:∀{l:List<|Str×NameKind}{cs:List<|Str×ak},(∀y∈l,y.2=.free->∃c,env.cells.lookup y.1=some c)->(xq env l cs).lookup x=some c->env.cells.lookup x=some c\/cs.lookup x=some c
 | [],cs,_,h=>.inr h
 | (n,k)::r,cs,hl,h=>by
  have h':=Cg (l:=r) (λz j=>hl z<|aK _ j) h
  rcases h' with h'|h'
  ·exact .inl h'
  ·by_cases f:k=.free
   ·subst f;dsimp[cG,eZ]at h';obtain⟨m,hc⟩:=hl (n,.free) aN rfl;rw[hc,iA,dO]at h'
    cases d:x == n with
    | true=>
     rw[d]at h';have e:x=n:=by simpa using d
     subst e;left;rw[hc];exact h'
    | false=>rw[d]at h';exact .inr h'
   ·have g:(k == NameKind.free)=false:=by simpa using f
    dsimp[g,bH,cQ]at h';exact .inr h'
theorem BV{env:Env}{x:Str}:∀{l:List<|Str×NameKind}{cs:List<|Str×ak},(cs.lookup x).isSome=true->((xq env l cs).lookup x).isSome=true
 | [],cs,h=>h
 | (n,k)::r,cs,h=>by
  skip
  refine BV (l:=r) ?_;by_cases c:(k == NameKind.free)=true
  ·rw[aS c,dO]
   cases d:x == n with
   | true=>rfl
   | false=>exact h
  ·rw[aQ c];exact h
theorem An{env:Env}{x:Str}:∀{l:List<|Str×NameKind}{cs:List<|Str×ak},(x,NameKind.free)∈l->((xq env l cs).lookup x).isSome=true
 | [],_,h=>nomatch h
 | (n,k)::r,cs,h=>by
  rcases bg.mp h with e|h
  ·cases e
   skip
   refine BV (l:=r) ?_;rw[aS<|by rfl,dO];simp
  ·exact An (l:=r) h
theorem qT:∀(names:List<|Str×NameKind) (n:Nat) (acc:List<|Str×ak),cellsFrom n names acc=cellsFrom n names []++acc
 | [],_,_=>rfl
 | (x,k)::r,n,acc=>by
  unfold cellsFrom;split
  ·rw[qT r (n+1) ((x,n)::acc),qT r (n+1) [(x,n)],cH];rfl
  ·exact qT r n acc
theorem zH:∀(names:List<|Str×NameKind) (n:Nat) {x:Str}{c:ak},(x,c)∈cellsFrom n names []->(x,NameKind.cell)∈names
 | [],_,_,_,h=>nomatch h
 | (y,k)::r,n,x,c,h=>by
  unfold cellsFrom at h;split at h
  ·rename_i d;rw[qT]at h
   rcases bE.mp h with z|z
   ·exact aK _ (zH r _ z)
   ·rw[aM]at z
    cases z
    have:k=.cell:=by simpa using d
    rw[this];exact aN
  ·exact aK _<|zH r _ h
theorem wU{α:Type}{x:Str}:∀{l m:List<|Str×α},(l++m).lookup x=match l.lookup x with|some c=>some c|none=>m.lookup x
 | [],_=>rfl
 | (y,c)::l,m=>by
  rw[ja,dO,dO]
  cases x == y with
  | true=>rfl
  | false=>exact wU
def RU{n:Nat}{acc:List<|Str×ak}{x:Str}{c:ak}(h:(cellsFrom n names acc).lookup x=some c):(cellsFrom n names []).lookup x=some c\/((cellsFrom n names []).lookup x=none/\acc.lookup x=some c):=by
 rw[qT,wU]at h
 cases e:(cellsFrom n names []).lookup x with
 | some d=>rw[e]at h;exact .inl h
 | none=>rw[e]at h;exact .inr ⟨rfl,h⟩
def Wv{n:Nat}{acc:List<|Str×ak}{x:Str}(h:(x,NameKind.cell)∉names):(cellsFrom n names acc).lookup x=acc.lookup x:=by
 rw[qT,wU]
 cases e:(cellsFrom n names []).lookup x with
 | some d=>exact absurd (zH names n<|cD e) h
 | none=>rfl
def RJ{A:az}{E:af->aA->Prop}{s:aA}{scope:Scope}{globals:ak}{cl:List<|Str×ak}{env:Env}{Q:Env->aA->Prop}
  (hQ:∀h':aq,h'.Ns s.heap.objs.size (λ_=>none)->(∀b o,s.heap.get? b=some o->h'.get? b=some o)->CellsOk h' (s.heap.objs.size+1) (cellsFrom (s.heap.objs.size+1) scope.names []) ->
   Q (newEnv scope s.heap.objs.size globals (cellsFrom (s.heap.objs.size+1) scope.names cl) qual none .none (some env) builtinsNs) { s with heap:=h',toks:=s.toks+([]:List<|Str×af).length }) :
  wpAny M A (newFunctionEnv scope globals cl [] qual none .none<|some env) Q E s:=by
 dsimp[newFunctionEnv,iR,eZ];refine aH<|wpAny_alloc ?_;refine aH (wpAny_layCells _ (λname kind c=>by cases d:kind == NameKind.cell<;>simp[d]) _ _ _ _ ?_);have ok:=cellsFrom_ok scope.names (s.heap.push { cls:=.type "dict",data:=.dict #[]}) (s.heap.objs.size+1) [] ⟨λ_ _ f=>(nomatch f),List.Pairwise.nil⟩ (by rw[c6];exact aL _);rw[c6]at ok;rw[show({ s with heap:=s.heap.push { cls:=.type "dict",data:=.dict #[]}}:aA).heap.objs.size=s.heap.objs.size+1 from c6 ..];rw[ju];refine aH<|aP<|aP ?_;exact hQ _ ((Heap.Ns.new s.heap<|.type "dict").keeps<|pushCells_keeps _ _) (λb o e=>pushCells_keeps _ _ b o<|aR _ e) ok
abbrev nq (X:Cx)(scope:Scope)(N:ar)(C:ak)(s₀:aA)(H₀:Hp)(ex:bb):Cx where
 prog:=X.prog
 w:=X.w
 K:=X.K
 mg:=X.mg
 base:=X.base
 A:=X.A
 N:=N
 s₀:=s₀
 H₀:=H₀
 env:=compEnvC scope (cellsFrom (C+1) scope.names<|xq X.env scope.names []) C X.env
 outer:=X.stack
 stack:=X.stack
 ex:=ex
 fn:=λx=>scope.names.lookup x == some .cell
 calm:=X.calm
 pn:=[]
 xe:=λ_ _=>False
structure CpScope (X:Cx)(scope:Scope)(N:ar)(cap:List (bj)):Prop where
 kind:scope.kind=.function
 nocf:∀x,(x,NameKind.free)∈scope.names->(x,NameKind.cell)∉scope.names
 nm:∀y∈scope.names,y.2=.local->scope.names.lookup y.1=some .local
 fr:∀y∈scope.names,y.2=.free->X.env.kindOf y.1=some .cell\/X.env.kindOf y.1=some .free
 rl:∀y,((relabel scope X.env).names.lookup y=some .cell\/(relabel scope X.env).names.lookup y=some .free)->(y,NameKind.free)∈scope.names\/scope.names.lookup y=some .cell
 len:cap.length=N.length
 nolf:∀x,(x,NameKind.free)∈scope.names->scope.names.lookup x≠some .local
 cp:∀(i j:Nat) (x:Str),N[i]?=some x->cap[i]?=some (some j)->X.N[j]?=some x/\(x,NameKind.free)∈scope.names
def XZ{X:Cx}{scope:Scope}{N:ar}{cap:List<|bj}{H:Hp}{s:aA}{fp:bb}{h₁:aq}{m:Str->bd}{tk:Nat}(S:CpScope X scope N cap)(I:Inv X pins σ H s)
  (hf:∀b∈fp,xO X pins H b) (ho:∀b∈fp,∃o,s.heap.get? b=some o) (hn:h₁.Ns s.heap.objs.size m) (hC:CellsOk h₁ (s.heap.objs.size+1)<|cellsFrom (s.heap.objs.size+1) scope.names []) (hk:∀b o,s.heap.get? b=some o->h₁.get? b=some o) :
  Inv (nq X scope N s.heap.objs.size s H fp) [] (cap.map<|XM σ) H { s with heap:=h₁,toks:=tk }:=by
 have C:∀y∈scope.names,y.2=.free->∃c,X.env.cells.lookup y.1=some c:=λy hy e=>I.ok.has _<|S.fr y hy e;have Y:∀x c,(xq X.env scope.names []).lookup x=some c->X.env.cells.lookup x=some c:=λx c e=>by
  rcases Cg C e with z|z
  ·exact z
  ·cases z
 have f:∀x c,(cellsFrom (s.heap.objs.size+1) scope.names<|xq X.env scope.names []).lookup x=some c->((x,c)∈cellsFrom (s.heap.objs.size+1) scope.names []/\h₁.IsCell c none/\s.heap.objs.size+1<=c)\/X.env.cells.lookup x=some c:=λx c e=>by
  rcases RU e with z|z
  ·exact .inl ⟨cD z,hC.empty x c<|cD z⟩
  ·exact .inr<|Y x c z.2
 have old:∀x c,X.env.cells.lookup x=some c->c<s.heap.objs.size:=λx c e=>by
  obtain⟨v,z⟩:=I.cell x c e;exact z.lt
 have lt:∀b o,s.heap.get? b=some o->b≠s.heap.objs.size:=λb o e=>bA<|a_ e;refine⟨⟨I.ok.mod,?_,I.ok.glob,I.ok.blt,aL _,?_,?_,?_,I.ok.hd,I.ok.frames,.inl rfl,?_,I.bs,bF I.ok.bsz I.sz,?_,?_,I.stack,I.yZ⟩,rfl,I.bare,Un.kept hk,?_,?_,I.hok.fresh<|aL _,?_,?_,I.hok.kept hk,?_⟩
 ·exact S.kind
 ·intro x y c e1 e2
  rcases f x c e1 with a|a
  ·rcases f y c e2 with b|b
   ·exact name_of_addr hC.apart a.1 b.1
   ·exact absurd (old y c b)<|not_lt.mpr<|dJ a.2.2
  ·rcases f y c e2 with b|b
   ·exact absurd (old x c a) (not_lt.mpr<|dJ b.2.2)
   ·exact I.ok.inj x y c a b
 ·intro x e;refine cN.mp (dM _ _ _ ?_)
  rcases S.rl x e with t|t
  ·exact .inr (An (env:=X.env) (cs:=[]) t)
  ·exact .inl t
 ·intro x c e J;have e:scope.names.lookup x=some .cell:=by
   have e:(scope.names.lookup x == some .cell)=true:=e;simpa using e
  obtain⟨d,hd⟩:=cN.mp<|dM scope.names (s.heap.objs.size+1) []<|.inl e;have J:(cellsFrom (s.heap.objs.size+1) scope.names<|xq X.env scope.names []).lookup x=some c:=J;rw[qT,wU,hd]at J
  cases J
  exact dJ (hC.empty x c<|cD hd).2
 ·intro b G;obtain⟨o,e⟩:=ho b G;refine⟨lt b o e,λx c e2=>?_⟩
  rcases f x c e2 with z|z
  ·exact iN (ji (a_ e) z.2.2)
  ·exact(hf b G).2.2.2.2.1 x c z
 ·intro b o e G;obtain⟨_,_,_,h3,_⟩:=hf b G
  rcases h3 with z|z
  ·exact I.ok.noex b o e z
  ·exact absurd (bI (a_ (I.ok.bs b o e).1) z)<|dN _
 ·intro b G Z;obtain⟨_,h1,h2,_⟩:=hf b G
  rcases bg.mp (I.Ar b Z)with z|z
  ·exact h1 z
  ·exact h2 z
 ·refine⟨m,hn,λi x v e1 e2 e3=>?_⟩;rw[aV]at e2
  cases hc:cap[i]? with
  | none=>rw[hc]at e2;cases e2
  | some oj=>
   rw[hc]at e2
   cases oj with
   | none=>cases e2
   | some j=>
    have g:(σ[j]?).getD none=some v:=aX e2;obtain⟨hj,t⟩:=S.cp i j x e1 hc;obtain⟨m0,hn0,W⟩:=I.loc;have U:σ[j]?=some (some v):=by
     cases h:σ[j]? with
     | none=>rw[h]at g;cases g
     | some z=>rw[h,iA]at g;rw[g]
    have M:=S.fr (x,.free) t rfl;have hv:Vis X.env.scope x:=.inr M;obtain⟨u,ru,O⟩:=W j x v hj U hv;refine⟨u,ru,?_⟩
    rcases O with⟨O,_⟩|⟨_,c,J,ic⟩
    ·rcases M with z|z<;>(rw[z]at O;cases O)
    ·have h2:=An (env:=X.env) (cs:=[]) t;obtain⟨T,F⟩:=cN.mp h2;have:T=c:=aX<|(Y x T F).symm.trans J;subst this;refine .inr ⟨?_,T,(Wv<|S.nocf x t).trans F,?_⟩
     ·rcases e3 with z|z|z
      ·exfalso;have:(relabel scope X.env).names.lookup x=some .local:=z;have L:scope.names.lookup x=some .local:=by
        have K:∃k,(x,k)∈(relabel scope X.env).names/\k=.local:=by
         clear F h2;have:=A3 this;exact⟨_,this,rfl⟩
        obtain⟨k,P,rfl⟩:=K;obtain⟨⟨n',k'⟩,V,q⟩:=br.mp P;dsimp only at q;split at q
        ·cases q
        ·cases q
         exact S.nm (x,.local) V rfl
       exact False.elim<|S.nolf x t L
      ·exact .inl z
      ·exact .inr z
     ·obtain⟨o,B,hd⟩:=ic;exact⟨o,hk _ _ B,hd⟩
 ·intro x c e
  rcases f x c e with z|z
  ·exact⟨_,z.2.1⟩
  ·obtain⟨v,o,B,hd⟩:=I.cell x c z;exact⟨v,o,hk _ _ B,hd⟩
 ·intro x c e
  rcases f x c e with z|z
  ·exact I.hok.fresh (dJ z.2.2)
  ·exact I.freeC x c z
 ·intro p hp
  cases hp
 ·rw[aG,S.len];rfl
abbrev Vk (X:Cx)(ifs:List aC)(t:TT):Prop:=
 ∀(pins:bo) (s:aA) (σ:St) (H:Hp) (Q:Bool->Hp->Prop),Inv X pins σ H s->t σ H Q ->
  wpAny (model X.prog X.w) X.A (forIn ifs true λc r=>if r=true then do let ok <- isTrue c X.env (eval c X.env);pure (ForInStep.yield ok)else pure (ForInStep.yield r)) (TP X pins σ Q) X.xe s
abbrev abD:TT:=λ_ H Q=>Q true H
def RQ{X:Cx}:Vk X [] abD:=λ_ _ _ H _ I h=>wpAny_tests_nil ⟨H,I,h⟩
def Tf{X:Cx}{c:aC}{t:TT}(h:PT X c t):Vk X [c] t:=λpins s σ H Q I q=>wpAny_tests_one<|h pins s σ H Q I q
abbrev WC (cap:List<|bj)(g:TG)(tc:TT)(te:TE)(σ:St)(Q:VK)(J:It)(H1:Hp):Prop:=∀D,H1 D=none ->
 ∃W:Nat->Nat->St->Hp->Prop,(∃m,W 0 m (cap.map<|XM σ)<|upd H1 D<|.lst [])/\∀i m e H',W i m e H' ->
  (J.stop i H'/\Q (.ref D) H')\/(J.go i H'/\∀x H2,J.yld i H' x H2->g x e H2 λc H3=>tc c H3 λb j=>
   if b=true then te c j λy f=>∃ys,f D=some (.lst ys)/\ys.length<sizeLine/\∃d,d<m/\W (i+1) d c (upd f D<|.lst<|ys++[y])
   else ∃d,d<m/\W (i+1) d c j)
abbrev Zf (cap:List<|bj)(wi:TI)(g:TG)(tc:TT)(te:TE):TE:=λσ H Q=>wi σ H<|WC cap g tc te σ Q
def Sq{α:Type}{t:Sem α}{Q Q':α->aA->Prop}{A:az}{E:af->aA->Prop}(h:wpAny M A t Q (λ_ _=>False) s)(hQ:∀a s,Q a s->Q' a s):wpAny M A t Q' E s:=
 cZ h hQ λ_ _ f=>f.elim
structure TurnG (ok:Cx->Prop)(P:aj)(w:ah)(K:au)(tg:aC)(J:It)(fp:bb)(it:ak)(tn:Nat->aq->Prop):Prop where
 obj:∀i h,tn i h->∀b∈fp,∃o,h.get? b=some o/\∀v,o.data≠.cell v
 keep:∀i h h',tn i h->(∀b∈fp,∀o,h.get? b=some o->h'.get? b=some o)->tn i h'
 item:∀(X:Cx),X.prog=P->X.w=w->X.K=K->ok X->∀(i:Nat) (pins:bo) (s:aA) (σ:St) (H:Hp) (E:af->aA->Prop),Inv X pins σ H s->(∀b∈fp,xO X pins H b)->tn i s.heap->J.go i H ->
  wpAny (model P w) X.A (pyNext<|.ref it) (λr s1=>∃u,r=some u /\
   wpAny (model P w) X.A (letOwnedTupleGo tg (.ref it) u) (λ_ s2=>∃x H',Inv X pins σ H' s2/\RelV x u/\J.yld i H x H'/\tn (i+1) s2.heap/\∀b∈fp,H' b=none) E s1) E s
 done:∀(X:Cx),X.prog=P->X.w=w->X.K=K->ok X->∀(i:Nat) (pins:bo) (s:aA) (σ:St) (H:Hp) (E:af->aA->Prop),Inv X pins σ H s->(∀b∈fp,xO X pins H b)->tn i s.heap->J.stop i H ->
  wpAny (model P w) X.A (pyNext<|.ref it) (λr s1=>r=none/\Inv X pins σ H s1) E s
 self:∀(A:az) (i:Nat) (s:aA) (Q:af->aA->Prop) (E:af->aA->Prop),tn i s.heap->Q (.ref it) s->wpAny (model P w) A (pyIter<|.ref it) Q E s
abbrev acv (ok:Cx->Prop)(X:Cx)(pins:bo)(σ:St)(tg:aC)(R:It->Hp->Prop)(itv:af)(s2:aA):Prop:=
 ∃(it:ak) (fp:bb) (c:Nat->aq->Prop) (J:It) (H':Hp),itv=.ref it/\Inv X pins σ H' s2/\TurnG ok X.prog X.w X.K tg J fp it c/\c 0 s2.heap/\(∀b∈fp,xO X pins H' b)/\R J H'
abbrev YW (ok:Cx->Prop)(X:Cx)(tg iter:aC)(wi:TI):Prop:=
 ∀(pins:bo) (s:aA) (σ:St) (H:Hp) (R:It->Hp->Prop),Inv X pins σ H s->wi σ H R ->
  wpAny (model X.prog X.w) X.A (eval iter X.env) (λv c=>wpAny (model X.prog X.w) X.A (pyIter v) (acv ok X pins σ tg R) X.xe c) X.xe s
def PI.g{X:Cx}{iter:aC}{wi:TI}(h:PI X tg iter wi):YW (λY=>Y.calm=true) X tg iter wi:=λpins s σ H R I q=>
 nc (h pins s σ H R I q) λv k h1=>nc h1 λj m ⟨it,fp,d,J,H',e,f,T,a,b,c⟩=>⟨it,fp,d,J,H',e,f,⟨T.obj,T.keep,T.item,T.done,T.self⟩,a,b,c⟩
def Ct{ok:Cx->Prop}{X:Cx}{use:Option<|af->Sem Unit}{Q':af->aA->Prop}{iter:aC}{N:ar}{wi:TI}{g:TG}{tc:TT}{te:TE}(S:CpScope X scope N cap)(hok:∀C s₀ H₀ ex,(∀a o u,X.H₀ a=some (.frz o u)->H₀ a=some (.frz o u))->ok (nq X scope N C s₀ H₀ ex))(hi:YW ok X tg iter wi)
  (hg:∀C s₀ H₀ ex,PG (nq X scope N C s₀ H₀ ex) tg g) (ht:∀C s₀ H₀ ex,Vk (nq X scope N C s₀ H₀ ex) ifs tc) (he:∀C s₀ H₀ ex,PE (nq X scope N C s₀ H₀ ex) elt te)
  (hs:(∀x,foldedSetIterable iter X.env x=pure x)<|>ζ):∀(pins:bo) (s:aA) (σ:St) (H:Hp) (Q:VK),Inv X pins σ H s->Zf cap wi g tc te σ H Q ->
  (∀(s6:aA) (C D:ak) (H5:Hp) (m:Str->bd),s6.heap.Ns C m->xO X pins H5 C->(∀h',Heap.SameBut C s6.heap h'->Inv X pins σ H5 { s6 with heap:=h' })->Q (.ref D) H5->∀v,compPost (model X.prog X.w) X.A X.xe use Q' (.ref D) C (.ok v) s6) ->
  wpAny (model X.prog X.w) X.A (comprehension (.ListComp elt [⟨tg,iter,ifs,0⟩] scope pos) scope X.env (firstIterPos [⟨tg,iter,ifs,0⟩] pos) (newList []) (firstAsync [⟨tg,iter,ifs,0⟩]) (firstIter [⟨tg,iter,ifs,0⟩] X.env) use) Q' X.xe s:=by
 intro pins s σ H Q I h hfin;have hfree:∀y∈scope.names,y.2=.free->∃c,X.env.cells.lookup y.1=some c:=λy hy e=>I.ok.has _<|S.fr y hy e;refine wpAny_comprehension_free (use:=use) rfl hs (GA hfree) S.kind S.nm<|nc (hi pins s σ H _ I h) λxv s1 h1=>nc h1 λitv f h2=>?_;obtain⟨it,fp,tn,J,H2,rfl,I2,T,st2,f2,h2⟩:=h2;refine cR<|RJ λP t old B=>?_;obtain⟨W,⟨m0,w0⟩,turn⟩:=h2 f.heap.objs.size I2.fresh;dsimp only at t old B ⊢;have I3:Inv X pins σ (upd H2 f.heap.objs.size<|.lst []) { f with heap:=f.heap.push {}}:=I2.XH (t':=f.toks) (its:=[]) .nil<|bM _;have hfp:∀b∈fp,∃o,f.heap.get? b=some o:=λb j=>by
  obtain⟨o,e,_⟩:=T.obj 0 _ st2 b j;exact⟨o,e⟩
 have neD:∀b∈fp,b≠f.heap.objs.size:=λb j=>by
  obtain⟨o,e⟩:=hfp b j;exact bA<|a_ e
 have f3:∀b∈fp,xO X pins (upd H2 f.heap.objs.size<|.lst []) b:=λb j=>⟨by rw[jL<|neD b j];exact(f2 b j).1,(f2 b j).2⟩;have hDC:f.heap.objs.size≠(f.heap.push {}).objs.size:=by rw[c6];exact bA (eS _)
 have I4:=XZ (tk:=f.toks+([]:List<|Str×af).length) (fp:=fp) S I3 f3 (λb j=>by
  obtain⟨o,e⟩:=hfp b j;exact⟨o,aR _ e⟩) t B old
 have st4:tn 0 P:=T.keep _ _ _ st2 λb j o e=>old b o<|aR _ e;have hc:=hok (f.heap.push {}).objs.size { f with heap:=f.heap.push {}} (upd H2 f.heap.objs.size<|.lst []) fp λa o u e=>by
  have z:=I2.base.frzs a o u e;rw[jL λq=>by rw[q,I2.fresh]at z;cases z];exact z
 have K:∀{H':Hp},(∀b∈fp,H' b=none)->∀b∈fp,xO (nq X scope N (f.heap.push {}).objs.size { f with heap:=f.heap.push {}} (upd H2 f.heap.objs.size<|.lst []) fp) [] H' b:=λhn b j=>by
  have ok:=I4.ok;refine⟨hn b j,(ok.exf b j).1,ok.exfs b j,.inl j,λx c e=>(ok.exf b j).2 x c e,λp hp=>nomatch hp⟩
 have U:∀s4:aA,s4={ f with heap:=P,toks:=f.toks+([]:List<|Str×af).length } ->
   codeAny (model X.prog X.w) X.A (.compLoop (.ListComp elt [⟨tg,iter,ifs,0⟩] scope pos) 0 (.ref it) (.ref f.heap.objs.size)<|compEnvC scope (cellsFrom ((f.heap.push {}).objs.size+1) scope.names<|xq X.env scope.names []) (f.heap.push {}).objs.size X.env)
    (compPost (model X.prog X.w) X.A X.xe use Q' (.ref f.heap.objs.size) (f.heap.push {}).objs.size) s4:=by
  rintro s4 rfl;refine codeAny_loop rfl (λn s'=>∃i L H',Inv (nq X scope N (f.heap.push {}).objs.size { f with heap:=f.heap.push {}} (upd H2 f.heap.objs.size<|.lst []) fp) [] L H' s'/\tn i s'.heap/\(∀b∈fp,H' b=none)/\W i n L H') (λn s5 hI=>?_) m0 ⟨0,_,_,I4,st4,λb j=>(f3 b j).1,w0⟩;obtain⟨i,O,H5,I5,st5,fr5,w5⟩:=hI;show wpAny _ X.A ((compTurn (.ListComp elt [⟨tg,iter,ifs,0⟩] scope pos) 0 (.ref it) (.ref f.heap.objs.size)<|compEnvC scope (cellsFrom ((f.heap.push {}).objs.size+1) scope.names<|xq X.env scope.names []) (f.heap.push {}).objs.size X.env).onRaise λx=>do noteFrame x _;theTreesLotGoes x) _ _ s5;refine wpAny_noted ?_;rw[compTurn_list];refine aH (i_<|aH ?_)
  rcases turn i n O H5 w5 with⟨stop,q⟩|⟨go,step⟩
  ·refine nc (T.done (nq X scope N (f.heap.push {}).objs.size { f with heap:=f.heap.push {}} (upd H2 f.heap.objs.size<|.lst []) fp) rfl rfl rfl hc i [] s5 O H5 _ I5 (K fr5) st5 stop) λr s6 h9=>?_;obtain⟨hr,I6⟩:=h9;subst hr;obtain⟨m6,hn6,_⟩:=I6.loc;refine aP<|hfin s6 _ _ H5 m6 hn6 (I3.Bk (aL _) I6.free) (λh' sb=>?_) q _;have V:=I6.base;have nC:∀b o,(f.heap.push {}).get? b=some o->b≠(f.heap.push {}).objs.size:=λb o e=>bA<|a_ e;refine I3.Rf (ch:=fp) I6.os ⟨λb o e n j Z=>?_,λb o e n j Z=>?_,λb o e n Z=>?_,λb o e Z=>?_,V.tups,V.frzs,V.tbls⟩ ?_ I6.bare ?_
   ·exact sb.extBut b o (nC b o e) (V.keep b o e n j Z)
   ·obtain⟨sl,z⟩:=V.slot b o e n j Z;exact⟨sl,sb.extBut b _ (nC b o e) z⟩
   ·exact V.free b o e n Z
   ·obtain⟨o',z⟩:=V.there b o e Z;exact⟨o',sb.extBut b _ (nC b o e) z⟩
   ·intro b o e;have j:∀c v,H5 c=some v->c≠(f.heap.push {}).objs.size:=λc v e z=>by
     rw[z]at e;have:=I6.free;rw[show H5 (f.heap.push {}).objs.size=none from this]at e
     cases e
    refine(I6.hok b o e).stay (λc v hc q=>sb.extBut c v ?_ q) (λ_ q=>q) λ_ _ q=>q
    rcases hc with z|z
    ·rw[z];exact j b o e
    ·exact j c _ z
   ·intro b j;obtain⟨_,z1,_,z3,z4,z5⟩:=f3 b j;exact⟨z3,z1,z4,z5⟩
  ·refine nc (T.item (nq X scope N (f.heap.push {}).objs.size { f with heap:=f.heap.push {}} (upd H2 f.heap.objs.size<|.lst []) fp) rfl rfl rfl hc i [] s5 O H5 _ I5 (K fr5) st5 go) λr s6 h9=>?_;obtain⟨u,hr,h6⟩:=h9;subst hr;refine aH<|nc h6 λ_ s7 ⟨x,H7,I7,r7,y7,Y,fr7⟩=>?_;have I7':=I7.pinned (K fr7)<|T.obj _ _ Y;refine aH<|Sq (hg _ _ _ fp _ s7 O H7 x u _ I7' r7<|step x H7 y7) λ_ s8 ⟨G,H8,I8,q8⟩=>?_;refine aH<|Sq (ht _ _ _ fp _ s8 G H8 _ I8 q8) λok s9 ⟨H9,I9,q9⟩=>?_;have again:∀{F:aA} {k:Hp},Inv (nq X scope N (f.heap.push {}).objs.size { f with heap:=f.heap.push {}} (upd H2 f.heap.objs.size<|.lst []) fp) ([]++AD fp s7.heap) G k F->(∃m',m'<n/\W (i+1) m' G k) ->
     ∃m,m<n/\∃i L H',Inv (nq X scope N (f.heap.push {}).objs.size { f with heap:=f.heap.push {}} (upd H2 f.heap.objs.size<|.lst []) fp) [] L H' F/\tn i F.heap/\(∀b∈fp,H' b=none)/\W i m L H':=λ{F k} M h9=>by
    obtain⟨m',hm,w10⟩:=h9;refine⟨m',hm,i+1,G,k,M.sM,T.keep _ _ _ Y λb j o e=>(M.pin (b,o)<|bP _<|bP _<|pF j e).1,λb j=>?_,w10⟩;obtain⟨o,e,d⟩:=T.obj _ _ Y b j;exact(M.pin (b,o)<|bP _<|bP _<|pF j e).2.1
   cases ok with
   | false=>
    rw[aQ bG]at q9;exact aP ⟨rfl,again I9 q9⟩
   | true=>
    rw[aS rfl]at q9;refine aH<|aH<|Sq (he _ _ _ fp _ s9 G H9 _ I9 q9) λy F ⟨v10,k,M,r10,ys,hD,hz,w10⟩=>?_;refine aH<|Sq (BX _ F G k (.ref f.heap.objs.size) [v10] _ [y] (λ_ H'=>H'=upd k f.heap.objs.size (.lst<|ys++[v10])) M rfl (.cons r10 .nil) ⟨_,ys,v10,rfl,rfl,hD,hz,rfl⟩) λ_ s11 ⟨_,H11,I11,_,e11⟩=>?_;subst e11;exact aP<|aP ⟨rfl,again I11 w10⟩
 exact codeAny_compStart_list (U _ rfl)<|T.self _ 0 _ _ _ st4<|U _ rfl
def XD{ok:Cx->Prop}{X:Cx}{iter:aC}{N:ar}{wi:TI}{g:TG}{tc:TT}{te:TE}(S:CpScope X scope N cap)(hok:∀C s₀ H₀ ex,(∀a o u,X.H₀ a=some (.frz o u)->H₀ a=some (.frz o u))->ok (nq X scope N C s₀ H₀ ex))(hi:YW ok X tg iter wi)
  (hg:∀C s₀ H₀ ex,PG (nq X scope N C s₀ H₀ ex) tg g) (ht:∀C s₀ H₀ ex,Vk (nq X scope N C s₀ H₀ ex) ifs tc) (he:∀C s₀ H₀ ex,PE (nq X scope N C s₀ H₀ ex) elt te)
  (hs:(∀x,foldedSetIterable iter X.env x=pure x)<|>ζ):PE X (.ListComp elt [⟨tg,iter,ifs,0⟩] scope pos) (Zf cap wi g tc te):=by
 kt_k;rw[eval_ListComp];exact Ct (use:=none) (Q':=EP X pins σ Q) S hok hi hg ht he hs pins s σ H Q I h λf C D c m hn e inv q v=>⟨m,hn,λh' d=>⟨.ref D,c,inv h' d,rfl,q⟩⟩
def Z5{X:Cx}{iter:aC}{N:ar}{wi:TI}{g:TG}{tc:TT}{te:TE}(hc:X.calm=true)(S:CpScope X scope N cap)(hi:PI X tg iter wi)
  (hg:∀C s₀ H₀ ex,PG (nq X scope N C s₀ H₀ ex) tg g) (ht:∀C s₀ H₀ ex,Vk (nq X scope N C s₀ H₀ ex) ifs tc) (he:∀C s₀ H₀ ex,PE (nq X scope N C s₀ H₀ ex) elt te)
  (hs:(∀x,foldedSetIterable iter X.env x=pure x)<|>ζ):PE X (.ListComp elt [⟨tg,iter,ifs,0⟩] scope pos) (Zf cap wi g tc te):=
 XD S (λ_ _ _ _ _=>hc) hi.g hg ht he hs
section
variable {X:Cx}
def Ql{bs:List Bool}:∀{us:ba},Vals (bs.map V.bl) us->LSm.BoolsAre us bs:=by
 induction bs with
 | nil=>intro us r;cases r;exact .nil
 | cons b bs c=>
  intro us r
  cases r with
  | cons h t=>
   have e:_=Value.bool b:=h;subst e;exact .cons b<|c t
def L_(hc:X.calm=true):kO X (.builtin "all") (λxs H Q=>∃(p:ak) (bs:List Bool),xs=[.ref p]/\pS X.K H p (bs.map V.bl)/\Q (.bl<|bs.all id) H):=by
 gp_on;obtain⟨p,bs,rfl,m,q⟩:=h;cb_eq
 cases rx
 obtain⟨c,t,pl,B⟩:=I.list m;have g:=Ql t;have f:=pl.isList;have d:p<s.heap.objs.size:=by obtain⟨_,e,_⟩:=f;exact a_ e
 refine call_all_walk<|iX f ?_;refine⟨s.heap.objs.size,[s.heap.objs.size,p],[s.heap.objs.size],c.toArray.size,_,_,λi=>(bs[i]?).getD true,rfl,Walks.list (A:=X.A.in1) (I.ok.hd hc) _ p (bA d) c.toArray,
  ⟨⟨_,bu _ rfl,rfl,rfl⟩,f.push _⟩,λi v s' C G hP j=>?_,λh' F k=>?_⟩
 ·obtain⟨b,e,rfl⟩:=g.get i v (by simpa using hP);dsimp[e,iA]at j;exact dc j
 ·have e:((List.range c.toArray.size).all λi=>(bs[i]?).getD true)=bs.all id:=by
   rw[aZ,g.length];exact LSm.range_all bs
  rw[e];exact⟨.bl _,H,I.kept<|LSm.kept_iter k,rfl,q⟩
abbrev eAt (xs ys:List V)(j:Nat):Bool:=match xs[j]?,ys[j]? with|some x,some y=>eqV x y|_,_=>true
def Lz:pK X (compareOp .IsNot) (λx y H Q=>∃a b,x=.bl a/\y=.bl b/\Q (.bl<|a != b) H):=by
 gn_on;obtain⟨a,b,rfl,rfl,q⟩:=h
 cases rx;cases ry
 exact isnot_bool ⟨.bl _,H,I,rfl,q⟩
def CO:kO X (.type "range") (λxs H Q=>∃i j,xs=[.int i,.int j]/\∀p,H p=none->Q (.ref p) (upd H p<|.rng i j)):=by
 gp_on;obtain⟨i,j,rfl,q⟩:=h;obtain⟨u,d,rfl,⟨t,rfl⟩,⟨c,rfl⟩⟩:=vals2 r;refine call_range_2 ⟨.ref s.heap.objs.size,_,I.laid (o:=.rng i j) (λb o e=>aR _ e) (aL _) ?_,rfl,q _ I.fresh⟩;exact⟨t,c,s.toks,bu _ rfl⟩
abbrev nN (i j:Int):ag:=(List.range (j-i).toNat).map λk:Nat=>i+(k:Int)
def uD(i j:Int):(nN i j).length=(j-i).toNat:=by unfold nN;rw[aG,cA]
def zX{i:Int}{n:Nat}{acc:Array af}(h:ItemsOf (λk v=>∃t,v=Value.int (i+(k:Int) * 1) t) acc n):Vals (((List.range n).map λk:Nat=>i+(k:Int)).map V.int) acc.toList:=by
 obtain⟨hs,hv⟩:=h;have c:∀(l:ba) (b:Nat),(∀j v,l[j]?=some v->∃t,v=Value.int (i+((b+j:Nat):Int)) t)->Vals (((List.range' b l.length).map λk:Nat=>i+(k:Int)).map V.int) l:=by
  intro l
  induction l with
  | nil=>intro b _;exact .nil
  | cons v l g=>
   intro b d;rw[bC,List.range'_succ,bh,bh];refine .cons ?_ ?_
   ·obtain⟨t,e⟩:=d 0 v rfl;exact⟨t,by rw[e];simp⟩
   ·refine g (b+1) λj w hw=>?_;obtain⟨t,e⟩:=d (j+1) w hw;exact⟨t,by rw[e,show b+(j+1)=b+1+j by lia]⟩
 have:=c acc.toList 0 λj v f=>by
  obtain⟨t,e⟩:=hv j v (by simpa using f);exact⟨t,by rw[e,bW,mul_one]⟩
 rw[dI,hs,<- fM]at this;exact this
def N6{i j:Int}:Builtin.Range.rangeSize i j 1=(((j-i).toNat:Nat):Int):=by rw[rangeSize_one];split<;>omega
def Bo(hc:X.calm=true):kO X (.type "list") (λxs H Q=>∃p i j,xs=[.ref p]/\H p=some (.rng i j)/\(-(2 ^ 62)<=i/\i<2 ^ 62/\-(2 ^ 62)<=j/\j<2 ^ 62)/\(j-i).toNat<=1000/\∀l,H l=none->Q (.ref l) (upd H l<|.lst<|(nN i j).map V.int)):=by
 gp_on;obtain⟨p,i,j,rfl,hp,⟨C,k,B,f⟩,hn,q⟩:=h;cb_eq
 cases rx
 obtain⟨t,F,v,e⟩:=I.hok p _ hp;refine call_list_range (n:=(j-i).toNat) (I.ok.hd hc) e (small_one C k B f) N6 () λh' G d m g hS c=>?_;refine⟨.ref s.heap.objs.size,_,I.laid (o:=.lst<|(nN i j).map V.int) g (aL _) ⟨?_,d.toList,m,zX c,by rw[hS]⟩,rfl,q _ I.fresh⟩;rw[aG,uD,er];lia
end
section
variable {X:Cx}
def EA{prog:aj}{w:ah}{A:az}{E:af->aA->Prop}{s:aA}{Q:ba->aA->Prop}{r:ak}{a b c:Int}{t v:Tok}{n:Nat}(hh:A.handled=none)(hr:IsRange s.heap r a b c t u v)(hsmall:Builtin.Range.small a b c=true)
  (hn:Builtin.Range.rangeSize a b c=n) (hlen:n<=2 ^ 24)
  (hQ:∀h' tk (acc':Array af),(∀b o,s.heap.get? b=some o->h'.get? b=some o)->ItemsOf (λi v=>∃t,v=.int (a+i * c) t) acc' n->Q acc'.toList { s with heap:=h',toks:=tk }) :
  wpAny (model prog w) A (collect<|.ref r) Q E s:=by
 unfold collect;refine aH<|wpAny_runValue<|gv F.entry_proto_collect ?_;rw[fN F.plain_proto_collect _]
 skip
 refine aH<|cR ?_;refine aP ⟨plainId_quiet F.plain_list_iadd _,gv F.entry_list_iadd ?_⟩;rw[fN F.plain_list_iadd _]
 skip
 have hS:(s.heap.push {}).get? s.heap.objs.size=some { cls:=.type "list",data:=.seq #[] 0 }:=bu _ rfl;have k:∀(h':aq) (tk:Nat) (acc':Array af) (j:Nat),(∀b o,b≠s.heap.objs.size->(s.heap.push {}).get? b=some o->h'.get? b=some o) ->
   h'.get? s.heap.objs.size=some { cls:=.type "list",dict:=none,data:=.seq acc' j,slots:=#[]}->ItemsOf (λi v=>∃t,v=.int (a+i * c) t) acc' n ->
   wpAny (model prog w) A (match Value.ref s.heap.objs.size with
   | Value.ref a=>do
    match (<- load a).data with
     | Data.seq xs _=>pure xs.toList
     | _=>unsupported "internal:collect"
   | _=>unsupported "internal:collect") Q E { s with heap:=h',toks:=tk }:=by
  intro h' tk acc' j m g d
  skip
  refine aH<|wpAny_load g ?_;refine aP ?_;exact hQ h' tk acc' (λb o e=>m b o (bA<|a_ e)<|aR _ e) d
 refine cZ (wpAny_extend_range (A:=A) (R:=λq s'=>q=.ok (.ret<|.ref s.heap.objs.size)/\∃h' tk acc' j,s'={ s with heap:=h',toks:=tk }/\(∀b o,b≠s.heap.objs.size->(s.heap.push {}).get? b=some o->h'.get? b=some o) /\
   h'.get? s.heap.objs.size=some { cls:=.type "list",dict:=none,data:=.seq acc' j,slots:=#[]}/\ItemsOf (λi v=>∃t,v=.int (a+i * c) t) acc' n)
  (s:={ s with heap:=s.heap.push {}}) hh (aR _ hr) hsmall hn hlen s.heap.objs.size (.ref s.heap.objs.size) 0 hS
  (λh' tk acc' j m g d=>⟨rfl,h',tk,acc',j,rfl,m,g,d⟩)) (λp s' h=>?_) λe s' h=>?_
 ·cases p with
  | done f=>
   obtain⟨e,h',tk,acc',j,rfl,m,g,d⟩:=h
   cases e
   exact k h' tk acc' j m g d
  | again j=>exact⟨h.1,iO h.2 λr B hr=>by
    obtain⟨rfl,h',tk,acc',j,rfl,m,g,d⟩:=hr;exact k h' tk acc' j m g d⟩
 ·exact absurd h.1<|by simp
def vJ(l:ak){a b:Int}{t v:Tok}{n:Nat}(hsmall:Builtin.Range.small a b 1=true)
  (hn:Builtin.Range.rangeSize a b 1=n) (hlen:n<=1000) :
  Meets (Builtin.«tuple.__new__» ⟨[.type "tuple",.ref l],[]⟩)
   (λA R s=>A.handled=none/\IsRange s.heap l a b 1 t u v/\∀(h':aq) (tk:Nat) (acc':Array af),(∀b o',s.heap.get? b=some o'->h'.get? b=some o')->ItemsOf (λi v=>∃t,v=.int (a+i * 1) t) acc' n->R (.ok<|.ret<|.ref h'.objs.size) { s with heap:=h'.push { cls:=.type "tuple",data:=.seq acc' },toks:=tk }):=
 .of_wp λprog w A R s h=>by
  obtain⟨hp,g,d,tk,os⟩:=s;obtain⟨q,f,h⟩:=h;have p:=sub_tuple_self;have m:=init_tuple_lookup;have F:=madeHere_tuple;have B:Shared.TypeIs ⟨hp,g,d,tk,os⟩ (.ref l) "range" := ⟨_,f,rfl⟩;have j:A.in1.handled=none:=q
  wp_walk using dD f,jj B,EA (A:=A.in1) j f hsmall hn (by omega)
  intro h' k acc' C c;show wpAny _ _ (Builtin.Tuple.tupleExact acc'.toList.toArray >>= λv=>ret v) _ _ _;unfold Builtin.Tuple.tupleExact;have e:acc'.toList.toArray=acc':=by simp
  refine aH (cR ?_<|by show acc'.toList.toArray.size<=sizeLine;rw[e,c.1,er];omega);refine aP ⟨_,rfl,?_⟩;rw[e];exact h h' k acc' C c
def AU(hc:X.calm=true):kO X (.type "tuple") (λxs H Q=>∃p i j,xs=[.ref p]/\H p=some (.rng i j)/\(-(2 ^ 62)<=i/\i<2 ^ 62/\-(2 ^ 62)<=j/\j<2 ^ 62)/\(j-i).toNat<=1000/\∀l,H l=none->Q (.ref l) (upd H l<|.tup<|(nN i j).map V.int)):=by
 gp_on;obtain⟨p,i,j,rfl,hp,⟨G,B,C,k⟩,hn,q⟩:=h;cb_eq
 cases rx
 obtain⟨t,J,v,e⟩:=I.hok p _ hp;refine callType_new F.called_tuple ⋯ (F.typeCall_tuple_1 _) (F.newCall_tuple_1 _) (λf=>F.args_object_init_2 f _) F.entry_tuple_new
  (vJ (n:=(j-i).toNat) p (small_one G B C k) N6 hn) ⟨I.ok.hd hc,e,λh' g c m d=>⟨⟨_,bu _ rfl,rfl⟩,?_⟩⟩
 have I1:Inv X pins σ H { s with heap:=h',toks:=g }:=I.kept m;refine⟨.ref h'.objs.size,_,I1.laid (t':=g) (o:=.tup<|(nN i j).map V.int) (λb o e=>aR _ e) (aL _) ⟨?_,c.toList,zX d,?_⟩,rfl,q _<|I1.hok.fresh<|aL _⟩
 ·rw[aG,uD,er];lia
 ·have e:c.toList.toArray=c:=by simp
  rw[e];exact qX.new _ _
def FL{c:String}:kO X (.builtin "isinstance") (λxs H Q=>∃x t b,xs=[x,.ty c]/\TyOf X.K H x t/\PySem.W.kitOne X.K t (.type c)=some b/\Q (.bl b) H):=by
 gp_on;obtain⟨x,t,b,rfl,ty,e,q⟩:=h;obtain⟨u,g,rfl,rx,d⟩:=vals2 r
 cases d
 exact Lm I rx ty e λf=>⟨.bl b,H,I.tok f,rfl,q⟩
abbrev WW (K:au):R2:=λx y H Q=>∃a b ys,x=.ref a/\y=.ref b/\ow K H a []/\ow K H b ys/\Q (.ref b) H
def PR:pK X (binaryOp .Add) (WW X.K):=by
 gn_on;obtain⟨a,b,ys,rfl,rfl,h1,h2,q⟩:=h
 cases rx
 cases ry
 obtain⟨us,r1,p1,_⟩:=I.tuple h1;obtain⟨t,r2,p2,_⟩:=I.tuple h2
 cases r1
 obtain⟨⟨cls,dd,data,B⟩,m,hc,n,k⟩:=id p1;obtain⟨⟨p,j,g,f⟩,e,d,C,c⟩:=id p2;simp only at hc k d c;subst hc k d c;exact concat_meets ⟨_,m,rfl⟩ ⟨_,e,rfl⟩ noFill_tuple_add seq_tuple_add gO gH (gc _ _)
   (tuple_addW0 a b _ t.toArray n C dd j B f<|by simp) ⟨m,e,⟨.ref b,H,I,rfl,q⟩⟩
end
def mH:bootBuiltins "len" = some (.builtin "len"):=by decide +kernel
def Xv:bootBuiltins "abs" = some (.builtin "abs"):=by decide +kernel
def Xy:bootBuiltins "all" = some (.builtin "all"):=by decide +kernel
def Cf:bootBuiltins "sorted" = some (.builtin "sorted"):=by decide +kernel
def nH:bootBuiltins "isinstance" = some (.builtin "isinstance"):=by decide +kernel
def We:bootBuiltins "int" = some (.type "int"):=by decide +kernel
def TL:bootBuiltins "bool" = some (.type "bool"):=by decide +kernel
def vm:bootBuiltins "list" = some (.type "list"):=by decide +kernel
def Ai:bootBuiltins "tuple" = some (.type "tuple"):=by decide +kernel
def O8:bootBuiltins "range" = some (.type "range"):=by decide +kernel
structure Blt (mg:Str->bd):Prop where
 len:mg "len" = none
 abs:mg "abs" = none
 all:mg "all" = none
 any:mg "any" = none
 max:mg "max" = none
 min:mg "min" = none
 sorted:mg "sorted" = none
 isinstance:mg "isinstance" = none
 int:mg "int" = none
 bool:mg "bool" = none
 str:mg "str" = none
 list:mg "list" = none
 tuple:mg "tuple" = none
 range:mg "range" = none
def Uz:∀{a b:ag},a.Perm b->a.Pairwise (·<=·)->b.Pairwise (·<=·)->a=b:=λp d c=>
 eG (λx y _ _ h1 h2=>Int.le_antisymm h1 h2) d c p
def aa6(i j:Int):(nN i j).Pairwise (·<=·):=by
 unfold nN;rw[cT];exact List.pairwise_lt_range.imp λh=>()
def wA(i j:Int):(nN i j).Nodup:=by
 unfold nN;rw[List.Nodup,cT];exact List.pairwise_lt_range.imp λh=>()
def EV{i j k:Int}:k∈nN i j ↔ i<=k/\k<j:=by
 unfold nN;rw[br];constructor
 ·rintro⟨a,c,rfl⟩;have:=c5.mp c;omega
 ·rintro⟨h1,h2⟩;exact⟨(k-i).toNat,c5.mpr<|by omega,by omega⟩
theorem yC:∀{l m:ag},l.Nodup->(∀x∈l,x∈m)->m.length<=l.length->l.Perm m
 | [],m,_,_,h=>by
  have:m=[]:=c8.mp<|Nat.le_zero.mp h;rw[this]
 | a::l,m,nd,hs,hl=>by
  have f:a∈m:=hs a aN;have c:=bQ.mp nd;have j:m.Perm (a::m.erase a):=List.perm_cons_erase f;have k:=yC (l:=l) (m:=m.erase a) c.2 (λx g=>by
   have d:x≠a:=λe=>c.1<|e ▸ g;exact(List.mem_erase_of_ne d).mpr (hs x<|aK _ g)) (by
   rw[List.length_erase_of_mem f];dsimp[bC]at hl;omega)
  exact(List.Perm.cons a k).trans j.symm
abbrev Kn (P:aj)(w:ah)(K:au)(mg:Str->bd)(base:aq)(k:Nat)(x:Str)(ps:ar)(sp:Sp):Prop:=
 ∃(f:ak) (fd:FuncData),FnOk P w K mg base rQ k f fd ps sp/\mg x=some (.ref f)/\PySem.W.keepIn K (.ref f)=true/\Binds K fd ps []
def aay{X:Cx}{k:Nat}{x:Str}{sp:Sp}{e:aC}{t:TA}{p:Pos}(G:Kn X.prog X.w X.K X.mg X.base k x ps sp)(hr:Room k X.A)(ha:PA X (e::es) t)(hg:Gl X x<|>ε)
  (hdb:(x == ("__debug__" : Str))=false<|>δ) (hs:starEach (e::es) X.env=(false,eval e X.env)::starEach es X.env<|>ε) (hplain:((backTo pos<|starEach es X.env).any (·.1)=false)<|>ε) :
  PE X (.Call (.Name x p) (e::es) [] pos) (M_ sp [] E0 t):=by
 obtain⟨f,fd,F,g,d,c⟩:=G;exact Iz F hr hg g d c .nil Z9 ha hdb hs hplain
abbrev zC (XN fs:ar):ar->List (bj)->Prop
 | [],[]=>True
 | _::N,none::c=>zC XN fs N c
 | x::N,some j::c=>XN[j]?=some x/\x∈fs/\zC XN fs N c
 | _,_=>False
theorem zC.len{fs:ar}:∀{N:ar}{c:List<|bj},zC XN fs N c->c.length=N.length
 | [],[],_=>rfl
 | _::N,none::c,h=>c7 (·+1) (zC.len (N:=N) (c:=c) h)
 | _::N,some j::c,h=>c7 (·+1) (zC.len (N:=N) (c:=c) h.2.2)
 | [],_::_,h=>h.elim
 | _::_,[],h=>h.elim
theorem zC.cp{fs:ar}:∀{N:ar}{c:List<|bj},zC XN fs N c->∀(i j:Nat) (x:Str),N[i]?=some x->c[i]?=some (some j)->XN[j]?=some x/\x∈fs
 | [],[],_,i,j,x,h1,_=>by simp at h1
 | y::N,none::c,h,i,j,x,h1,h2=>by
  cases i with
  | zero=>simp at h2
  | succ i=>exact zC.cp (N:=N) (c:=c) h i j x (by simpa using h1)<|by simpa using h2
 | y::N,some k::c,h,i,j,x,h1,h2=>by
  cases i with
  | zero=>
   simp at h1 h2;subst h1 h2;exact⟨h.1,h.2.1⟩
  | succ i=>exact zC.cp (N:=N) (c:=c) h.2.2 i j x (by simpa using h1)<|by simpa using h2
 | [],_::_,h,_,_,_,_,_=>h.elim
 | _::_,[],h,_,_,_,_,_=>h.elim
def nB{X:Cx}{scope:Scope}{N:ar}(fs:ar)(kind:scope.kind=.function)(nocf:∀y∈scope.names,y.2=.cell->scope.names.lookup y.1=some .cell/\(y.1,NameKind.free)∉scope.names)(nm:∀y∈scope.names,y.2=.local->scope.names.lookup y.1=some .local)
  (nolf:∀y∈scope.names,y.2=.free->scope.names.lookup y.1≠some .local) (hf:∀y∈scope.names,y.2=.free->y.1∈fs) (hfs:∀x∈fs,(x,NameKind.free)∈scope.names) (hk:∀x∈fs,X.env.kindOf x=some .cell\/X.env.kindOf x=some .free) (cp:zC X.N fs N cap):CpScope X scope N cap where
 kind:=kind
 nocf:=λx hf hc=>(nocf (x,.cell) hc rfl).2 hf
 nm:=nm
 fr:=λy m e=>hk _ (hf y m e)
 rl:=λy h=>by
  have f:∀k,(k=NameKind.cell\/k=NameKind.free)->(relabel scope X.env).names.lookup y=some k->(y,NameKind.free)∈scope.names\/scope.names.lookup y=some .cell:=λk hk e=>by
   obtain⟨⟨q,g⟩,d,c⟩:=br.mp<|A3 e;dsimp only at c;split at c
   ·rename_i hc
    cases c
    have:g=.free:=by
     dsimp[dz]at hc;simpa using hc.1.1
    subst this;exact .inl d
   ·cases c
    rcases hk with rfl|rfl
    ·exact .inr (nocf _ d rfl).1
    ·exact .inl d
  rcases h with h|h
  ·exact f _ (.inl rfl) h
  ·exact f _ (.inr rfl) h
 len:=cp.len
 nolf:=λx p=>nolf (x,.free) p rfl
 cp:=λi j x h1 h2=>by
  obtain⟨a,b⟩:=cp.cp i j x h1 h2;exact⟨a,hfs x b⟩
inductive Kd where
 | non|bl|int|str|lst|tup
 deriving DecidableEq
abbrev Kd.ty:Kd->af
 | .non=>.type "NoneType" | .bl=>.type "bool" | .int=>.type "int" | .str=>.type "str" | .lst=>.type "list" | .tup=>.type "tuple"
abbrev Yj (H:Hp)(x:V):Kd->Prop
 | .non=>x=.non
 | .bl=>∃b,x=.bl b
 | .int=>∃i,x=.int i
 | .str=>∃s,x=.str s
 | .lst=>∃a xs,x=.ref a/\H a=some (.lst xs)
 | .tup=>∃a xs,x=.ref a/\H a=some (.tup xs)
def Yj.ach{K:au}{H:Hp}{x:V}{k:Kd}(h:Yj H x k):TyOf K H x k.ty:=by
 cases k with
 | non=>cases h;exact .non
 | bl=>obtain⟨b,rfl⟩:=h;exact .bl b
 | int=>obtain⟨b,rfl⟩:=h;exact .int b
 | str=>obtain⟨b,rfl⟩:=h;exact .str b
 | lst=>obtain⟨a,xs,rfl,e⟩:=h;exact .lst e
 | tup=>obtain⟨a,xs,rfl,e⟩:=h;exact .tup e
def Sj{K:au}(k:Kd):PySem.W.kitOne K k.ty (.type "int")=some (decide<|k=.int\/k=.bl):=by cases k<;>rfl
def NB{K:au}(k:Kd):PySem.W.kitOne K k.ty (.type "bool")=some (decide<|k=.bl):=by cases k<;>rfl
def kit_tuple{K:au}(k:Kd):PySem.W.kitOne K k.ty (.type "tuple")=some (decide<|k=.tup):=by cases k<;>rfl
def Ov{K:au}(k:Kd):PySem.W.kitOne K k.ty (.type "list")=some (decide<|k=.lst):=by cases k<;>rfl
section
variable {prog:aj}{w:ah}{A:az}{E:af->aA->Prop}{s:aA}
def w6{t:ak}{i:Nat}{x:af}{Q:af->aA->Prop}(hit:s.heap.IsTupleIter it t i)
  (ht:s.heap.IsTuple t items) (hx:items[i]?=some x) (hQ:∀h',h'.IsTupleIter it t (i+1)->Heap.SameBut it s.heap h'->Q x { s with heap:=h' }) :
  wpAny (model prog w) A (Builtin.SmallTypes.nextOf<|.ref it) Q E s:=by
 obtain⟨o,d,hc,c⟩:=id hit;obtain⟨g,f,_,j,e⟩:=ht;unfold Builtin.SmallTypes.nextOf;refine aH (dG (name:=Str.ofString "__next__") hit.typeIs dR
  (cW dR hit.typeIs F.entry_tuple_iterator_next ?_<|F.args_tuple_iterator_next_1 _))
 show wpAny _ _ (field (.ref it) 0 >>= _) _ _ s;refine aH (eV d c (x:=.ref t) rfl ?_)
 skip
 rw[aQ<|show ¬((Value.ref t == Value.none)=true)from bG]
 skip
 refine aH (eV d c (x:=.int i 0) rfl ?_)
 skip
 refine aH<|gQ f e ?_;dsimp[fF,hx];refine aH (gR d c (by simp)<|aP ⟨x,rfl,aP<|hQ _ ?_<|f6 ..⟩);exact⟨_,dY _ d<|fB<|dS c _,(iY ..).trans hc,by
  rw[dS c];simp[rawInt]⟩
def yg{t:ak}{i:Nat}{Q:af->aA->Prop}(hh:A.handled=none)
  (hit:s.heap.IsTupleIter it t i) (ht:s.heap.IsTuple t items) (hx:items[i]?=none)
  (hE:∀h' e,Heap.ExtBut it s.heap h'->(∃o,h'.get? e=some o/\o.cls=.type "StopIteration")->E (.ref e) { s with heap:=h' }) :
  wpAny (model prog w) A (Builtin.SmallTypes.nextOf<|.ref it) Q E s:=by
 obtain⟨o,d,hc,c⟩:=id hit;obtain⟨j,g,_,k,f⟩:=ht;unfold Builtin.SmallTypes.nextOf;refine aH (dG (name:=Str.ofString "__next__") hit.typeIs dR
  (cW dR hit.typeIs F.entry_tuple_iterator_next ?_<|F.args_tuple_iterator_next_1 _))
 show wpAny _ _ (field (.ref it) 0 >>= _) _ _ s;refine aH (eV d c (x:=.ref t) rfl ?_)
 skip
 rw[aQ<|show ¬((Value.ref t == Value.none)=true)from bG]
 skip
 refine aH (eV d c (x:=.int i 0) rfl ?_)
 skip
 refine aH<|gQ g f ?_;dsimp[fF,hx];refine aH (gD<|aH<|gR d c (by simp) ?_)
 skip
 refine aH ?_;dsimp[newExc,newTuple];refine aH (cR ?_<|by size_fits);refine aH (m:=firstArgMember _ _) (wpAny_of_eq (a:=Value.none) (by first|rfl|(dsimp[firstArgMember];rfl)) ?_);refine cR ?_ (by size_fits);dsimp[raiseNew];refine aH (wpAny_handled ?_)
 first|rw[show A.in1.handled=none from hh]|rw[hh]
 refine aH<|aP<|wpAny_throw ?_;exact hE _ _ (((f6 ..).extBut.push _).push _) ⟨_,bu _ rfl,rfl⟩
end
def QY{prog:aj}{w:ah}{A:az}(hh:A.handled=none)(it l:ak)(hne:l≠it)(items:Array af) :
  Draws prog w A it [it,l] items.size (λi v=>items[i]?=some v) (λi h=>h.IsTupleIter it l i/\h.IsTuple l items) where
 live:=λ_ _ st=>let⟨o,ho,_⟩:=st.1;⟨o,ho⟩
 frame:=λ_ _ _ st g=>⟨st.1.at λo e=>g it (by simp) o e,let⟨o,ho,r⟩:=st.2;⟨o,g l (by simp) o ho,r⟩⟩
 item:=λi s Q E f st j=>by
  refine w6 st.1 st.2 (x:=items[i]) (by simp[f]) λh' d c=>?_;exact j _ h' s.toks (by simp[f]) ⟨d,let⟨o,ho,r⟩:=st.2;⟨o,c.extBut l o hne ho,r⟩⟩ c
 done:=λs Q E st k=>yg hh st.1 st.2 (by simp) k
def Gf(l:ak)(items:Array af) :
  Meets (Builtin.«enumerate.__new__» ⟨[.type "enumerate",.ref l],[]⟩) (λ_ R s=>s.heap.IsTuple l items /\
   R (.ok<|.ret<|.ref (s.heap.push { cls:=.type "tuple_iterator",data:=.fields #[.ref l,.int 0 0]}).objs.size)
    { s with heap:=(s.heap.push { cls:=.type "tuple_iterator",data:=.fields #[.ref l,.int 0 0]}).push { cls:=.type "enumerate",data:=.fields #[.none,.bool false,.ref s.heap.objs.size,rawInt 0,.none,.none]}}):=
 .of_wp λprog w A R s h=>by
  obtain⟨hp,g,d,t,os⟩:=s;obtain⟨f,h⟩:=h;have j:=sub_enumerate;obtain⟨p,e,m,q,k⟩:=id f
  wp_walk using dD e
  refine wpAny_stack_any λst=>aP ?_;split
  ·rename_i c _ _ _ _ _
   cases(c == Value.type "enumerate")
   ·wp_walk using dD e,gA f
    exact⟨_,rfl,h⟩
   ·wp_walk using dD e,gA f
    exact⟨_,rfl,h⟩
  ·wp_walk using dD e,gA f
   exact⟨_,rfl,h⟩
abbrev Ite (K:au)(a:ak):It:=
 ⟨λi H=>∃xs x,ow K H a xs/\xs[i]?=some x,λi H x H'=>∃T,H T=none/\x=.ref T/\∀xs y,ow K H a xs->xs[i]?=some y->H'=upd H T (.tup [.int i,y]),λi H=>∃xs,ow K H a xs/\xs.length=i⟩
def G7{P:aj}{w:ah}{K:au}(a e it:ak)(hei:e≠it):Turn P w K (.Tuple elts x1 tpos) (Ite K a) [e,it] e (λi h=>(∃old,IsEnum h e it i old)/\h.IsTupleIter it a i) where
 mem:=by simp
 obj:=λi h st b G=>by
  mg_lt;have B:b=e\/b=it:=by simpa using G
  rcases B with rfl|rfl
  ·exact⟨_,st1,λv z=>by cases z⟩
  ·obtain⟨o,e,c,d⟩:=st2;exact⟨o,e,λv z=>by rw[d]at z;cases z⟩
 keep:=λi h h' st k=>by
  mg_lt;exact⟨⟨old,k e (by simp) _ st1⟩,st2.at λo j=>k it (by simp) o j⟩
 item:=by
  x_go;subst hP hw hK;mg_lt;obtain⟨xs,x,hq,hx⟩:=hg;obtain⟨t,rv,p,hz⟩:=I.tuple hq;obtain⟨u,hu,ru⟩:=rv.get hx;have M:a≠it:=by
   obtain⟨o,j,C,_⟩:=p;obtain⟨o2,J,F,_⟩:=st2;intro z;rw[z,J]at j
   cases j
   rw[C]at F;exact absurd (fO F) ⋯
  have hea:e≠a:=by
   obtain⟨o,j,C,_⟩:=p;intro z;rw[<- z,st1]at j
   cases j
   exact absurd (fO C) ⋯
  have hlt:i<t.toArray.size:=by
   rw[aZ];exact(aI.mp hu).1
  refine wpAny_pyNext_enum_itemD (QY (A:=X.A.in1) (I.ok.hd hc) it a M t.toArray) st1 ⟨st2,p⟩ hlt hei (by simp[hei,hea]) λZ h' W hP U hst hT hsz hk=>?_;have ex:Z=u:=by
   have:t.toArray[i]?=some u:=by simpa using hu
   rw[this]at hP;exact(aX hP).symm
  subst ex;refine⟨_,rfl,wpAny_letOwnedTupleGo_enum U λh2 he2 L=>?_⟩;have O:H s.heap.objs.size=none:=I.hok.fresh<|aL _;have T:e<s.heap.objs.size:=a_ st1;have hil:it<s.heap.objs.size:=by obtain⟨o,j,_⟩:=st2;exact a_ j
  have k2:∀b o,b≠e->b≠it->s.heap.get? b=some o->h2.get? b=some o:=λb o h1 h3 q=>L.extBut b o h1<|hk b o h1 h3 q;have hT2:h2.get? s.heap.objs.size=some { cls:=.type "tuple",data:=.seq #[.int i W,Z]}:=L.extBut _ _ (iN T) hT;obtain⟨e0,e1,e2,e3,e4,e5⟩:=hf e (by simp);obtain⟨Y,i1,i2,i3,i4,i5⟩:=hf it (by simp);have nT:∀b o,s.heap.get? b=some o->b≠s.heap.objs.size:=λb o q=>bA<|a_ q;have f:∀c v,H c=some v->c≠e/\c≠it:=λc v q=>⟨(λz=>by rw[z,e0]at q;cases q),(λz=>by rw[z,Y]at q;cases q)⟩;have I2:Inv X pins σ (upd H s.heap.objs.size<|.tup [.int i,x]) { s with heap:=h2,toks:=W+1 }:=by
   refine I.step (g':=s.gens) (d':=s.drawn) (ch:=[e,it]) (λb G=>?_) (λb o _ _ g q _=>?_) (λb o _ _ g q _=>?_) (λb o g q n=>?_) (λb o g q=>?_) (λb ys q=>?_) (λb o V q=>?_) (λb ps q=>?_) (λm hm=>?_) (λb V q=>?_) I.bare
   ·have B:b=e\/b=it:=by simpa using G
    rcases B with rfl|rfl
    ·exact⟨e3,e1,e4,e5⟩
    ·exact⟨i3,i1,i4,i5⟩
   ·exact k2 b o (λz=>g<|by simp[z]) (λz=>g<|by simp[z]) q
   ·exact⟨o.slots,k2 b o (λz=>g<|by simp[z]) (λz=>g<|by simp[z]) q⟩
   ·rw[jL<|nT b o q];exact n
   ·exact⟨o,k2 b o (λz=>g<|by simp[z]) (λz=>g<|by simp[z]) q⟩
   ·rw[jL<|jT q O];exact q
   ·rw[jL<|jT q O];exact q
   ·exact⟨#[],by rw[jL<|jT q O,q];simp⟩
   ·obtain⟨o,es,ep,j,r⟩:=hm;exact⟨o,es,ep,k2 _ o (cK e1) (cK i1) j,r⟩
   ·by_cases z:b=s.heap.objs.size
    ·subst z;rw[ko]at q
     cases q
     exact⟨by show 2<=sizeLine;decide,[.int i W,Z],.cons ⟨W,rfl⟩<|.cons ru .nil,⟨_,hT2,rfl,rfl,0,rfl⟩⟩
    ·rw[jL z]at q;refine(I.hok b V q).stay (λc v hc q'=>k2 c v ?_ ?_ q') (λc q'=>?_) λc ys q'=>?_
     ·rcases hc with z|z
      ·rw[z];exact(f b V q).1
      ·exact(f c _ z).1
     ·rcases hc with z|z
      ·rw[z];exact(f b V q).2
      ·exact(f c _ z).2
     ·rw[jL<|jT q' O];exact q'
     ·rw[jL<|jT q' O];exact q'
  refine⟨.ref s.heap.objs.size,_,I2,rfl,⟨s.heap.objs.size,O,rfl,λys y hy N=>?_⟩,⟨⟨Z,by simpa using he2⟩,?_⟩,λb G=>?_⟩
  ·rw[I.xW hy hq]at N;rw[hx]at N
   cases N
   rfl
  ·exact hst.1.at λo j=>L.extBut it o (cK hei) j
  ·have B:b=e\/b=it:=by simpa using G
   rcases B with rfl|rfl
   ·rw[jL<|bA T];exact e0
   ·rw[jL<|bA hil];exact Y
 done:=by
  x_go;subst hP hw hK;mg_lt;obtain⟨xs,hq,hx⟩:=hg;obtain⟨t,rv,p,hz⟩:=I.tuple hq;obtain⟨Y,i1,i2,i3,i4,i5⟩:=hf it (by simp);have M:a≠it:=by
   obtain⟨o,j,C,_⟩:=p;obtain⟨o2,J,F,_⟩:=st2;intro z;rw[z,J]at j
   cases j
   rw[C]at F;exact absurd (fO F) ⋯
  have hl:=rv.length;have ei:t.toArray.size=i:=by rw[aZ,<- hl,hx]
  exact wpAny_pyNext_enum_endD (QY (A:=X.A.in1) (I.ok.hd hc) it a M t.toArray) st1 ⟨by rw[ei];exact st2,p⟩ λh' eb=>⟨rfl,I.turned (t':=s.toks) (λb o G q=>eb b o G q) Y i1 i3 i4 i5⟩
 self:=λ_ _ _ _ _ st h=>let⟨⟨_,st1⟩,_⟩:=st;gS st1 h
def wN:bootBuiltins "enumerate" = some (.type "enumerate"):=by decide +kernel
section
variable {X:Cx}
abbrev aaW (K:au)(ta:TA):TI:=λσ H R=>ta σ H λvs H1=>∃a xs,vs=[.ref a]/\ow K H1 a xs/\R (Ite K a) H1
def Nz{a:aC}{ta:TA}{p:Pos}(hg:Gl X "enumerate")(hm:X.mg "enumerate" = none)(ha:PA X [a] ta)(hs:starEach [a] X.env=[(false,eval a X.env)]<|>ε):PI X (.Tuple elts x1 tpos) (.Call (.Name "enumerate" p) [a] [] pos) (aaW X.K ta):=by
 intro pins s σ H R I h;refine Call_<|uv I hg hm wN<|cP (nc (ha pos pins s σ H _ I h) λus c ⟨vs,H1,I1,r1,G⟩=>?_) hs rfl;obtain⟨t,xs,e,L,q⟩:=G;subst e;obtain⟨u,rfl,rx⟩:=vals1 r1
 cases rx
 obtain⟨g,O,J,N⟩:=I1.tuple L;refine callType_new F.called_enumerate ⋯ (F.typeCall_enumerate_1 _) (F.newCall_enumerate_1 _) (λk=>F.args_object_init_2 k _) F.entry_enumerate_new (Gf t g.toArray) ⟨J,⟨_,bu _ rfl,rfl⟩,?_⟩;have m:Inv X pins σ H1 { c with heap:=c.heap.push { cls:=.type "tuple_iterator",data:=.fields #[.ref t,.int 0 0]}}:=I1.kept (t':=c.toks) λb o e=>aR _ e;have M:Inv X pins σ H1 { c with heap:=(c.heap.push { cls:=.type "tuple_iterator",data:=.fields #[.ref t,.int 0 0]}).push { cls:=.type "enumerate",data:=.fields #[.none,.bool false,.ref c.heap.objs.size,rawInt 0,.none,.none]}}:=m.kept (t':=c.toks) λb o e=>aR _ e;have B:IsEnum ((c.heap.push { cls:=.type "tuple_iterator",data:=.fields #[.ref t,.int 0 0]}).push { cls:=.type "enumerate",data:=.fields #[.none,.bool false,.ref c.heap.objs.size,rawInt 0,.none,.none]}) (c.heap.push { cls:=.type "tuple_iterator",data:=.fields #[.ref t,.int 0 0]}).objs.size c.heap.objs.size 0 .none:=bu _ rfl;have f:((c.heap.push { cls:=.type "tuple_iterator",data:=.fields #[.ref t,.int 0 0]}).push { cls:=.type "enumerate",data:=.fields #[.none,.bool false,.ref c.heap.objs.size,rawInt 0,.none,.none]}).IsTupleIter c.heap.objs.size t 0:=⟨_,aR _<|bu _ rfl,rfl,rfl⟩;have d:(c.heap.push { cls:=.type "tuple_iterator",data:=.fields #[.ref t,.int 0 0]}).objs.size≠c.heap.objs.size:=by rw[c6];exact iN (eS _)
 refine gS B ⟨_,[_,c.heap.objs.size],_,_,H1,rfl,M,G7 t _ c.heap.objs.size d,⟨⟨.none,B⟩,f⟩,λb C=>?_,q⟩;have j:b=(c.heap.push { cls:=.type "tuple_iterator",data:=.fields #[.ref t,.int 0 0]}).objs.size\/b=c.heap.objs.size:=by simpa using C
 rcases j with rfl|rfl
 ·exact I1.Bk (by rw[c6];exact jq _) (m.hok.fresh<|aL _)
 ·f_are
end
end L2
namespace L2
open PySem PySem.Spec PyProof.Rows
open PySem.SeqAt
open PySem.AutoSeq1 (wpAny_loadPart')
open PySem.MeetsSeq PySem.MeetsSeq2 PySem.MeetsSeq3 PySem.SeqAt
section
variable {X:Cx}
def M6:pK X (binaryOp .FloorDiv) (rI (λ_ j=>0<j/\j<18446744073709551616) λi j=>.int<|i / j):=opI λi j _ _ _ _ _ hc q=>by
 have h1:(0:Int)<j:=hc.1;have h2:j<18446744073709551616:=hc.2;refine floordiv_int (by omega) (by rw[Int.fdiv_eq_ediv_of_nonneg i<|by omega];exact q)<|.inl<|PyProof.noPylong_of_log2 ?_;exact bI ((Nat.log2_lt<|by omega).mpr<|show j.natAbs<2 ^ 64 by omega) ⋯
end
end L2
namespace L2
open PySem PySem.Spec PyProof.Rows
abbrev Its (x:Str):It:=⟨λi _=>i<x.cps.size,λi H v H'=>H'=H/\∃c,x.cps[i]?=some c/\v=.str ⟨#[c]⟩,λi _=>i=x.cps.size⟩
def O_{P:aj}{w:ah}{K:au}(x:Str)(t:Tok)(it:ak):Turn P w K tg (Its x) [it] it (λi h=>h.IsStrIter it "str_ascii_iterator" x t i) where
 mem:=by simp
 obj:=λi h st b f=>by
  have e:b=it:=by simpa using f
  subst e;obtain⟨o,e,c,d⟩:=st;exact⟨o,e,λv z=>by rw[d]at z;cases z⟩
 keep:=λi h h' st k=>let⟨o,ho,r⟩:=st;⟨o,k it (by simp) o ho,r⟩
 item:=by
  x_go;subst hP hw hK;k_ne;have W:=Walks.strAscii (prog:=X.prog) (w:=X.w) (I.ok.hd hc) it x t;refine W.item i s _ _ hg st λv h' p hv g j=>?_;obtain⟨c,u,m,rfl⟩:=hv;have I1:Inv X pins σ H { s with heap:=h',toks:=p }:=I.turned (λb o f e=>j b o (by simpa using f) e) f0 f1 f3 f4 f5;obtain⟨o,e,q,d⟩:=id g;exact⟨_,rfl,El (s:={ s with heap:=h',toks:=p }) e q d ⋯ ⟨.str ⟨#[c]⟩,H,I1,⟨u,rfl⟩,⟨rfl,c,m,rfl⟩,g,λb f=>(hf b f).1⟩⟩
 done:=by
  x_go;subst hP hw hK;k_ne;have hg:i=x.cps.size:=hg;subst hg;have W:=Walks.strAscii (prog:=X.prog) (w:=X.w) (I.ok.hd hc) it x t;exact W.done s _ _ st λh' p j=>⟨rfl,I.turned (λb o f e=>j b o (by simpa using f) e) f0 f1 f3 f4 f5⟩
 self:=λ_ _ _ _ _ st h=>wpAny_pyIter_striter_ascii st h
section
variable {X:Cx}{tg:aC}
abbrev abL (tl:TE):TI:=λσ H R=>tl σ H λx H1=>∃y:Str,x=.str y/\y.cps.all (· < 128)=true/\R (Its y) H1
def XR{l:aC}{tl:TE}(hl:PE X l tl):PI X tg l (abL tl):=by
 intro pins s σ H R I h;refine nc (hl pins s σ H _ I h) λv c h9=>?_;obtain⟨x,H1,I1,r1,g⟩:=h9;obtain⟨y,e,f,q⟩:=g;subst e;obtain⟨t,rfl⟩:=r1;refine wpAny_pyIter_ascii f ?_;refine⟨c.heap.objs.size,[c.heap.objs.size],_,_,H1,rfl,I1.kept (t':=c.toks) λb o e=>aR _ e,O_ y t _,⟨_,bu _ rfl,rfl,rfl⟩,λb d=>?_,q⟩;have e:b=c.heap.objs.size:=by simpa using d
 subst e;f_are
end
section
variable {κ:Type}[DecidableEq κ]
abbrev qJ (kvs:List<|κ×V)(k:κ):Option V:=(kvs.find? λkv=>decide<|kv.1=k).map (·.2)
abbrev putK (kvs:List<|κ×V)(k:κ)(v:V):List (κ×V):=
 if (kvs.any λkv=>decide<|kv.1=k)=true then kvs.map (λkv=>if kv.1=k then(kv.1,v)else kv)else kvs++[(k,v)]
def um{p:κ×V}{r:List<|κ×V}{k:κ}(e:p.1=k):qJ (p::r) k=some p.2:=by simp[qJ,bV,e]
def uF{p:κ×V}{r:List<|κ×V}{k:κ}(e:¬p.1=k):qJ (p::r) k=qJ r k:=by simp[qJ,bV,e]
theorem w9(k:κ):∀kvs:List<|κ×V,(kvs.any λkv=>decide<|kv.1=k)=(qJ kvs k).isSome
 | []=>rfl
 | p::r=>by
  rw[fy];by_cases e:p.1=k
  ·dsimp[um e,aY e,Bool.true_or,iR]
  ·rw[uF e,bw e,gf];exact w9 k r
def uG(kvs:List<|κ×V)(k:κ)(v:V):(putK kvs k v).length<=kvs.length+1:=by
 unfold putK;split
 ·rw[aG];lia
 ·rw[bf,bC,eg];lia
def xY.xF{o:Option V}{u:bd}(r:xY o u):o.isSome=u.isSome:=by
 cases o with
 | none=>cases u with
  | none=>rfl
  | some _=>exact(show False from r).elim
 | some _=>cases u with
  | none=>exact(show False from r).elim
  | some _=>rfl
def xY.getD{o:Option V}{u:bd}{d:V}(r:xY o u)(rd:RelV d d'):RelV (o.getD d) (u.getD d'):=by
 cases o with
 | none=>cases u with
  | none=>exact rd
  | some _=>exact(show False from r).elim
 | some _=>cases u with
  | none=>exact(show False from r).elim
  | some _=>exact r
def KV.val(r:KV kvs vs)(k:κ):xY (qJ kvs k) (valueAt vs k):=by
 unfold KV at r
 induction r with
 | nil=>exact True.intro
 | @cons p q ps c h t f=>
  obtain⟨h1,h2⟩:=h;by_cases e:p.1=k
  ·have d:q.1=k:=h1.symm.trans e;have b:valueAt (q::c) k=some q.2:=by simp[valueAt,bV,d]
   rw[um e,b];exact h2
  ·have d:¬q.1=k:=λz=>e<|h1.trans z;have b:valueAt (q::c) k=valueAt c k:=by simp[valueAt,bV,d]
   rw[uF e,b];exact f
def KV.any{kvs:List<|κ×V}{vs:List<|κ×af}(r:KV kvs vs)(k:κ):(kvs.any λkv=>decide<|kv.1=k)=vs.any λkv=>decide (kv.1=k):=by
 unfold KV at r
 induction r with
 | nil=>rfl
 | cons h t c=>rw[fy,fy,c,h.1]
def KV.repl{kvs:List<|κ×V}{vs:List<|κ×af}(r:KV kvs vs)(k:κ)(ry:RelV y u) :
  KV (kvs.map λkv=>if kv.1=k then(kv.1,y)else kv) (vs.map λkv=>if kv.1=k then(kv.1,u)else kv):=by
 unfold KV at r ⊢
 induction r with
 | nil=>exact .nil
 | @cons p q ps d h t c=>
  rw[bh,bh];refine .cons ?_ c;obtain⟨h1,h2⟩:=h;by_cases e:p.1=k
  ·rw[aS e,aS<|h1.symm.trans e];exact⟨h1,ry⟩
  ·rw[aQ e,aQ λz=>e<|h1.trans z];exact⟨h1,h2⟩
def KV.put(r:KV kvs vs)(k:κ)(ry:RelV y u):KV (putK kvs k y) (stored vs k u):=by
 unfold putK stored;rw[r.any k];by_cases e:(vs.any λkv=>decide<|kv.1=k)=true
 ·rw[aS e,aS e];exact r.repl k ry
 ·rw[aQ e,aQ e];exact Paired.snoc r ⟨rfl,ry⟩
def KV.length{kvs:List<|κ×V}{vs:List<|κ×af}(r:KV kvs vs):kvs.length=vs.length:=i9 r
end
def FN{P:aj}{w:ah}{k:Key}(r:RelV (kV k) u):(kL P w).is k u=true:=by
 cases k with
 | inl i=>obtain⟨t,e⟩:=(show ∃t,u=Value.int i t from r);subst e;exact E5 P w i t
 | inr x=>obtain⟨t,e⟩:=(show ∃t,u=Value.str x t from r);subst e;exact EK P w x t
theorem BR{P:aj}{w:ah}:∀{ks:List Key}{us:ba},Vals (ks.map kV) us->ItemsAre (kL P w) ks us
 | [],_,r=>by rw[dg]at r;cases r;exact .nil
 | k::ks,_,r=>by
  rw[bh]at r
  cases r with
  | cons h t=>exact .cons (FN h)<|BR t
meta abbrev KT (H:Hp):List (List Key×V)->List (List Key×ak×af)->Prop:=Paired λp q=>p.1=q.1/\H q.2.1=some (.tup<|p.1.map kV)/\RelV p.2 q.2.2
def KT.val{H:Hp}(r:KT H kvs xs)(k:List Key):xY (qJ kvs k) ((atKey xs k).map (·.2)):=by
 induction r with
 | nil=>exact True.intro
 | @cons p q ps c h t f=>
  obtain⟨h1,_,h2⟩:=h;by_cases e:p.1=k
  ·have d:q.1=k:=h1.symm.trans e;have b:atKey (q::c) k=some q.2:=by simp[atKey,bV,d]
   rw[um e,b];exact h2
  ·have d:¬q.1=k:=λz=>e<|h1.trans z;have b:atKey (q::c) k=atKey c k:=by simp[atKey,bV,d]
   rw[uF e,b];exact f
def KT.repl{H:Hp}{kvs:List<|List Key×V}{xs:List<|List Key×ak×af}(r:KT H kvs xs)(k:List Key)(ry:RelV y u) :
  KT H (kvs.map λkv=>if kv.1=k then(kv.1,y)else kv) (xs.map<|putAt k u):=by
 induction r with
 | nil=>exact .nil
 | @cons p q ps d h t c=>
  rw[bh,bh];refine .cons ?_ c;obtain⟨h1,h2,h3⟩:=h;unfold putAt;by_cases e:p.1=k
  ·rw[aS e,aS<|h1.symm.trans e];exact⟨h1,h2,ry⟩
  ·rw[aQ e,aQ λz=>e<|h1.trans z];exact⟨h1,h2,h3⟩
def KT.put{H:Hp}(r:KT H kvs xs)(k:List Key)(hb:H b=some (.tup<|k.map kV))(ry:RelV y u) :
  KT H (putK kvs k y) (storedH xs k b u):=by
 have e:(kvs.any λkv=>decide<|kv.1=k)=(atKey xs k).isSome:=by
  rw[w9,(r.val k).xF,fG]
 unfold putK storedH;rw[e];by_cases q:(atKey xs k).isSome=true
 ·rw[aS q,aS q];exact r.repl k ry
 ·rw[aQ q,aQ q];exact Paired.snoc r ⟨rfl,hb,ry⟩
def KT.keeps{H H':Hp}(r:KT H kvs xs)(ht:∀b ys,H b=some (.tup ys)->H' b=some (.tup ys)):KT H' kvs xs:=
 Paired.Xu r λ_ _ z=>⟨z.1,ht _ _ z.2.1,z.2.2⟩
section
variable {P:aj}{w:ah}{H:Hp}{h:aq}{a:ak}
def UW(ok:vL P w H h)(e:Rd H a u):kW P w H h a u:=e.ok ok
def EO{kvs:List<|Key×V}(ok:vL P w H h)(e:Rd H a<|.dK kvs):kvs.length<=sizeLine/\(a == sysModules)=false/\∃vs,KV kvs vs/\h.DictOf (kL P w) a vs:=
 show kW P w H h a (.dK kvs)from UW ok e
def VN{kvs:List<|Key×V}(ok:vL P w H h)(e:H a=some (.dK kvs)):kvs.length<=sizeLine/\(a == sysModules)=false/\∃vs,KV kvs vs/\h.DictOf (kL P w) a vs:=EO ok<|.inl e
def yf{ks:List Key}(ok:vL P w H h)(e:H a=some (.tup<|ks.map kV)):(tupleKind<|kL P w).is h ks a:=by
 obtain⟨_,c,r,o,h1,h2,_,n,h3⟩:=(show kW P w H h a (.tup<|ks.map kV)from ok a _ e);exact⟨o,c.toArray,n,h1,h2,h3,by simpa using BR r⟩
def Fc{kvs:List<|List Key×V}(ok:vL P w H h)(e:Rd H a<|.dT kvs):kvs.length<=sizeLine/\(a == sysModules)=false /\
  ∃xs,KT H kvs xs/\h.DictOfH (tupleKind<|kL P w) a xs:=by
 obtain⟨z,y,xs,r,o,es,ep,h1,h2,h3,f,j⟩:=(show kW P w H h a (.dT kvs)from UW ok e);refine⟨z,y,xs,r,o,es,ep,h1,h2,h3,f,λx c=>?_,j⟩;have all:∀{l:List<|List Key×V} {m:List<|List Key×ak×af},KT H l m->∀x∈m,(tupleKind<|kL P w).is h x.1 x.2.1:=by
  intro l m q
  induction q with
  | nil=>intro x c;exact nomatch c
  | @cons p q ps k d t g=>
   intro x c
   rcases bg.mp c with e|c
   ·subst e;exact yf ok (by rw[<- d.1];exact d.2.1)
   ·exact g x c
 exact all r x c
def Qx{kvs:List<|List Key×V}(ok:vL P w H h)(e:H a=some (.dT kvs)):kvs.length<=sizeLine/\(a == sysModules)=false /\
  ∃xs,KT H kvs xs/\h.DictOfH (tupleKind<|kL P w) a xs:=Fc ok<|.inl e
end
abbrev we (H:Hp)(a:ak)(y:V)(r:Option V):Prop:=
 (∃c k,Rd H a (.dK c)/\y=kV k/\r=qJ c k)\/∃c k b,Rd H a (.dT c)/\y=.ref b/\H b=some (.tup<|k.map kV)/\r=qJ c k
abbrev Cz (H:Hp)(a:ak)(y v:V)(H':Hp):Prop:=
 (∃c k,H a=some (.dK c)/\y=kV k/\c.length<sizeLine/\H'=upd H a (.dK<|putK c k v)) \/
 ∃c k b,H a=some (.dT c)/\y=.ref b/\H b=some (.tup<|k.map kV)/\c.length<sizeLine/\H'=upd H a (.dT<|putK c k v)
theorem we.k{H:Hp}{a:ak}{k:Key}(e:H a=some (.dK kvs)):we H a (kV k) (qJ kvs k):=.inl ⟨kvs,k,.inl e,rfl,rfl⟩
def we.t{H:Hp}{a:ak}{k:List Key}(e:H a=some (.dT kvs))(eb:H b=some (.tup<|k.map kV)):we H a (.ref b) (qJ kvs k):=.inr ⟨kvs,k,b,.inl e,rfl,eb,rfl⟩
theorem Cz.k{H:Hp}{a:ak}{kvs:List<|Key×V}{k:Key}{v:V}(e:H a=some (.dK kvs))(hl:kvs.length<sizeLine):Cz H a (kV k) v (upd H a<|.dK<|putK kvs k v):=.inl ⟨kvs,k,e,rfl,hl,rfl⟩
def Cz.t{H:Hp}{a:ak}{kvs:List<|List Key×V}{k:List Key}{v:V}(e:H a=some (.dT kvs))(eb:H b=some (.tup<|k.map kV))(hl:kvs.length<sizeLine) :
  Cz H a (.ref b) v (upd H a<|.dT<|putK kvs k v):=.inr ⟨kvs,k,b,e,rfl,eb,hl,rfl⟩
section
variable {X:Cx}{pins:bo}{σ:St}{H:Hp}{s:aA}{a:ak}{y v:V}{u r:af}{o:Option V}{A:az}{E:af->aA->Prop}
def Inv.big(I:Inv X pins σ H s):sysModules<s.heap.objs.size:=by
 have h:mainGlobals<s.heap.objs.size:=(I.mod.glob.keeps I.bk).lt;exact ji ⋯ h
def LH{Q:af->aA->Prop}(hu:A.units+1<cLine)(I:Inv X pins σ H s)(g:we H a y<|some v)(ry:RelV y u)(h:∀w' s',Inv X pins σ H s'->RelV v w'->Q w' s') :
  wpAny (model X.prog X.w) A (getItem (.ref a) u) Q E s:=by
 rcases g with⟨m,k,e,f,l⟩|⟨m,k,b,e,f,t,l⟩
 ·subst f;obtain⟨z,q,vs,d,dd⟩:=EO I.hok e;obtain⟨w',hw,c⟩:=xY.some_of (v:=v) (o:=valueAt vs k) (by rw[l];exact d.val k);exact wpAny_getItem_of (FN ry) dd.mapOf hw (h w' _ (I.tok _) c)
 ·subst f
  cases(show u=Value.ref b from ry)
  obtain⟨z,q,xs,d,dd⟩:=Fc I.hok e;obtain⟨w',hw,c⟩:=xY.some_of (v:=v) (o:=(atKey xs k).map (·.2)) (by rw[l];exact d.val k);obtain⟨p,hp,j⟩:=aW.mp hw;refine wpAny_getItem_heap (e_ hu) (yf I.hok t) dd hp ?_;rw[j];exact h w' _ (I.tok _) c
def Sl{Q:af->aA->Prop}(hu:A.units+1<cLine)(I:Inv X pins σ H s)(g:we H a y o)(ry:RelV y u)(h:∀s',Inv X pins σ H s'->Q (.bool<|!o.isSome) s') :
  wpAny (model X.prog X.w) A (compareOp .NotIn u<|.ref a) Q E s:=by
 rcases g with⟨j,k,e,f,l⟩|⟨j,k,b,e,f,m,l⟩
 ·subst f;obtain⟨z,d,vs,c,dd⟩:=EO I.hok e;refine wpAny_notIn_of (FN ry) d dd.mapOf ?_;rw[<- (c.val k).xF,<- l];exact h _ (I.tok _)
 ·subst f
  cases(show u=Value.ref b from ry)
  obtain⟨z,d,xs,c,dd⟩:=Fc I.hok e;refine wpAny_notIn_heap (e_ hu) (yf I.hok m) d dd ?_;have q:=(c.val k).xF;rw[fG]at q;rw[<- q,<- l];exact h _<|I.tok _
def CW{h':aq}{t':Nat}{ob:HO}(I:Inv X pins σ H s)(mu:Mut<|H a)(hs:Heap.SameBut a s.heap h')(he:∃q,h'.get? a=some q)(new:kW X.prog X.w (upd H a ob) h' a ob) :
  Inv X pins σ (upd H a ob) { s with heap:=h',toks:=t' }:=
 I.write (x:=a) (e:=a) mu (.inl rfl) (λb q c z=>(hs.2 b c).trans z) he new
def M5{P:aj}{w:ah}{H':Hp}{h':aq}{kvs:List<|Key×V}(z:kvs.length<=sizeLine)(hd:(a == sysModules)=false)(rel:KV kvs vs)(dd:h'.DictOf (kL P w) a vs) :
  kW P w H' h' a (.dK kvs):=⟨z,hd,vs,rel,dd⟩
def L8{H':Hp}{Q:Unit->aA->Prop}(hu:A.units+1<cLine)(I:Inv X pins σ H s)(g:Cz H a y v H')(ry:RelV y u)(rv:RelV v r)(h:∀s',Inv X pins σ H' s'->Q Unit.unit s') :
  wpAny (model X.prog X.w) A (setItem (.ref a) u r) Q E s:=by
 rcases g with⟨d,k,e,p,l,B⟩|⟨d,k,b,e,p,G,l,B⟩
 ·subst p B;obtain⟨z,m,vs,f,dd⟩:=VN I.hok e;have t:vs.length<=sizeLine:=by rw[<- f.length];exact z
  have C:(putK d k v).length<=sizeLine:=by have:=uG d k v;lia
  refine wpAny_setItem_pairs (hsz:=t) (FN ry) dd λh' dd' hs=>h _ ?_;have J:∃q,h'.get? a=some q:=let⟨q,_,_,j,_⟩:=dd';⟨q,j⟩
  exact CW I (by rw[e];exact True.intro) hs J<|M5 C m (f.put k rv) dd'
 ·subst p B
  cases(show u=Value.ref b from ry)
  obtain⟨z,m,xs,f,dd⟩:=Qx I.hok e;have t:xs.length<=sizeLine:=by rw[<- i9 f];exact z
  have C:(putK d k v).length<=sizeLine:=by have:=uG d k v;lia
  refine wpAny_setItem_heap (hsz:=t) (e_ hu) (yf I.hok G) dd λh' dd' hs=>h _ ?_;obtain⟨q,es,ep,j,h2,h3,K,_,L⟩:=dd';refine CW I (by rw[e];exact True.intro) hs ⟨q,j⟩ ⟨C,m,_,(f.put k G rv).keeps λc ys F=>?_,q,es,ep,j,h2,h3,K,L⟩;rw[jL<|aa5 F e λz=>nomatch z];exact F
end
def Ej{X:Cx}{H:Hp}{s:aA}{a:ak}(I:Inv X pins σ H s)(g:we H a y o):s.TypeIs (.ref a) "dict" := by
 rcases g with⟨c,k,e,_,_⟩|⟨c,k,b,e,_,_,_⟩
 ·obtain⟨_,_,vs,_,dd⟩:=EO I.hok e;exact dd.typeIs
 ·obtain⟨_,_,xs,_,dd⟩:=Fc I.hok e;exact dd.typeIs
def MI{P:aj}{w:ah}{H:Hp}(h:aq)(hb:sysModules<h.objs.size):kW P w H (h.push { cls:=.type "dict",data:=.dict #[]}) h.objs.size (.dK []):=
 ⟨bM _,b8.mpr<|cK<|bA hb,[],.nil,Heap.DictOf.new h⟩
def OU{P:aj}{w:ah}{H:Hp}(h:aq)(hb:sysModules<h.objs.size):kW P w H (h.push { cls:=.type "dict",data:=.dict #[]}) h.objs.size (.dT []):=
 ⟨bM _,b8.mpr<|cK<|bA hb,[],.nil,_,#[],0,bu _ rfl,⟨rfl,rfl,rfl⟩,rfl,rfl,dh⟩
abbrev WG:TE:=λ_ H Q=>∀p,H p=none->Q (.ref p) (upd H p<|.dK [])
abbrev V6:TE:=λ_ H Q=>∀p,H p=none->Q (.ref p) (upd H p<|.dT [])
section
variable {X:Cx}{pos:Pos}
def Pw:PE X (.Dict [] [] pos) WG:=λpins s σ H Q I h=>
 wpAny_Dict_empty ⟨.ref s.heap.objs.size,_,I.laid (a:=s.heap.objs.size) (o:=.dK []) (t':=s.toks) (λ_ _ q=>aR _ q) (aL _)<|MI s.heap I.big,rfl,h _<|I.hok.fresh<|aL _⟩
def NZ:PE X (.Dict [] [] pos) V6:=λpins s σ H Q I h=>
 wpAny_Dict_empty ⟨.ref s.heap.objs.size,_,I.laid (a:=s.heap.objs.size) (o:=.dT []) (t':=s.toks) (λ_ _ q=>aR _ q) (aL _)<|OU s.heap I.big,rfl,h _<|I.hok.fresh<|aL _⟩
end
structure M1 (X:Cx)(o:aC)(m:Str)(apos:Pos)(e:aC)(cpos:Pos):Prop where
 base:attributeBase o m X.env (eval o X.env)=eval o X.env
 few:((backTo cpos<|starEach [e] X.env).all (λx=>!x.1) && (backToKw cpos<|keywordEach [] X.env).all (λx=>x.1.isSome)
  && decide (([e]:List aC).length+([]:List Keyword).length+(if ([]:List Keyword).isEmpty then 0 else 1)<30))=true
 line:(apos.endLine == cpos.line)=true
 trees:backTo cpos (starEach [e] X.env)=[(false,eval e X.env)]
structure M2 (X:Cx)(o:aC)(m:Str)(apos:Pos)(e f:aC)(cpos:Pos):Prop where
 base:attributeBase o m X.env (eval o X.env)=eval o X.env
 few:((backTo cpos<|starEach [e,f] X.env).all (λx=>!x.1) && (backToKw cpos<|keywordEach [] X.env).all (λx=>x.1.isSome)
  && decide (([e,f]:List aC).length+([]:List Keyword).length+(if ([]:List Keyword).isEmpty then 0 else 1)<30))=true
 line:(apos.endLine == cpos.line)=true
 trees:backTo cpos (starEach [e,f] X.env)=[(false,eval e X.env),(false,eval f X.env)]
section
variable {X:Cx}{pins:bo}{σ:St}{H:Hp}{s:aA}{a:ak}{y d:V}{u r:af}{o:Option V}{A:az}{E:af->aA->Prop}
def Yl{Q:af->aA->Prop}(hu:A.units+1<cLine)(I:Inv X pins σ H s)(g:we H a y o)(ry:RelV y u)(rd:RelV d r)(h:∀w' s',Inv X pins σ H s'->RelV (o.getD d) w'->Q w' s') :
  wpAny (model X.prog X.w) A (call (.builtin "dict.get") [.ref a,u,r]) Q E s:=by
 rcases g with⟨m,k,e,j,l⟩|⟨m,k,b,e,j,p,l⟩
 ·subst j;obtain⟨z,f,vs,c,dd⟩:=EO I.hok e;refine jk cC dd.typeIs fh (eT _ _ _) (meets_dict_get_default (kL X.prog X.w) a (FN ry) f r) ⟨_,dd.mapOf,h _ _ (I.tok _) ?_⟩;rw[l];exact(c.val k).getD rd
 ·subst j
  cases(show u=Value.ref b from ry)
  obtain⟨z,f,xs,c,dd⟩:=Fc I.hok e;refine jk cC dd.typeIs fh (eT _ _ _) (gI (tupleKind<|kL X.prog X.w) a b f r) ⟨e_ hu,k,xs,yf I.hok p,dd,h _ _ (I.tok _) ?_⟩;rw[l];exact(c.val k).getD rd
end
meta abbrev m9:=ag×ag
abbrev sR (x:ag):Int:=reduceHash<|Builtin.Tuple.tupleHashOf<|x.map hashInt
abbrev HY (k:m9):Int:=reduceHash<|Builtin.Tuple.tupleHashOf [sR k.1,sR k.2]
abbrev dpE (x:(m9×ak×af)):DictEntry:=⟨HY x.1,.ref x.2.1,x.2.2⟩
abbrev uB (a:ak)(xs:List<|m9×ak×af)(h:aq):Prop:=(a == sysModules)=false/\xs.length<=sizeLine/\∃o es ep,h.get? a=some o/\o.ExactDict/\o.data=.dict es ep/\es.toList=xs.map dpE/\(xs.map (·.1)).Nodup
abbrev sQ (H:Hp)(b:ak)(k:m9):Prop:=∃r1 r2,H b=some (.tup [.ref r1,.ref r2])/\H r1=some (.tup<|k.1.map V.int)/\H r2=some (.tup<|k.2.map V.int)
section
variable {P:aj}{w:ah}{A:az}{E:af->aA->Prop}{s:aA}
meta abbrev TK (h:aq)(x:ag)(a:ak):Prop:=∃o c n,h.get? a=some o/\o.cls=.type "tuple" /\ o.data=.seq c n/\IntsAre c.toList x
theorem zG{P:aj}{w:ah}:∀{x:ag}{vs:ba},IntsAre vs x->ItemsAre (intKind P w) x vs
 | _,_,.nil=>.nil
 | _,_,.cons n t h=>.cons (intKind_is _ _ _ _)<|zG h
def vQ{x:ag}{a:ak}:TK h x a->IsTupleKey (intKind P w) h x a:=λ⟨o,c,n,h1,h2,h3,d⟩=>⟨o,c,n,h1,h2,h3,zG d⟩
theorem Eh:∀{x y:ag}{vs:ba},IntsAre vs x->IntsAre vs y->x=y
 | _,_,_,.nil,.nil=>rfl
 | _,_,_,.cons n t h,.cons _ _ h'=>by rw[Eh h h']
abbrev vI (h:aq)(k:m9)(a:ak):Prop:=∃o n c d,h.get? a=some o/\o.cls=.type "tuple" /\ o.data=.seq #[.ref c,.ref d] n/\TK h k.1 c/\TK h k.2 d
def vI.ty{k:m9}{a:ak}(x:vI s.heap k a):s.TypeIs (.ref a) "tuple" := let⟨o,_,_,_,ho,hc,_⟩:=x;⟨o,ho,hc⟩
def TK.inj{a:ak}{x:ag}(hx:TK h x a)(hy:TK h y a):x=y:=by
 obtain⟨o,g,n,m,_,k,j⟩:=hx;obtain⟨o',d,p,f,_,c,e⟩:=hy;obtain rfl:o=o':=aX<|m.symm.trans f;rw[k]at c
 injection c with h1 _
 subst h1;exact Eh j e
def vI.inj{a:ak}{x:m9}(hx:vI h x a)(hy:vI h y a):x=y:=by
 obtain⟨o,n,t,q,k,_,j,h1,h2⟩:=hx;obtain⟨o',m,B,p,d,_,c,f,g⟩:=hy;obtain rfl:o=o':=aX<|k.symm.trans d;rw[j]at c
 injection c with e _
 have e:=c7 Array.toList e
 injection e with e1 e2
 injection e2 with e2 _
 injection e1 with e1
 injection e2 with e2
 subst e1 e2;exact Prod.ext (h1.inj f)<|h2.inj g
def Ek{h:aq}{x:ag}{a d:ak}{o:Obj}{es ep}(k:TK h x a)(ho:h.get? d=some o)(hd:o.data=.dict es ep)(hs:Heap.SameBut d h h'):TK h' x a:=by
 obtain⟨o',c,n,f,hc,e,j⟩:=k;have g:a≠d:=by
  rintro rfl;obtain rfl:o'=o:=aX<|f.symm.trans ho;rw[hd]at e;exact nomatch e
 exact⟨o',c,n,(hs.2 a g).trans f,hc,e,j⟩
def vI.keeps{h:aq}{k:m9}{a d:ak}{o:Obj}{es ep}(x:vI h k a)(ho:h.get? d=some o)(hd:o.data=.dict es ep)(hs:Heap.SameBut d h h'):vI h' k a:=by
 obtain⟨o',n,g,j,e,hc,c,h1,h2⟩:=x;have f:a≠d:=by
  rintro rfl;obtain rfl:o'=o:=aX<|e.symm.trans ho;rw[hd]at c;exact nomatch c
 exact⟨o',n,g,j,(hs.2 a f).trans e,hc,c,Ek h1 ho hd hs,Ek h2 ho hd hs⟩
def KW{k:m9}{a:ak}{Q:Int->aA->Prop}(hu:A.units+8<cLine)(hk:vI s.heap k a)(h:Q (HY k) { s with toks:=s.toks+(k.1.length+1+(k.2.length+1)+1)}) :
  wpAny (model P w) A (pyHash<|.ref a) Q E s:=by
 have d:=hk.ty;obtain⟨o,n,p,g,m,_,j,h1,h2⟩:=hk;unfold pyHash
 first|unfold pyHashByItsType|skip
 first|refine aH (wpAny_cRoomFor_or (.inr<|by omega) ?_)|skip
 refine aH<|gw d gT.lookup ?_;show wpAny _ _ (if (some (Value.builtin "tuple.__hash__") == some Value.none)=true then _ else _) Q E s;rw[aQ<|by rw[beq_builtin_none];exact bG];refine aH<|gw d gT.lookup ?_;show wpAny _ _ (callSpecialIfBoundUnlessNone? (.ref a) "__hash__" _ >>= _) Q E s;refine aH<|wpAny_callSpecialIfBoundUnlessNone?_slot d gT<|cW gT d F.entry_tuple_hash ?_<|F.args_tuple_hash_1 _;show wpAny _ _ (Builtin.Tuple.tupleItemsOf (.ref a) >>= _) _ _ s;refine aH<|iS m j ?_;refine aH ?_;rw[<- iT];refine iB _
  (λrest (b:Array Int) s'=>(rest=[.ref p,.ref g]/\b.toList=[]/\s'=s)\/(rest=[.ref g]/\b.toList=[sR k.1]/\s'={ s with toks:=s.toks+(k.1.length+1)})\/(rest=[]/\b.toList=[sR k.1,sR k.2]/\s'={ s with toks:=s.toks+(k.1.length+1)+(k.2.length+1)}))
  _ ?_ ?_ _ _ (.inl ⟨rfl,rfl,rfl⟩)
 ·rintro x rest b s' (⟨e,c,rfl⟩|⟨e,c,rfl⟩|⟨e,_,_⟩)
  ·cases e
   refine aH (wpAny_pyHash_tuple (knd:=intKind P w) (ks:=k.1) (by simp;omega) (vQ h1) ?_)
   first
    | exact aP (.inr<|.inl ⟨rfl,by rw[gU,c];rfl,rfl⟩)
    | exact aH<|aP<|aP<|.inr<|.inl ⟨rfl,by rw[gU,c];rfl,rfl⟩
  ·cases e
   refine aH (wpAny_pyHash_tuple (knd:=intKind P w) (ks:=k.2) (by simp;omega) (vQ h2) ?_)
   first
    | exact aP (.inr<|.inr ⟨rfl,by rw[gU,c];rfl,rfl⟩)
    | exact aH<|aP<|aP<|.inr<|.inr ⟨rfl,by rw[gU,c];rfl,rfl⟩
  ·cases e
 ·rintro b s' (⟨e,_,_⟩|⟨e,_,_⟩|⟨_,c,rfl⟩)
  ·cases e
  ·cases e
  ·show wpAny _ _ (retInt<|Builtin.Tuple.tupleHashOf b.toList) _ _ _;rw[c];refine wpAny_ret_mkInt ?_;show wpAny _ _ (if (decide (-(2:Int) ^ 63<=Builtin.Tuple.tupleHashOf [sR k.1,sR k.2]) && decide (Builtin.Tuple.tupleHashOf [sR k.1,sR k.2]<2 ^ 63))=true then _ else _) Q E _;unfold HY reduceHash at h;by_cases f:(decide (-(2:Int) ^ 63<=Builtin.Tuple.tupleHashOf [sR k.1,sR k.2]) && decide (Builtin.Tuple.tupleHashOf [sR k.1,sR k.2]<2 ^ 63))=true
   ·rw[aS f];rw[aS f]at h;exact aP (by simpa[Nat.add_assoc]using h)
   ·rw[aQ f];rw[aQ f]at h;exact aH<|gD<|aP<|by simpa[Nat.add_assoc]using h
def DC{x:m9}{a:ak}{R:Fin->aA->Prop}(hu:A.units+8<cLine)(hx:vI s.heap x a)(hy:vI s.heap y b)(h:R (.done<|.ret<|.bool<|decide<|x=y) s) :
  wpAny (model P w) A (Builtin.«tuple.__eq__» ⟨[.ref a,.ref b],[]⟩) R E s:=by
 have j:=hy.ty;obtain⟨K,na,F,B,k,_,p,h1,h2⟩:=hx;obtain⟨J,nb,G,t,m,_,f,d,g⟩:=hy;show wpAny _ _ (isInstance (.ref b) (.type "tuple") >>= _) _ _ s;refine aH<|fS j ig ?_;dsimp[bR,bH,cQ];refine aH<|iS k p ?_;refine aH<|iS m f ?_;refine aH ?_;refine iB _
  (λrest r s'=>r.1=none/\s'=s/\((rest=[(.ref F,.ref G),(.ref B,.ref t)])\/(rest=[(.ref B,.ref t)]/\x.1=y.1)\/(rest=[]/\x=y)))
  _ ?_ ?_ _ _ ⟨rfl,rfl,.inl rfl⟩
 ·rintro⟨u,v⟩ rest r s' ⟨q,rfl,e|⟨e,C⟩|⟨e,_⟩⟩
  ·cases e
   refine aH<|wpAny_eqBool_tuple (knd:=intKind P w) (x:=x.1) (y:=y.1) () (vQ h1) (vQ d) ?_;by_cases c:x.1=y.1
   ·rw[aY c];dsimp[bR,bH,cQ];exact aP ⟨rfl,rfl,.inr<|.inl ⟨trivial,c⟩⟩
   ·rw[bw c];dsimp[cM,eZ];rw[bw λz=>c<|by rw[z]]at h;exact aH<|aP<|aP<|aP h
  ·cases e
   refine aH<|wpAny_eqBool_tuple (knd:=intKind P w) (x:=x.2) (y:=y.2) () (vQ h2) (vQ g) ?_;by_cases c:x.2=y.2
   ·rw[aY c];dsimp[bR,bH,cQ];exact aP ⟨rfl,rfl,.inr<|.inr ⟨trivial,Prod.ext C c⟩⟩
   ·rw[bw c];dsimp[cM,eZ];rw[bw λz=>c<|by rw[z]]at h;exact aH<|aP<|aP<|aP h
  ·cases e
 ·rintro⟨r1,r2⟩ s' ⟨q,rfl,e|⟨e,_⟩|⟨_,e⟩⟩
  ·cases e
  ·cases e
  ·simp only at q;subst q;refine aP ?_;rw[aY e]at h;exact h
def Us{x:m9}{a:ak}{Q:Bool->aA->Prop}(hu:A.units+16<cLine)(hx:vI s.heap x a)(hy:vI s.heap y b)(h:Q (decide<|x=y) s):wpAny (model P w) A (eqBool (.ref a)<|.ref b) Q E s:=by
 unfold eqBool
 try with_reducible refine cU ?_
 show wpAny _ _ (if (Value.ref a == Value.ref b)=true then _ else _) Q E s;by_cases c:(Value.ref a == Value.ref b)=true
 ·rw[aS c];have e:a=b:=by have:=eq_of_beq c;injection this
  subst e;obtain rfl:=hx.inj hy;exact aH<|gD<|aP<|by simpa using h
 ·rw[aQ c];exact aH (wpAny_richCompare_same_room (op:=.Eq) hx.ty hy.ty iK
   (cW iK hx.ty F.entry_tuple_eq (DC (by simp;lia) hx hy ⟨_,rfl,(λe=>nomatch e),dc h⟩)<|F.args_tuple_eq_2 _ _) ())
def Pu{n:Nat}{x:ag}{a:ak}{Q:Bool->aA->Prop}(hk:TK s.heap x a)(h:Q true s):wpAny (model P w) A (eqIsQuiet (n+1)<|.ref a) Q E s:=by
 have hk:=vQ (P:=P) (w:=w) hk;have g:=hk.typeIs;obtain⟨o,d,m,k,_,j,p⟩:=hk;unfold eqIsQuiet;refine aH<|gw g iK.lookup ?_;show wpAny _ _ (isInstance (.ref a) (.type "tuple") >>= _) _ _ s;refine aH<|fS g ig ?_;dsimp[bR,bH,cQ];refine aH<|gQ k j ?_;refine aH ?_;show wpAny _ _ (forIn d _ _) _ _ s;rw[<- iT];refine iB _ (λrest r s'=>r.1=none/\s'=s/\∀v∈rest,carriedByValue v=true) _ ?_ ?_ _ _ ⟨rfl,rfl,p.byValue⟩
 ·rintro v rest r s' ⟨f,rfl,c⟩;rw[eqIsQuiet_byValue _<|c v aN];refine aH<|aP ?_;dsimp[bR,bH,cQ];exact aP ⟨rfl,rfl,λu e=>c u<|aK _ e⟩
 ·rintro⟨r1,r2⟩ s' ⟨f,rfl,_⟩;simp only at f;subst f;exact aP h
def Gy{k:m9}{a:ak}{Q:Bool->aA->Prop}(hk:vI s.heap k a)(h:Q true s):wpAny (model P w) A (eqIsQuiet 8<|.ref a) Q E s:=by
 have j:=hk.ty;obtain⟨o,m,q,p,C,_,t,h1,h2⟩:=hk;unfold eqIsQuiet;refine aH<|gw j iK.lookup ?_;show wpAny _ _ (isInstance (.ref a) (.type "tuple") >>= _) _ _ s;refine aH<|fS j ig ?_;dsimp[bR,bH,cQ];refine aH<|gQ C t ?_;refine aH ?_;show wpAny _ _ (forIn (#[Value.ref q,.ref p]:Array af) _ _) _ _ s;rw[<- iT];refine iB _ (λrest r s'=>r.1=none/\s'=s/\∀v∈rest,∃c x,v=Value.ref c/\TK s.heap x c) _ ?_ ?_ _ _ ⟨rfl,rfl,λv hv=>by
  rcases bg.mp hv with e|hv
  ·exact⟨q,k.1,e,h1⟩
  ·exact⟨p,k.2,by simpa using hv,h2⟩⟩
 ·rintro v rest r s' ⟨g,rfl,d⟩;obtain⟨c,x,rfl,B⟩:=d v aN;refine aH<|Pu B ?_;dsimp[bR,bH,cQ];exact aP ⟨rfl,rfl,λu f=>d u<|aK _ f⟩
 ·rintro⟨r1,r2⟩ s' ⟨g,rfl,_⟩;simp only at g;subst g;exact aP h
end
abbrev AJ (P:aj)(w:ah):HeapKind P w m9 where
 is:=vI
 hash:=HY
 draws:=λk=>k.1.length+1+(k.2.length+1)+1
 room:=λA=>A.units+16<cLine
 inj:=λc e=>c.inj e
 keeps:=λx j g hs=>x.keeps j g hs
 pyHash:=λf d h=>KW () d h
 eqBool:=λf c e h=>Us f c e h
 quiet:=λd h=>Gy d h
section
variable {X:Cx}
def J8(hu:X.A.units+1<cLine):Vy X (λx y H Q=>∃a v,x=.ref a/\we H a y (some v)/\Q v H):=by
 intro e c pins s σ H x y v u Q I rx ry h hs;obtain⟨a,z,rfl,g,q⟩:=h
 cases rx
 have k:=Ej I g;unfold subscriptTail;refine aH ?_;rw[getitemInPython_of_ne k.not_modules];refine aH<|gw k PySem.F.slot_dict_getitem.lookup ?_;have d:wpAny (model X.prog X.w) X.A (subscripted c false (.ref a) u) (λr f=>wpAny (model X.prog X.w) X.A (letTemporaryGo e (.ref a) r >>= λ_=>pure r) (EP X pins σ Q) X.xe f) X.xe s:=by
  rw[hs];exact wpAny_operating<|LH hu I g ry λp t m j=>aH<|wpAny_letTemporaryGo<|aP ⟨z,H,m,j,q⟩
 first
  | exact aP (aH d)
  | exact aH (aP<|aH d)
  | exact aH d
def Lh(hu:X.A.units+1<cLine):pK X (compareOp .NotIn) (λy x H Q=>∃a o,x=.ref a/\we H a y o/\Q (.bl<|!o.isSome) H):=by
 intro pins s σ H y x v u Q I ry rx h;obtain⟨a,o,rfl,g,q⟩:=h
 cases rx
 exact Sl hu I g ry λd c=>⟨.bl<|!o.isSome,H,c,rfl,q⟩
def set_dict(hu:X.A.units+1<cLine):F4 X (λo i v H Q=>∃a H',o=.ref a/\Cz H a i v H'/\Q H'):=by
 intro pins s σ H o i v j iv u Q I f e d h;obtain⟨a,H',rfl,g,q⟩:=h
 cases f
 exact L8 hu I g e d λk c=>⟨H',c,q⟩
abbrev aaa:V->List V->Hp->VK->Prop:=λx vs H Q=>∃a b ks c y,x=.ref a/\vs=[.ref b,y]/\H a=some (.dT c)/\H b=some (.tup<|ks.map kV)/\Q ((qJ c ks).getD y) H
def TM(hu:X.A.units+1<cLine):MtM X "dict.get" aaa:=by
 intro pins s σ H x vs v us Q I rx d h;obtain⟨a,b,ks,e,y,rfl,rfl,g,m,q⟩:=h
 cases rx
 cases d with
 | @cons _ t _ FP r1 d=>
  cases d with
  | @cons _ k _ BI r2 d=>
   cases d
   cases r1
   obtain⟨z,j,xs,f,dd⟩:=Qx I.hok g;refine jk cC dd.typeIs fh (eT _ _ _) (gI (tupleKind<|kL X.prog X.w) a b j k) ⟨e_ hu,ks,xs,yf I.hok m,dd,?_⟩;refine⟨(qJ e ks).getD y,H,I.tok _,?_,q⟩;have c:=f.val ks
   cases e1:qJ e ks with
   | none=>
    rw[e1]at c
    cases e2:(atKey xs ks).map (·.2)with
    | none=>exact r2
    | some p=>rw[e2]at c;exact c.elim
   | some B=>
    rw[e1]at c
    cases e2:(atKey xs ks).map (·.2)with
    | none=>rw[e2]at c;exact c.elim
    | some p=>rw[e2]at c;exact c
end
section
theorem kt_at{H:Hp}:∀{kvs:List<|List Key×V}{xs:List<|List Key×ak×af},KT H kvs xs->kvs.length=xs.length/\∀(i:Nat) (p:List Key×V),kvs[i]?=some p->∃y:List Key×ak×af,xs[i]?=some y/\p.1=y.1/\H y.2.1=some (.tup<|p.1.map kV)/\RelV p.2 y.2.2
 | [],[],_=>⟨rfl,λi p h=>by simp at h⟩
 | [],_::_,r=>nomatch r
 | _::_,[],r=>nomatch r
 | a::kvs,b::xs,.cons z r=>by
  obtain⟨l,q⟩:=kt_at r;refine⟨by simp[l],λi p h=>?_⟩
  cases i with
  | zero=>
   have:a=p:=by simpa using h
   subst this;exact⟨b,rfl,z⟩
  | succ i=>exact q i p<|by simpa using h
end
abbrev C0 (e:ak)(h:aq):Prop:=∃o vs,h.get? e=some o/\o.data=.fields vs/\vs[2]?=some .none/\o.dict=none
abbrev kh (e:ak){α:Type}(m:Sem α):Prop:=∀(M:Model) (c:PySem.Ctx) (Q:α->Pos->aA->Prop) (E:af->Pos->aA->Prop) (p:Pos) (s:aA),Sem.wp M c m Q E p s->C0 e s.heap->Sem.wp M c m (λa p s=>Q a p s/\C0 e s.heap) (λv p s=>E v p s/\C0 e s.heap) p s
section
variable {e:ak}{α β:Type}
def kh.bind{m:Sem α}{f:α->Sem β}(h1:kh e m)(h2:∀a,kh e<|f a):kh e (m >>= f):=by
 intro M d Q E p s h c;rw[Sem.wp_bind']at h ⊢;exact Sem.wp_mono M d m (λa g s' z=>h2 a M d Q E g s' z.1 z.2) (λ_ _ _ z=>z) p s<|h1 M d _ _ p s h c
theorem kh.pure(a:α):kh e (pure a:Sem α):=λM d Q E p s h c=>by rw[Sem.wp_pure']at h ⊢;exact⟨h,c⟩
def kh.PV(w:String):kh e (PySem.unsupported w:Sem α):=λM d Q E p s h c=>by
 have h:Sem.wp M d (.unsupported w:Sem α) Q E p s:=h;rw[Sem.wp_unsupported]at h;exact h.elim
def kh.load(a:ak):kh e (PySem.load a):=λM d Q E p s h c=>by
 have h:Sem.wp M d (.load a none .pure) Q E p s:=h;show Sem.wp M d (.load a none .pure) _ _ p s;rw[Sem.wp_load]at h ⊢;obtain⟨o,f,h⟩:=h;rw[iG]at h;exact⟨o,f,by rw[iG];exact⟨h,c⟩⟩
def C0.update{h:aq}{a:ak}{f:Obj->Obj}(c:C0 e h)(hf:∀o vs,o.data=.fields vs->vs[2]?=some .none->∃ws,(f o).data=.fields ws/\ws[2]?=some .none/\(f o).dict=o.dict):C0 e (h.update a f):=by
 obtain⟨o,vs,h1,h2,h3,d⟩:=c;by_cases z:a=e
 ·subst z;obtain⟨ws,g,j,k⟩:=hf o vs h2 h3;exact⟨f o,ws,dY f h1<|fB g,g,j,k.trans d⟩
 ·exact⟨o,vs,by rw[eY _ _ z];exact h1,h2,h3,d⟩
def kh.update(a:ak)(f:Obj->Obj)(hf:∀o vs,o.data=.fields vs->vs[2]?=some .none->∃ws,(f o).data=.fields ws/\ws[2]?=some .none/\(f o).dict=o.dict):kh e (PySem.update a f):=λM d Q E p s h c=>by
 have h:Sem.wp M d (.update a none f .pure) Q E p s:=h;show Sem.wp M d (.update a none f .pure) _ _ p s;rw[Sem.wp_update]at h ⊢;obtain⟨g,h⟩:=h;rw[iG]at h;exact⟨g,by rw[iG];exact⟨h,c.update hf⟩⟩
def kh.alloc(o:Obj):kh e (PySem.alloc o):=λM d Q E p s h c=>by
 have h:Sem.wp M d (.alloc o .pure) Q E p s:=h;show Sem.wp M d (.alloc o .pure) _ _ p s;rw[Sem.wp_alloc,iG]at h ⊢;obtain⟨f,vs,h1,h2,h3,g⟩:=c;exact⟨h,f,vs,aR _ h1,h2,h3,g⟩
def kh.stack:kh e PySem.stack:=λM d Q E p s h c=>by
 have h:Sem.wp M d (.stack .pure) Q E p s:=h;show Sem.wp M d (.stack .pure) _ _ p s;rw[Sem.wp_stack,iG]at h ⊢;exact⟨h,c⟩
def kh.ite{c:Prop}[Decidable c]{a b:Sem α}(h1:kh e a)(h2:kh e b):kh e (if c then a else b):=by
 split
 ·exact h1
 ·exact h2
def kh.field(v:af)(i:Nat):kh e (PySem.field v i):=by
 unfold PySem.field PySem.fieldsOf;refine kh.bind ?_ λvs=>?_
 ·split
  ·refine kh.bind (kh.load _) λo=>?_;split
   ·exact kh.pure _
   ·exact kh.PV _
  ·exact kh.PV _
 ·split
  ·exact kh.pure _
  ·exact kh.PV _
def kh.setField(v x:af)(i:Nat)(hi:i≠2):kh e (PySem.setField v i x):=by
 unfold PySem.setField PySem.updateField;split
 ·refine kh.bind (kh.load _) λo=>?_;split
  ·refine kh.ite (kh.update _ _ λo vs h1 h2=>⟨_,dS h1 _,?_,?_⟩) (kh.PV _)
   ·rw[Array.getElem?_setIfInBounds_ne hi];exact h2
   ·unfold Obj.mapFields;split<;>rfl
  ·exact kh.PV _
 ·exact kh.PV _
def kh.frameEnvs:kh e PySem.frameEnvs:=by
 unfold PySem.frameEnvs;exact kh.bind kh.stack λ_=>kh.pure _
def kh.behind(env:Env)(outer:List Env):kh e (behindIsImport env outer):=by
 unfold behindIsImport;refine kh.ite (kh.pure _)<|kh.ite (kh.pure _)<|kh.bind (kh.field _ _) λ_=>kh.pure _
def kh.under:kh e underTheClaimsCaller:=by
 unfold underTheClaimsCaller;exact kh.bind kh.stack λ_=>kh.pure _
def kh.kept(env:Env)(b:Bool)(l:List Env):kh e (keptBack env b l):=by
 unfold keptBack;split
 ·refine kh.ite (kh.pure _) (kh.bind kh.under λ_=>kh.pure _)
 ·exact kh.pure _
theorem kh.ready:∀(l:List Env),kh e (readyFrames l)
 | []=>kh.pure _
 | env::outer=>by
  unfold readyFrames;split
  ·refine kh.bind (kh.load _) λo=>?_;refine kh.ite (kh.pure _) ?_;refine kh.bind (kh.behind _ _) λ_=>kh.bind (kh.kept _ _ _) λ_=>kh.bind (kh.update _ _ λo vs h1 h2=>⟨vs,h1,h2,rfl⟩) λ_=>kh.ready outer
  ·exact kh.PV _
def kh.frameOf(env:Env):kh e (PySem.frameOf env):=by
 unfold PySem.frameOf;refine kh.bind kh.frameEnvs λl=>kh.bind ?_ λ_=>?_
 ·unfold frameObject;split
  ·exact kh.pure _
  ·exact kh.bind (kh.ready _) λ_=>kh.pure _
 ·split
  ·exact kh.pure _
  ·exact kh.PV _
def kh.place(f:ak)(b:Bool):kh e (entryPlaceOf f b):=by
 unfold entryPlaceOf;refine kh.bind kh.stack λ_=>?_;split
 ·exact kh.pure _
 ·exact kh.pure _
def kh.entry(a b c d f:af)(l:ba):kh e (EntryCells.newEntry a b c d f l):=by
 unfold EntryCells.newEntry newFields newObj
 repeat (first|exact kh.pure _|exact kh.PV _|refine kh.bind (kh.alloc _) λ_=>?_|refine kh.bind (kh.PV _) λ_=>?_|refine kh.ite ?_ ?_|(refine kh.bind ?_ λ_=>?_))
def kh.flight(v:af)(f:Option ak):kh e (setFlight v f):=by
 unfold setFlight;refine kh.bind (kh.field _ _) λ_=>kh.ite (kh.setField _ _ _ ⋯)<|kh.pure _
def kh.note(v:af)(env:Env):kh e (noteFrame v env):=by
 unfold noteFrame;split
 ·refine kh.bind (kh.field _ _) λh=>kh.ite ?_ ?_
  ·refine kh.bind (kh.field _ _) λ_=>kh.ite (kh.pure _) ?_;refine kh.bind (kh.setField _ _ _ ⋯) λ_=>kh.bind (kh.frameOf _) λ_=>kh.bind (kh.place _ _) λ_=>kh.bind (kh.entry _ _ _ _ _ _) λ_=>kh.setField _ _ _ ⋯
  ·refine kh.bind (kh.frameOf _) λ_=>kh.bind (kh.place _ _) λ_=>kh.bind (kh.entry _ _ _ _ _ _) λ_=>kh.setField _ _ _ ⋯
 ·exact kh.PV _
def kh.leave(v:af)(env:Env):kh e (leaving env v):=by
 unfold leaving;exact kh.bind (kh.note _ _) λ_=>kh.flight _ _
def kh.any{m:Sem α}{A:az}{Q:α->aA->Prop}{E:af->aA->Prop}{s:aA}(k:kh e m)(h:wpAny M A m Q E s)(c:C0 e s.heap):wpAny M A m (λa s'=>Q a s'/\C0 e s'.heap) (λv s'=>E v s'/\C0 e s'.heap) s:=
 λf p d=>k M f _ _ p s (h f p d) c
end
def kW.here{P:aj}{w:ah}{H:Hp}{h:aq}{a:ak}(x:kW P w H h a o):∃ob,h.get? a=some ob:=by
 cases o with
 | lst xs=>obtain⟨_,_,_,_,e⟩:=x;exact⟨_,e⟩
 | tup xs=>obtain⟨_,_,_,p⟩:=x;obtain⟨o,e,_⟩:=p;exact⟨_,e⟩
 | dK c=>obtain⟨_,_,_,_,o,_,_,e,_⟩:=x;exact⟨_,e⟩
 | dT c=>obtain⟨_,_,_,_,o,_,_,e,_⟩:=x;exact⟨_,e⟩
 | set S n=>obtain⟨o,_,_,_,e,_⟩:=x;exact⟨_,e⟩
 | ins C dx fs=>obtain⟨_,_,_,e,_⟩:=x;exact⟨_,e⟩
 | own y=>exact x
 | xd fs=>obtain⟨_,⟨_,_,_,e,_⟩,_⟩:=x;exact⟨_,e⟩
 | rng d g=>obtain⟨_,_,_,e⟩:=x;exact⟨_,e⟩
 | frz ob u=>obtain⟨e,_⟩:=x;exact⟨_,e⟩
 | tbl ps=>exact⟨_,(show h.get? a=some _ from x)⟩
 | met f y=>exact⟨_,(show h.get? a=some _ from x)⟩
 | ext j=>obtain⟨_,⟨o,e⟩,_⟩:=x;exact⟨_,e⟩
structure Fly (l:List Env)(g:aq)(pn:bo)(H:Hp)(e:ak)(cls:af)(h:aq):Prop where
 ex:∃(B:aq) (a0:af),Heap.FlyingW B l e cls a0 h/\(∀a u,H a=some u->∃o,B.get? a=some o)/\(∀b o,g.get? b=some o->b∉frs l->∃o',B.get? b=some o')/\(∀p∈pn,∃o',B.get? p.1=some o')/\C0 e h
structure Made (X:Cx)(H:Hp)(e:ak)(cls:af)(g:aq)(h:aq):Prop where
 ex:∃(g':aq) (vs:ba),Heap.MadeExcOf g' h e cls vs/\g'.FunFrames X.base X.stack/\(∀a u,H a=some u->∃o,g'.get? a=some o)/\(∀b o,g.get? b=some o->∃o',g'.get? b=some o')/\(∀p∈X.pn,∃o',g'.get? p.1=some o')
def KC{g:aq}{e:ak}{cls:af}(M:Heap.MadeExcOf g h e cls vs):C0 e h:=by
 obtain⟨t,c,_⟩:=M.there;exact⟨_,_,c,rfl,rfl,rfl⟩
abbrev zj (X:Cx)(H:Hp)(e:ak)(cls:af)(s':aA):Prop:=Made X H e cls X.s₀.heap s'.heap\/Fly X.stack X.s₀.heap X.pn H e cls s'.heap
section
variable {X:Cx}{pins:bo}{σ:L2.St}{H:Hp}{s':aA}{e:ak}{cls:af}
def Aa(I:Inv X pins σ H s')(hex:X.ex=[]){B:aq}(k1:B.StaysIn s'.heap)(k2:B.StaysIn h')(up:s'.heap.UpToSlots h')(c1:∀a u,H a=some u->∃o,B.get? a=some o)(c2:∀b o,X.s₀.heap.get? b=some o->b∉X.fs->∃o',B.get? b=some o') :
  Un X.fs [] X.H₀ H X.s₀.heap h'/\vL X.prog X.w H h':=by
 have nx:∀b:ak,b∉X.ex:=λb z=>by rw[hex]at z;cases z
 have e:∀b o o',B.get? b=some o'->s'.heap.get? b=some o->h'.get? b=some o:=λb o o' d es=>by
  have:=k1 b o' d;rw[es]at this;cases this;exact k2 b o d
 have slot:∀b o,X.s₀.heap.get? b=some o->X.H₀ b=none->b∈X.fs->∃g,h'.get? b=some { o with slots:=g }:=λb o q n c=>by
  obtain⟨g,e1⟩:=I.base.slot b o q n c<|nx b;obtain⟨_,p,k,m⟩:=I.ok.tO.mem c;rw[q]at k;cases k;obtain⟨f,e2⟩:=up b _ e1 m;exact⟨f,e2⟩
 refine⟨⟨λb o q n c _=>?_,λb o q n c _=>slot b o q n c,λb o q n _=>I.base.free b o q n<|nx b,λb o q _=>?_,I.base.tups,I.base.frzs,I.base.tbls⟩,λa u j=>?_⟩
 ·obtain⟨o',d⟩:=c2 b o q c;exact e b o o' d (I.base.keep b o q n c<|nx b)
 ·by_cases c:b∈X.fs
  ·obtain⟨g,z⟩:=slot b o q (I.ok.frf b c) c;exact⟨_,z⟩
  ·obtain⟨o',d⟩:=c2 b o q c;exact⟨o',k2 b o' d⟩
 ·refine(I.hok a u j).stay (λb v c q=>?_) (λ_ q=>q) λ_ _ q=>q
  rcases c with z|z
  ·subst z;obtain⟨o',d⟩:=c1 _ u j;exact e _ v o' d q
  ·obtain⟨o',d⟩:=c1 b _ z;exact e b v o' d q
def Hl(I:Inv X pins σ H s')(hst:X.stack=X.env::X.outer)(hf:X.env.frame=some X.env.locals)(hex:X.ex=[])(R:zj X H e cls s'){Q:aA->Prop}{E:af->aA->Prop}
  (hQ:∀h',Un X.fs [] X.H₀ H X.s₀.heap h'->vL X.prog X.w H h'->Fly X.outer X.s₀.heap [] H e cls h'->Q { s' with heap:=h' }):wpAny (model X.prog X.w) X.A (leaving X.env<|.ref e) (λ_ s''=>Q s'') E s':=by
 have m:X.A.frames=some (X.env::X.outer):=by rw[<- hst];exact I.ok.frames
 have J:∀b o,X.s₀.heap.get? b=some o->b∉X.fs->b∉frs (X.env::X.outer):=λb o q c z=>by
  unfold frs at z;rw[eN,hf]at z
  rcases bg.mp z with z|z
  ·rw[z]at q;exact absurd (bI (a_ q) I.ok.above) (dN _)
  ·exact c z
 rcases R with⟨j,vs,M,g,K,N,_⟩|⟨B,a0,F,c1,c2,_,k0⟩
 ·
  rw[hst]at g;have G:∀env∈(X.env::X.outer),∀b,env.frame=some b->b∈frs (X.env::X.outer):=λenv L b c=>gB.mpr ⟨env,L,c⟩;refine cZ (kh.any (e:=e) (kh.leave _ _) (wpAny_leaves_madeW (Q:=λ_ s''=>∃h' t,s''={ s' with heap:=h' }/\Heap.FlyingW (PySem.W.hideAll j<|frs (X.env::X.outer)) X.outer e cls (.ref t) h'/\s'.heap.UpToSlots h') (E:=λ_ _=>False) (base:=PySem.W.hideAll j<|frs (X.env::X.outer)) m hf (λb o q=>eX _ q) (PySem.W.funFrames_hide g G) M λh' t d P O f=>⟨h',t,rfl,d,f⟩)<|KC M) (λ_ s'' z=>?_) λ_ _ z=>z.1.elim;obtain⟨⟨h',t,rfl,d,f⟩,k0⟩:=z;have k1:(PySem.W.hideAll j<|frs (X.env::X.outer)).StaysIn s'.heap:=λb o q=>M.keeps b o<|eX _ q;have c1:∀a u,H a=some u->∃o,(PySem.W.hideAll j<|frs (X.env::X.outer)).get? a=some o:=λa u C=>by
   obtain⟨o,q⟩:=K a u C;refine⟨o,dH _ q λz=>?_⟩;rw[<- hst]at z;rw[I.yZ a z]at C;cases C
  have c2:∀b o,X.s₀.heap.get? b=some o->b∉X.fs->∃o',(PySem.W.hideAll j<|frs (X.env::X.outer)).get? b=some o':=λb o q c=>by
   obtain⟨o',q'⟩:=N b o q;exact⟨o',dH _ q'<|J b o q c⟩
  obtain⟨un,hok⟩:=Aa I hex k1 d.1 f c1 c2;exact hQ h' un hok ⟨_,_,d,c1,λb o q c=>c2 b o q c,λp hp=>absurd hp<|by simp,k0⟩
 ·rw[hst]at F c2;refine cZ (kh.any (e:=e) (kh.leave _ _) (wpAny_leaves_onW (Q:=λ_ s''=>∃h',s''={ s' with heap:=h' }/\Heap.FlyingW B X.outer e cls a0 h'/\s'.heap.UpToSlots h') (E:=λ_ _=>False) m hf F λh' d f=>⟨h',rfl,d,f⟩) k0) (λ_ s'' z=>?_) λ_ _ z=>z.1.elim;obtain⟨⟨h',rfl,d,f⟩,k0'⟩:=z;have k:∀b o,X.s₀.heap.get? b=some o->b∉X.fs->∃o',B.get? b=some o':=λb o q c=>c2 b o q<|J b o q c;obtain⟨un,hok⟩:=Aa I hex F.1 d.1 f c1 k;exact hQ h' un hok ⟨_,_,d,c1,k,λp hp=>absurd hp<|by simp,k0'⟩
end
abbrev zc (P:aj)(w:ah):PN:=λouter H s E e c=>∃d cls H',e=.ref d/\c.os=s.os/\AllBare c.gens/\Un (frs outer) [] H H' s.heap c.heap/\vL P w H' c.heap/\Fly outer s.heap [] H' d cls c.heap/\E cls none H'
section
variable {P:aj}{w:ah}{K:au}{mg:Str->bd}{base:aq}{N:ar}{qual:Str}{scope:Scope}{f:ak}{cd:af}{A:az}{outer:List Env}{s:aA}{H:Hp}{E:XK}
def Ln{H':Hp}{cls:af}(I:Inv (xy (zc P w) P w K mg base N qual scope f cd A outer s H E) pins σ' H' s')
  (hf:(envOfC qual scope s.heap.objs.size f cd).frame=some (envOfC qual scope s.heap.objs.size f cd).locals)
  (R:zj (xy (zc P w) P w K mg base N qual scope f cd A outer s H E) H' ea cls s') (hE:E cls none H'):(xy (zc P w) P w K mg base N qual scope f cd A outer s H E).xe (.ref ea) s':=by
 refine Hl I rfl hf rfl R (Q:=λc=>zc P w outer H s E (.ref ea) c) λh' un hok fl=>?_;exact⟨ea,cls,H',rfl,I.os,I.bare,un,hok,fl,hE⟩
abbrev EX (X:Cx):XK:=λcls _ H'=>X.ex=[]/\∀pins c s' e,Inv X pins c H' s'->zj X H' e cls s'->X.xe (.ref e) s'
def Nn{X:Cx}(hP:X.prog=P)(hw:X.w=w):Passes (zc P w) X (EX X):=by
 intro pins σ H s e s' I ⟨C,cls,H',K,os,c,un,hok,⟨B,a0,F,c1,c2,_,k0⟩,j⟩;subst K hP hw;obtain⟨G,g,d,t,f⟩:=s';obtain rfl:f=s.os:=os;refine j.2 pins σ _ C (I.call (h':=G) (g':=g) (d':=d) (t':=t) (ch:=[]) un hok c λb z=>absurd z<|by simp) (.inr ⟨B,a0,F,c1,λb o q m=>?_,λp hp=>?_,k0⟩)
 ·obtain⟨o',q'⟩:=I.base.there b o q (by rw[j.1];simp);exact c2 b o' q' m
 ·obtain⟨q,_,k,J,_⟩:=I.pin p<|cJ _ hp;exact c2 p.1 _ q λz=>(bg.mp<|I.Ar _ z).elim k J
abbrev WO (X:Cx)(C:ak)(t:TA):TS:=λ_ σ H=>t σ H λvs H'=>vs.length<=sizeLine/\EX X (.ref C) none H'
def EM{X:Cx}{x:Str}{B:String}{e:aC}{t:TA}(O:OwnCls x C bmB newId X.mg X.base)(FB:ExcBaseFacts B newId initId bmB)(hh:X.A.handled=none)(ha:PA X (e::es) t)(hg:Gl X x<|>ε)
  (hs:starEach (e::es) X.env=(false,eval e X.env)::starEach es X.env<|>ε) (hplain:((backTo cpos<|starEach es X.env).any (·.1)=false)<|>ε) (hd:(x == ("__debug__" : Str))=false<|>δ) :
  PS X (.Raise (some<|.Call (.Name x np) (e::es) [] cpos) none pos) (WO X C t):=by
 kst_p;obtain⟨J,N,nm,q,bs,hdct,sn,sub,ab,col,dd,k0,k1,k2,k3,k5,mN,m,G,f,T⟩:=O.obj;refine wpAny_Raise_call_subU (C:=C) (nm:=nm) (q:=q) (N:=N) (bs:=bs) (bm:=J) (hdct:=hdct) (sn:=sn) (sub:=sub) (ab:=ab) (col:=col) (dd:=dd) (k0:=k0) (k1:=k1) (k2:=k2) (k3:=k3) (k5:=k5)
  FB FB.hasB FB (mN:=mN) (T.hasType FB.hasBase) hh (by rw[hs];show(false || (backTo cpos<|starEach es X.env).any (·.1))=false;rw[hplain];rfl) f (wO I hg O.bound ⟨rfl,?_⟩ hd)
 have k:=ha cpos pins s σ H _ I h;rw[hs]at k ⊢;refine iF<|nc k λus j ⟨vs,H2,c,r2,K,g,F⟩=>?_;refine⟨rfl,by rw[<- r2.length];exact K,c.bk _ _ m,G.keeps c.bk,T.keeps c.bk,λh' d M=>?_⟩;refine F pins σ { j with heap:=h' } d ?_ (.inl ⟨j.heap,us,M,c.stack,λa u d=>?_,λb o q=>?_,λp hp=>⟨_,(c.pin p<|cJ _ hp).1⟩⟩)
 ·exact c.kept (t':=j.toks) M.keeps
 ·exact(c.hok a u d).here
 ·exact c.base.there b o q<|by rw[g];simp
end
abbrev Aw:List (Str ⊕ TE)->St->Hp->(Hp->Prop)->Prop
 | [],_,H,k=>k H
 | .inl x::ps,σ,H,k=>x.length<=1000/\Aw ps σ H k
 | .inr t::ps,σ,H,k=>t σ H λv H'=>∃i,v=.int i/\i.natAbs.log2<64/\Aw ps σ H' k
inductive FParts (X:Cx):List aC->List (Str ⊕ TE)->Prop
 | nil:FParts X [] []
 | txt {x:Str} {j pos} {es:List aC} {ps:List<|Str ⊕ TE} (h:FParts X es ps):FParts X (.Constant (.str x) j pos::es) (.inl x::ps)
 | val {e:aC} {pos:Pos} {t:TE} {es:List aC} {ps:List<|Str ⊕ TE} (he:PE X e t) (h:FParts X es ps):FParts X (.FormattedValue e (-1) none pos::es) (.inr t::ps)
theorem wu{X:Cx}{Q:VK}:∀{es:List aC}{ps:List<|Str ⊕ TE},FParts X es ps->∀(H:Hp) (s:aA) (out:Str),Inv X pins σ H s->out.length+2000 * es.length<=sizeLine ->
  Aw ps σ H (λH'=>∀x:Str,x.length<=sizeLine->Q (.str x) H')->wpAny (model X.prog X.w) X.A (joinParts out<|evalEach es X.env) (EP X pins σ Q) X.xe s
 | _,_,.nil,H,s,out,I,c,h=>joinParts_nilE (joinParts_nil (show EP X pins σ Q _ _ from⟨.str out,H,I.tok _,⟨_,rfl⟩,h out<|by simpa using c⟩)<|by simpa using c)
 | _,_,.txt (x:=x) hp,H,s,out,I,c,h=>by
  refine joinParts_consE<|joinParts_cons<|Calls.Constant_str ?_;rw[bC]at c;have f:=h.1;have d:(out++x).length=out.length+x.length:=strLen_append ..;exact⟨by rw[d];lia,wu hp H _ _ (I.tok _) (by rw[d];lia) h.2⟩
 | _,_,.val (e:=e) (t:=t) he hp,H,s,out,I,c,h=>by
  rw[bC]at c;refine joinParts_consE<|joinParts_cons<|FormattedValue_plain<|nc (he pins s σ H _ I h) λv p ⟨x,H1,I1,r1,i,f,g,h1⟩=>?_;subst f;obtain⟨m,rfl⟩:=r1;refine formatField_int_small () ?_;have j:(Str.ofString<|toString i).length<=65:=by
   have:=int_text_length_le (a:=i) (k:=64) ⋯ g;rw[PySem.ofString_length];exact this
  have d:(out++Str.ofString (toString i)).length=out.length+(Str.ofString<|toString i).length:=strLen_append ..;exact⟨by rw[d];lia,wu hp H1 _ _ (I1.tok _) (by rw[d];lia) h1⟩
abbrev tFs (ps:List<|Str ⊕ TE):TE:=λσ H Q=>Aw ps σ H λH'=>∀x:Str,x.length<=sizeLine->Q (.str x) H'
def aa3{X:Cx}(h:FParts X (e1::e2::es) ps)(hl:2000 * (e1::e2::es).length<=sizeLine<|>δ):PE X (.JoinedStr (e1::e2::es) pos) (tFs ps):=
 λpins s σ H Q I q=>JoinedStr_many<|wu h H s Str.empty I (by rw[show Str.empty.length=0 from rfl,bW];exact hl) q
abbrev Cx.A8 (X:Cx)(pn':bo)(xe':af->aA->Prop):Cx:={ X with xe:=xe',pn:=pn' }
abbrev xu:HO:=.ext λ_=>True
abbrev Cx.hand (X:Cx)(pn':bo)(e:ak)(oe:Obj):Cx:={ X with A:=X.A.mark<|some<|.ref e,calm:=false,xe:=λ_ _=>False,pn:=pn',H₀:=upd X.H₀ e<|.frz oe xu}
structure XO (C:ak)(o:Obj):Prop where
 cls:o.cls=.ref C
 dict:o.dict=none
 ctx:∃vs,o.data=.fields vs/\vs[2]?=some .none
structure Fr0 (X:Cx)(e:ak):Prop where
 no:∀o,X.s₀.heap.get? e≠some o
 tup:∀xs,X.H₀ e≠some (.tup xs)
 frz:∀o u,X.H₀ e≠some (.frz o u)
 tbl:∀ps,X.H₀ e≠some (.tbl ps)
section
variable {X:Cx}{pins:bo}{σ:L2.St}{H:Hp}{s':aA}{e:ak}{cls:af}
def LM(I:Inv X pins σ H s')(hst:X.stack=X.env::X.outer)(hf:X.env.frame=some X.env.locals)(R:zj X H e cls s'){Q:Unit->aA->Prop}{E:af->aA->Prop}
  (hQ:∀h' B a0,Heap.HeldW B (X.env::X.outer) e cls a0 X.env.locals h'->B.StaysIn s'.heap->s'.heap.UpToSlots h'->(∀a u,H a=some u->∃o,B.get? a=some o)->(∀b o,X.s₀.heap.get? b=some o->b∉X.fs->∃o',B.get? b=some o')->(∀p∈X.pn,∃o',B.get? p.1=some o')->C0 e h'->Q Unit.unit { s' with heap:=h' }) :
  wpAny (model X.prog X.w) X.A (noteFrame (.ref e) X.env) Q E s':=by
 have m:X.A.frames=some (X.env::X.outer):=by rw[<- hst];exact I.ok.frames
 have K:∀b o,X.s₀.heap.get? b=some o->b∉X.fs->b∉frs (X.env::X.outer):=λb o q d z=>by
  unfold frs at z;rw[eN,hf]at z
  rcases bg.mp z with z|z
  ·rw[z]at q;exact absurd (bI (a_ q) I.ok.above) (dN _)
  ·exact d z
 rcases R with⟨k,vs,M,j,U,m2,P⟩|⟨B,a0,F,c1,c2,c3,k0⟩
 ·rw[hst]at j;have J:∀env∈(X.env::X.outer),∀b,env.frame=some b->b∈frs (X.env::X.outer):=λenv C b d=>gB.mpr ⟨env,C,d⟩;have hl:=PySem.W.funFrames_hide j J;obtain⟨t,C,Z,ht⟩:=M.there;have L:(PySem.W.hideAll k<|frs (X.env::X.outer)).get? e=none:=by
   cases V:(PySem.W.hideAll k<|frs (X.env::X.outer)).get? e with
   | none=>rfl
   | some o'=>have:=eX _ V;rw[M.new]at this;cases this
  have k1:(PySem.W.hideAll k<|frs (X.env::X.outer)).StaysIn s'.heap:=λb o q=>M.keeps b o<|eX _ q;have go:wpAny (model X.prog X.w) X.A (noteFrame (.ref e) X.env) (λ_ c=>∃h',c={ s' with heap:=h' }/\Heap.HeldW (PySem.W.hideAll k<|frs (X.env::X.outer)) (X.env::X.outer) e cls (.ref t) X.env.locals h'/\s'.heap.UpToSlots h') (λ_ _=>False) s':=by
   unfold noteFrame;dsimp[hf];refine aH<|eV C rfl (x:=.none) rfl ?_;rw[aQ ⋯];refine wpAny_entryW (base:=PySem.W.hideAll k<|frs (X.env::X.outer)) (a0:=.ref t) m (hl.of_keeps λb o d _=>⟨o,M.keeps b o d,rfl⟩) hf C k1 L rfl (by simp) rfl λh' O=>?_;obtain⟨f,x2,Y,g⟩:=O;exact⟨h',rfl,⟨f,L,x2,Y⟩,g⟩
  refine cZ (kh.any (e:=e) (kh.note _ _) go<|KC M) (λ_ c z=>?_) λ_ _ z=>z.1.elim;obtain⟨⟨h',rfl,f,g⟩,k0⟩:=z;refine hQ h' _ _ f k1 g (λa u G=>?_) (λb o q d=>?_) (λp hp=>?_) k0
  ·obtain⟨o,q⟩:=U a u G;refine⟨o,dH _ q λz=>?_⟩;rw[<- hst]at z;rw[I.yZ a z]at G;cases G
  ·obtain⟨o',q'⟩:=m2 b o q;exact⟨o',dH _ q'<|K b o q d⟩
  ·obtain⟨o',q'⟩:=P p hp;obtain⟨q,_,N,T,_⟩:=I.pin p<|cJ _ hp;refine⟨o',dH _ q' λz=>?_⟩;rw[<- hst]at z;exact(bg.mp<|I.Ar _ z).elim N T
 ·rw[hst]at F c2;refine cZ (kh.any (e:=e) (kh.note _ _) (wpAny_looks_onW (Q:=λ_ c=>∃h',c={ s' with heap:=h' }/\Heap.HeldW B (X.env::X.outer) e cls a0 X.env.locals h'/\s'.heap.UpToSlots h') (E:=λ_ _=>False) m hf F λh' f g=>⟨h',rfl,f,g⟩) k0) (λ_ c z=>?_) λ_ _ z=>z.1.elim;obtain⟨⟨h',rfl,f,g⟩,k0'⟩:=z;exact hQ h' B a0 f F.1 g c1 (λb o q d=>c2 b o q<|K b o q d) c3 k0'
end
section
variable {X:Cx}{pn' pins:bo}{xe':af->aA->Prop}{σ:L2.St}{H:Hp}{s':aA}{e C:ak}{B h6:aq}{a0:af}
def B0(I:Inv (X.A8 pn' xe') pins σ H s')(hex:X.ex=[])(F:Heap.FlyingW B (X.env::X.outer) e (.ref C) a0 h6)(k1:B.StaysIn s'.heap)(up:s'.heap.UpToSlots h6)
  (c1:∀a u,H a=some u->∃o,B.get? a=some o) (c2:∀b o,X.s₀.heap.get? b=some o->b∉X.fs->∃o',B.get? b=some o') (c3:∀p∈pn',∃o',B.get? p.1=some o') (k0:C0 e h6) :
  Fr0 X e/\H e=none/\∃oe,XO C oe/\Inv (X.hand pn' e oe) [] σ (upd H e<|.frz oe xu) { s' with heap:=h6 }:=by
 obtain⟨un,hok⟩:=Aa I hex k1 F.1 up c1 c2;have hn:H e=none:=by
  cases q:H e with
  | none=>rfl
  | some u=>obtain⟨o,z⟩:=c1 e u q;rw[F.2.1]at z;cases z
 obtain⟨g,Y,G,K,g3,g5⟩:=k0;have ns:∀o,X.s₀.heap.get? e≠some o:=λo q=>by
  by_cases f:e∈X.fs
  ·obtain⟨_,W,j,Z⟩:=I.ok.tO.mem f;have j:X.s₀.heap.get? e=some W:=j;rw[q]at j;cases j;obtain⟨sl,z⟩:=un.slot e o q (I.ok.frf e f) f (by simp);rw[G]at z;have z:g=_:=aX z;rw[z]at K;exact Z _ K
  ·obtain⟨o',z⟩:=c2 e o q f;rw[F.2.1]at z;cases z
 have L:∀(b:ak) (M:Obj),s'.heap.get? b=some M->(∀vs,M.data≠.fields vs)->b≠e:=λb M q d z=>by
  obtain⟨sl,O⟩:=up b M q d;rw[z,G]at O;have O:g=_:=aX O;rw[O]at K;exact d _ K
 obtain⟨m,hm,hl⟩:=id I.loc;have t:s'.heap.Ns X.env.locals m:=hm;have J:∀c v,s'.heap.IsCell c v->h6.IsCell c v:=λc v h9=>by
  obtain⟨V,q,d⟩:=h9;obtain⟨sl,z⟩:=up c V q λvs y=>by rw[d]at y;cases y
  exact⟨_,z,d⟩
 have U:X.env.locals≠e:=by
  obtain⟨oL,es,ep,q,d,_⟩:=id t;exact L _ oL q λvs y=>by rw[d]at y;cases y
 have xo:XO C g:=by
  obtain⟨_,_,_,oe,vs,T,oT,ts,N,⟨hc,_⟩,hd,_⟩:=F;rw[G]at N;have N:g=oe:=aX N;subst N;exact⟨hc,g5,Y,K,g3⟩
 have no:∀u,H e≠some u:=λu q=>by rw[hn]at q;cases q
 have fr:Fr0 X e:=⟨ns,λxs q=>no _<|un.tups e xs q,λo u q=>no _<|un.frzs e o u q,λps q=>let⟨_,z⟩:=un.tbls e ps q;no _ z⟩;refine⟨fr,hn,g,xo,⟨I.ok.mod,I.ok.kind,I.ok.glob,I.ok.blt,I.ok.above,I.ok.inj,I.ok.has,I.ok.cab,λh=>(by cases h),I.ok.frames,I.ok.stk,I.ok.exf,λb o q=>⟨(I.ok.bs b o q).1,?_⟩,I.ok.bsz,I.ok.noex,I.ok.exfs,I.ok.tO,λb f=>?_⟩,I.os,I.bare,?_,⟨m,up.ns t,λi x v h1 h2 h3=>?_⟩,λx c h=>?_,?_,λx c h=>?_,λp hp=>?_,λb u q=>?_,I.len⟩
 ·show upd X.H₀ e _ b=none;rw[jL λz=>ns o<|by rw[<- z];exact(I.ok.bs b o q).1];exact(I.ok.bs b o q).2
 ·show upd X.H₀ e _ b=none;obtain⟨_,W,j,Z⟩:=I.ok.tO.mem f;rw[jL λz=>ns W<|by rw[<- z];exact j];exact I.ok.frf b f
 ·have h0:∀b o,X.s₀.heap.get? b=some o->upd X.H₀ e (.frz g xu) b=none->X.H₀ b=none:=λb o q n=>by
   rwa [jL λz=>ns o<|by rw[<- z];exact q]at n
  refine⟨λb o q n h _=>un.keep b o q (h0 b o q n) h<|by simp,λb o q n h _=>un.slot b o q (h0 b o q n) h<|by simp,λb o q n _=>?_,λb o q _=>un.there b o q<|by simp,λb xs q=>?_,λb o u q=>?_,λb ps q=>?_⟩
  ·rw[jL λz=>ns o<|by rw[<- z];exact q];exact un.free b o q (h0 b o q n) (by simp)
  ·have q:upd X.H₀ e (.frz g xu) b=some (.tup xs):=q;by_cases f:b=e
   ·rw[f,ko]at q;cases q
   ·rw[jL f]at q ⊢;exact un.tups b xs q
  ·have q:upd X.H₀ e (.frz g xu) b=some (.frz o u):=q;by_cases f:b=e
   ·rw[f,ko]at q ⊢;exact q
   ·rw[jL f]at q ⊢;exact un.frzs b o u q
  ·have q:upd X.H₀ e (.frz g xu) b=some (.tbl ps):=q;by_cases f:b=e
   ·rw[f,ko]at q;cases q
   ·rw[jL f]at q ⊢;exact un.tbls b ps q
 ·obtain⟨u,r,lk⟩:=hl i x v h1 h2 h3;refine⟨u,r,?_⟩
  rcases lk with⟨k,z⟩|⟨k,c,z,y⟩
  ·exact .inl ⟨k,z⟩
  ·exact .inr ⟨k,c,z,J c _ y⟩
 ·obtain⟨v,z⟩:=I.cell x c h;exact⟨v,J c v z⟩
 ·show upd H e _ X.env.locals=none;rw[jL U];exact I.free
 ·obtain⟨v,V,q,d⟩:=I.cell x c h;rw[jL<|L c V q λvs y=>by rw[d]at y;cases y];exact I.freeC x c h
 ·have hp:p∈pn':=by
   have hp:p∈pn'++[]:=hp
   rwa [bN]at hp
  obtain⟨q,n,n1,n2,d⟩:=I.pin p<|cJ _ hp;obtain⟨o',z⟩:=c3 p hp;have P:=k1 _ _ z;rw[q]at P;have P:p.2=o':=aX P;refine⟨by rw[P];exact F.1 _ _ z,?_,n1,n2,d⟩;rw[jL λy=>by rw[y,F.2.1]at z;cases z];exact n
 ·by_cases f:b=e
  ·subst f;rw[ko]at q;cases q;exact⟨G,trivial,⟨g,G⟩,λ_ _ _ _=>trivial⟩
  ·rw[jL f]at q;exact(hok b u q).stay (λ_ _ _ z=>z) (λc z=>by rw[jL<|jT z hn];exact z) λc xs z=>by rw[jL<|jT z hn];exact z
end
section
variable {X:Cx}{pins:bo}{σ:L2.St}{H:Hp}{s:aA}
def LB{A:az}{E:af->aA->Prop}{i:Nat}{n:Str}{v:V}{Q:Unit->aA->Prop}(I:Inv X pins σ H s)(hN:X.N.Nodup)(hi:X.N[i]?=some n)(hlo:X.env.scope.names.lookup n=some .local)(hv:σ[i]?=some (some v))
  (h:∀s',Inv X pins (σ.set i none) H s'->Q Unit.unit s'):wpAny M A (unbindName X.env n) Q E s:=by
 obtain⟨m,hn,G⟩:=id I.loc;obtain⟨u,r,J⟩:=G i n v hi hv<|.inl hlo;have L:m n=some u:=by
  rcases J with⟨_,z⟩|⟨k,_⟩
  ·exact z
  ·exfalso;have W:X.env.kindOf n=some .local:=hlo
   rcases k with k|k<;>(rw[W]at k;cases k)
 have B:(X.env.scope.kind == .class || (X.env.scope.kind == .module && X.env.locals != X.env.globals))=false:=by rw[I.ok.kind];rfl
 refine wpAny_unbindName_local hlo hn L B λh' u' g hs=>?_;have e:∀b o,X.s₀.heap.get? b=some o->h'.get? b=s.heap.get? b:=λb o q=>hs.2 b<|bA<|bI (a_ q) I.ok.above;obtain⟨oL,_,_,Y,_⟩:=id hn;refine h _ ⟨I.ok,I.os,I.bare,⟨λb o q F C f=>(e b o q).trans<|I.base.keep b o q F C f,λb o q F C f=>?_,I.base.free,λb o q f=>?_,I.base.tups,I.base.frzs,I.base.tbls⟩,⟨_,g,λj y U e1 e2 e3=>?_⟩,λy c q=>?_,I.free,I.freeC,λp hp=>?_,λb K q=>?_,by rw[cu];exact I.len⟩
 ·obtain⟨O,z⟩:=I.base.slot b o q F C f;exact⟨O,(e b o q).trans z⟩
 ·obtain⟨o',z⟩:=I.base.there b o q f;exact⟨o',(e b o q).trans z⟩
 ·by_cases t:j=i
  ·subst t;have:j<σ.length:=(aI.mp hv).1;rw[bJ this]at e2
   cases e2
  ·rw[bO<|cK t]at e2;obtain⟨w,Z,q⟩:=G j y U e1 e2 e3;refine⟨w,Z,?_⟩
   rcases q with⟨k,z⟩|⟨k,c,z,T⟩
   ·have:y≠n:=λz=>t<|Ac hN e1<|z ▸ hi;exact .inl ⟨k,by simp[this,z]⟩
   ·exact .inr ⟨k,c,z,T.sameBut hs<|I.Rp y c z⟩
 ·obtain⟨w,z⟩:=I.cell y c q;exact⟨w,z.sameBut hs<|I.Rp y c q⟩
 ·obtain⟨z,n0,ne,P,d⟩:=I.pin p hp;exact⟨(hs.2 p.1 ne).trans z,n0,ne,P,d⟩
 ·refine(I.hok b K q).stay (λc w hc z=>(hs.2 c ?_).trans z) (λ_ z=>z) λ_ _ z=>z;intro y
  rcases hc with hc|hc
  ·rw[<- hc,y,I.free]at q;cases q
  ·rw[y,I.free]at hc;cases hc
def Inv.A8(I:Inv X pins σ H s)(xe':af->aA->Prop):Inv (X.A8 (X.pn++pins) xe') [] σ H s:=
 ⟨⟨I.ok.mod,I.ok.kind,I.ok.glob,I.ok.blt,I.ok.above,I.ok.inj,I.ok.has,I.ok.cab,I.ok.hd,I.ok.frames,I.ok.stk,I.ok.exf,I.ok.bs,I.ok.bsz,I.ok.noex,I.ok.exfs,I.ok.tO,I.ok.frf⟩,I.os,I.bare,I.base,I.loc,I.cell,I.free,I.freeC,λp hp=>I.pin p (by
  have hp:p∈(X.pn++pins)++[]:=hp
  rwa [bN]at hp),I.hok,I.len⟩
def Inv.Js{xe':af->aA->Prop}(I:Inv (X.A8 (X.pn++pins) xe') pins' σ H s):Inv X pins σ H s:=
 ⟨⟨I.ok.mod,I.ok.kind,I.ok.glob,I.ok.blt,I.ok.above,I.ok.inj,I.ok.has,I.ok.cab,I.ok.hd,I.ok.frames,I.ok.stk,I.ok.exf,I.ok.bs,I.ok.bsz,I.ok.noex,I.ok.exfs,I.ok.tO,I.ok.frf⟩,I.os,I.bare,I.base,I.loc,I.cell,I.free,I.freeC,λp hp=>I.pin p<|cJ _ hp,I.hok,I.len⟩
def Inv.X8{e:ak}(I:Inv (X.hand (X.pn++pins) e oe) pins' σ H s)(ok:X.Ok)(f0:Fr0 X e):Inv X pins σ H s:=
 have h0:∀b o,X.s₀.heap.get? b=some o->X.H₀ b=none->upd X.H₀ e (.frz oe xu) b=none:=λb o q n=>by
  rw[jL λz=>f0.no o<|by rw[<- z];exact q];exact n
 ⟨ok,I.os,I.bare,⟨λb o q n=>I.base.keep b o q<|h0 b o q n,λb o q n=>I.base.slot b o q<|h0 b o q n,λb o q n=>I.base.free b o q<|h0 b o q n,I.base.there,λb xs q=>I.base.tups b xs<|show upd X.H₀ e (.frz oe xu) b=_ by rw[jL λz=>f0.tup xs<|by rw[<- z];exact q];exact q,λb o u q=>I.base.frzs b o u<|show upd X.H₀ e (.frz oe xu) b=_ by rw[jL λz=>f0.frz o u<|by rw[<- z];exact q];exact q,λb ps q=>I.base.tbls b ps<|show upd X.H₀ e (.frz oe xu) b=_ by rw[jL λz=>f0.tbl ps<|by rw[<- z];exact q];exact q⟩,I.loc,I.cell,I.free,I.freeC,λp hp=>I.pin p<|cJ _ hp,I.hok,I.len⟩
end
section
variable {M:Model}{A:az}{E:af->aA->Prop}{h:aq}{g:Array GenState}{d:Drawn}{t:Nat}{os:OsState}{C N D N':ak}{nm q nm' q':Str}{bs bm bs' bm':ba}{hdct hdct':Bool}{sn sn':ar}{sub sub':ba}{ab ab':Bool}{col col':bi}{dd dd':Option ak}{k0 k1 k2 k3 k5 k0' k1' k2' k3' k5':bd}{newId newId':String}
def A_{e:ak}{oe:Obj}{Q:Bool->aA->Prop}(hC:h.get? C=some (excClassObj nm q C N bs bm hdct sn sub ab col dd k0 k1 k2 k3 k5 newId))(hD:h.get? D=some (excClassObj nm' q' D N' bs' bm' hdct' sn' sub' ab' col' dd' k0' k1' k2' k3' k5' newId'))
  (he:h.get? e=some oe) (hcls:oe.cls=.ref C) (hbase:bm'.contains (.type "BaseException")=true) (hq:Q ((Value.ref C::bm).contains<|.ref D) ⟨h,g,d,t,os⟩):wpAny M A (excMatches (.ref e)<|.ref D) Q E ⟨h,g,d,t,os⟩:=by
 have c:(Value.ref D::bm').contains (.type "BaseException")=true:=by rw[List.contains_cons,hbase,Bool.or_true]
 have f:=tc_notTuple;unfold excMatches
 repeat (first|(with_reducible refine wpAny_loadPart_at he ?_;rw[hcls])|with_reducible refine wpAny_loadPart_at hD ?_|(with_reducible refine wpAny_isSubtype_exc hD ?_;rw[c])|with_reducible refine wpAny_isSubtype_exc hC ?_|wp_step)
 cases j:(Value.ref C::bm).contains (.ref D)<;>(rw[j]at hq;wp_walk;exact hq)
end
abbrev mroIn (K:au)(C:ak):Option (ba):=match K.lookup C with
 | some ⟨.type "type",_,.cls cd,sl⟩=>(match cd.mro,sl.toList with
  | .ref C'::bm,[_,_,_,_,some<|.builtin _,_]=>if C'=C/\cd.hasDel=false then some bm else none
  | _,_=>none)
 | _=>none
structure ClsAt (h:aq)(C:ak)(bm:ba):Prop where
 ex:∃nm q N bs hdct sn sub ab col dd k0 k1 k2 k3 k5 newId,h.get? C=some (excClassObj nm q C N bs bm hdct sn sub ab col dd k0 k1 k2 k3 k5 newId)
def NC{K:au}(X:K.In h)(e:mroIn K C=some bm):ClsAt h C bm:=by
 unfold mroIn at e;split at e
 ·rename_i dd cd f m;split at e
  ·rename_i t bm' k0 k1 k2 k3 n k5 g hs;split at e
   ·rename_i hc
    cases e
    obtain⟨rfl,c⟩:=hc;obtain⟨nm,bs,q,ns,p,j,sn,sub,ab,col,k⟩:=cd;dsimp only at g c;subst g c;have d:f=#[k0,k1,k2,k3,some<|.builtin n,k5]:=by
     obtain⟨l⟩:=f;simp only at hs;rw[hs]
    subst d;exact⟨nm,p,ns,bs,j,sn,sub,ab,col,dd,k0,k1,k2,k3,k5,n,X _ _ m⟩
   ·cases e
  ·cases e
 ·cases e
abbrev unD (i:Nat)(D:Ends):Ends:=⟨λσ H=>D.nx (σ.set i none) H,D.rt,λσ H=>D.bk (σ.set i none) H,λσ H=>D.ct (σ.set i none) H⟩
section
variable {X:Cx}{pins pins':bo}{xe':af->aA->Prop}{σ:L2.St}{H:Hp}{s':aA}{e C Dc:ak}{bm bmD:ba}{x n:Str}{i:Nat}{De:Ends}{b0:aE}{suite:List aE}{np hp:Pos}
def FQ{f:Flow}(hN:X.N.Nodup)(hi:X.N[i]?=some n)(hlo:X.env.scope.names.lookup n=some .local)(ok:X.Ok)(f0:Fr0 X e)(h:SP (X.hand (X.pn++pins) e oe) [] (unD i De) f s2) :
  wpAny (model X.prog X.w) X.A (do bindName X.env n .none;unbindBehindTheSuite X.env n pos) (λ_ s3=>SP X pins De f s3) X.xe s2:=by
 have j:∀{c:L2.St} {H':Hp},Inv (X.hand (X.pn++pins) e oe) [] c H' s2->(∀s3,Inv X pins (c.set i none) H' s3->SP X pins De f s3)->wpAny (model X.prog X.w) X.A (do bindName X.env n .none;unbindBehindTheSuite X.env n pos) (λ_ s3=>SP X pins De f s3) X.xe s2:=λ{c H'} J k=>by
  have J:=J.X8 ok f0;have g:i<c.length:=by rw[J.len];exact(aI.mp hi).1
  refine aH<|wpAny_bindName<|uE (v:=.non) J hN hi (.inl hlo) rfl (λs3 d=>?_)<|.inr hlo;unfold unbindBehindTheSuite;refine wpAny_onRaise (LB (v:=.non) d hN hi hlo (bJ g) λp m=>k p ?_)
  rwa [List.set_set]at m
 cases f with
 | next=>obtain⟨c,H',J,q⟩:=h;exact j J λs3 d=>⟨_,_,d,q⟩
 | brk=>obtain⟨c,H',J,q⟩:=h;exact j J λs3 d=>⟨_,_,d,q⟩
 | cont=>obtain⟨c,H',J,q⟩:=h;exact j J λs3 d=>⟨_,_,d,q⟩
 | ret u=>obtain⟨v,c,H',J,r,q⟩:=h;exact j J λs3 d=>⟨v,_,_,d,r,q⟩
def Ng(hst:X.stack=X.env::X.outer)(hf:X.env.frame=some X.env.locals)(hex:X.ex=[])(hN:X.N.Nodup)(hi:X.N[i]?=some n)(hlo:X.env.scope.names.lookup n=some .local)(hg:Gl X x)(hm:X.mg x=some (.ref Dc))(mD:mroIn X.K Dc=some bmD)(hbD:bmD.contains (.type "BaseException")=true)
  (I:Inv (X.A8 (X.pn++pins) xe') pins' σ H s') (R:zj (X.A8 (X.pn++pins) xe') H e (.ref C) s') (mC:mroIn X.K C=some bm) (hCD:(Value.ref C::bm).contains (.ref Dc)=true)
  (k:∀oe s6,XO C oe->H e=none->Inv (X.hand (X.pn++pins) e oe) [] (σ.set i<|some<|.ref e) (upd H e<|.frz oe xu) s6->wpAny (model X.prog X.w) (X.A.mark<|some<|.ref e) (execs (b0::suite) X.env) (SP (X.hand (X.pn++pins) e oe) []<|unD i De) (λ_ _=>False) s6)
  (ok:X.Ok) (hdb:(x == ("__debug__" : Str))=false) :
  wpAny (model X.prog X.w) X.A (noteFrame (.ref e) X.env) (λ_ s2=>wpAny (model X.prog X.w) X.A (setFlight (.ref e) none) (λ_ s3=>wpAny (model X.prog X.w) X.A (handleBy (.ref e) X.env [.ExceptHandler (some<|.Name x np) (some n) (b0::suite) hp]) (SP X pins De) X.xe s3) X.xe s2) X.xe s':=by
 refine LM I hst hf R λh4 B a0 g k1 j c1 c2 c3 V=>?_;refine cZ (kh.any (e:=e) (kh.flight _ _) (wpAny_landsW (Q:=λ_ c=>∃h',c={ s' with heap:=h' }/\Heap.FlyingW B (X.env::X.outer) e (.ref C) a0 h'/\h4.UpToSlots h') (E:=λ_ _=>False) g λh' F p=>⟨h',rfl,F,p⟩) V) (λ_ c z=>?_) λ_ _ z=>z.1.elim;obtain⟨⟨h5,rfl,J,d⟩,L⟩:=z;obtain⟨_,_,O,U,m⟩:=B0 I hex J k1 (j.trans d) c1 c2 c3 L;refine wpAny_handleBy_cons (codeAny_handlers_test<|wO (X:=X.hand (X.pn++pins) e O) m hg hm ?_ hdb) (by intro q;cases q);obtain⟨g1,_⟩:=m.hok e _ ko;obtain⟨_,_,_,_,_,_,_,_,_,_,_,_,_,_,_,_,P⟩:=(NC m.zA mC).ex;obtain⟨_,_,_,_,_,_,_,_,_,_,_,_,_,_,_,_,T⟩:=(NC m.zA mD).ex;refine A_ P T g1 U.cls hbD ?_;rw[hCD];refine codeAny_handlers_suite_as ?_;refine cZ (kh.any (e:=e) (kh.flight _ _) (lands_againW (Q:=λ_ c=>∃h',c={ s' with heap:=h' }/\Heap.FlyingW B (X.env::X.outer) e (.ref C) a0 h'/\h5.UpToSlots h') (E:=λ_ _=>False) J λh' F p=>⟨h',rfl,F,p⟩) L) (λ_ c z=>?_) λ_ _ z=>z.1.elim;obtain⟨⟨h6,rfl,F6,t⟩,M⟩:=z;obtain⟨f0,n6,G,x6,Z⟩:=B0 I hex F6 k1 ((j.trans d).trans t) c1 c2 c3 M;refine uE (X:=X.hand (X.pn++pins) e G) (v:=.ref e) Z hN hi (.inl hlo) rfl (λs7 W=>?_)<|.inr hlo;exact cZ (k G s7 x6 n6 W) (λf s8 Y=>FQ hN hi hlo ok f0 Y) λ_ _ z=>z.elim
end
open PySem.W in
structure XCls (K:au)(C:ak):Prop where
 ga:findIn K (.ref C) "__getattribute__" = some (some<|.builtin "BaseException.__getattribute__")
 gt:findIn K (.ref C) "__getattr__" = some none
 fc:findObj K C none "__class__" = some (.bind (.builtin "getset_descriptor.__get__")<|.builtin "object.__class__")
 ob:PySem.W.mroIn K C (.type "object")=some true
 bs:subIn K (.ref C) (.type "BaseException")=some true
section
open PySem.W
variable {K:au}{C a:ak}{ox:Obj}{prog:aj}{w:ah}{A:az}{E:af->aA->Prop}{h:aq}{g:Array GenState}{d:Drawn}{t:Nat}{os:OsState}
def Qs{Q:Fin->aA->Prop}(x:XCls K C)(X:K.In h)(I:PySem.W.InstAt h a ox C none)(hq:Q (.done<|.ret<|.ref C) ⟨h,g,d,t,os⟩) :
  wpAny (model prog w) A (Builtin.«object.__getattribute__» ⟨[.ref a,.str "__class__" tk],[]⟩) Q E ⟨h,g,d,t,os⟩:=by
 have e:=I.type (M:=model prog w);have c:=looks_find (M:=model prog w) X I x.fc;unfold Builtin.«object.__getattribute__»
 repeat (first|with_reducible refine aH (jh ?_)|with_reducible refine jh ?_|lk)
 refine class_get X I x.ob ?_
 repeat lk
 exact hq
def QN{Q:Unit->aA->Prop}(x:XCls K C)(X:K.In h)(I:PySem.W.InstAt h a ox C none)(hq:Q Unit.unit ⟨h,g,d,t,os⟩):wpAny M A (checkBuiltinCall "BaseException.__getattribute__" ⟨[.ref a,nv],[]⟩) Q E ⟨h,g,d,t,os⟩:=by
 have k:builtinKind "BaseException.__getattribute__" = some .slot:=by decide +kernel
 have hs:splitId "BaseException.__getattribute__" = some ("BaseException", "__getattribute__"):=by decide +kernel
 have j:Looks M h (isInstance (.ref a)<|.type "BaseException") true:=(I.type (M:=M)).andThen<|looks_subIn X x.bs;have f:=F.args_bexc_ga (.ref a) nv;dsimp[checkBuiltinCall,k,hs];refine aH<|j.at ?_;show wpAny M A (match Manifest.signature? "BaseException.__getattribute__" with
  | some c=>Bind.checkArgs "BaseException.__getattribute__" c { pos:=[Value.ref a,nv]}
  | x=>pure Unit.unit) Q E _
 cases e:Manifest.signature? "BaseException.__getattribute__" with
 | none=>exact aP hq
 | some c=>
  dsimp[argsOk,e]at f;have h2:Bind.checkArgs "BaseException.__getattribute__" c ⟨[.ref a,nv],[]⟩=pure Unit.unit:=f;show wpAny M A (Bind.checkArgs "BaseException.__getattribute__" c ⟨[.ref a,nv],[]⟩) Q E _;rw[h2];exact aP hq
def Td(self:af):bindSpecial (.builtin "BaseException.__getattribute__") self=pure (.builtin "BaseException.__getattribute__",[self]):=by
 have h1:withoutEnding? "BaseException.__getattribute__" "#opaque" = none:=by decide +kernel
 have h2:withoutEnding? "BaseException.__getattribute__" "#data" = none:=by decide +kernel
 have c:builtinKind "BaseException.__getattribute__" = some .slot:=by decide +kernel
 dsimp[bindSpecial,typeOf,builtinType,h1,h2,c];rfl
def ZS{Q:af->aA->Prop}(x:XCls K C)(X:K.In h)(I:PySem.W.InstAt h a ox C none)(hq:Q (.ref C) ⟨h,g,d,t,os⟩):wpAny (model prog w) A (getAttrBy (.ref a) (.str "__class__" tk) false) Q E ⟨h,g,d,t,os⟩:=by
 have e:=I.type (M:=model prog w);have c:=looks_findIn (M:=model prog w) X x.ga;have L2:=looks_findIn (M:=model prog w) X x.gt;unfold getAttrBy;refine cU<|aH<|e.at<|aH<|c.at ?_;show wpAny _ _ (if (onTheHeap (Value.ref C) && Value.builtin "BaseException.__getattribute__" == Value.builtin "object.__getattribute__")=true then _ else getAttrByItsOwn (.ref a) (.str "__class__" tk) (.ref C) (.builtin "BaseException.__getattribute__") false false) _ _ _;have ne:(Value.builtin "BaseException.__getattribute__" == Value.builtin "object.__getattribute__")=false:=by decide +kernel
 rw[ne,jt,aQ bG];unfold getAttrByItsOwn hookBefore;rw[aS<|show onTheHeap (Value.ref C)=true from rfl];refine aH<|L2.at<|aH<|gh<|cU ?_;unfold callGetattribute boundAndCalled
 skip
 rw[Td,pure_bind];refine jh<|codeAny_call_builtin ∅ F.entry_bexc_ga (QN x X I<|Qs x X I ?_);exact aP hq
def Pb{Q:bd->aA->Prop}(x:XCls K C)(X:K.In h)(I:PySem.W.InstAt h a ox C none)(hq:Q (some<|.ref C) ⟨h,g,d,t+1,os⟩):wpAny (model prog w) A (getAttr? (.ref a) "__class__") Q E ⟨h,g,d,t,os⟩:=by
 unfold getAttr? getAttrBy?;refine aH<|wpAny_mkText<|aH<|gh<|ZS x X I ?_;exact aP hq
abbrev XIn (C a:ak):aq->Prop:=λh=>∃ox,PySem.W.InstAt h a ox C none
def Qq(x:XCls K C)(hc:(clsIn K C).isSome=true):KitX K (.ref a) (.ref C) (XIn C a) where
 ty:=λ_ _ _ ⟨_,I⟩=>I.type
 it:=λ_ _ X _=>by
  unfold clsIn at hc;split at hc
  ·rename_i d;intro p t F s' k q;unfold isType loadHead;exact aH (wpAny_loadPart (k _ _<|X _ _ d)<|aP q)
  ·cases hc
 ne:=λh g dd f n j X c=>by
  refine Bool.eq_false_iff.mpr λq=>?_;have e:C=g:=Value.ref.inj<|iC.mp q;subst e;unfold clsIn at hc;split at hc
  ·rename_i d;have z:=(X _ _ d).symm.trans c
   cases z
  ·cases hc
 ca:=λ{_ _ _ _ _ s} X ⟨_,I⟩ k=>by
  obtain⟨m,G,dd,J,B⟩:=s;exact Pb x X I k
end
section
variable {X:Cx}{C:ak}{pins:bo}{σ:L2.St}{H:Hp}{s:aA}
def Hr{A:az}{E:af->aA->Prop}{Q:af->aA->Prop}{a:ak}{c:af}(x:XCls X.K C)(hc:(PySem.W.clsIn X.K C).isSome=true)(I:Inv X pins σ H s)(ha:H a=some (.frz oe xu))(hx:XO C oe)(e:PySem.W.kitOne X.K (.ref C) c=some b)(h:∀tk,Q (.bool b) { s with toks:=tk }) :
  wpAny (model X.prog X.w) A (call (.builtin "isinstance") [.ref a,c]) Q E s:=by
 obtain⟨j,_⟩:=I.hok a _ ha;obtain⟨g,d,vs,f,k⟩:=hx;refine cE (Qq x hc) I.zA ⟨oe,j,g,?_,?_⟩ e (λz=>nomatch z) h
 ·unfold PySem.W.notCls;rw[f]
 ·rw[d];trivial
end
end L2
namespace L2
open PySem PySem.Spec PyProof.Rows
def Bf:entryFor table "proto.unchain" = some Builtin.«proto.unchain»:=entryFor_of_fast<|by kernel_rfl
section
variable {prog:aj}{w:ah}{A:az}{E:af->aA->Prop}{s:aA}{e n:ak}{oe on:Obj}{vs ns:Array af}
def GL{α:Type}{Q:α->aA->Prop}(hh:A.handled=some (.ref e))(he:s.heap.get? e=some oe)(hd:oe.data=.fields vs)(h2:vs[2]?=some .none)(hn:s.heap.get? n=some on)(nd:on.data=.fields ns)(n2:2<ns.size)(ne:e≠n)
  (h:E (.ref n) { s with heap:=s.heap.update n<|Obj.mapFields (·.setIfInBounds 2 (.ref e))}):wpAny (model prog w) A (raiseNew (.ref n):Sem α) Q E s:=by
 unfold raiseNew;refine aH<|wpAny_handled ?_;rw[hh];show wpAny _ _ (if (Value.ref e != Value.ref n)=true then _ else _) _ _ _;rw[aS<|by simp[ne]];refine aH<|cU<|wpAny_runValue<|gv Bf ?_;unfold Builtin.«proto.unchain»;refine aH<|eV he hd h2 ?_;rw[aS<|show(Value.none == Value.none)=true from rfl];refine aP ?_
 skip
 exact aH<|gR hn nd n2<|wpAny_throw h
end
abbrev Gn (A:az):az:={ A with handled:=none }
abbrev B_ (k:Nat)(A:az):Prop:=Room k<|Gn A
def LD{k:Nat}{A:az}(r:Room j A)(hk:k<=j):B_ k (A.mark h):=⟨rfl,(r.mono hk).dp,(r.mono hk).un,r.gs⟩
structure Hnd (A:az)(H:Hp)(e:ak)(oe:Obj)(C:ak):Prop where
 hh:A.handled=some (.ref e)
 h0:H e=some (.frz oe xu)
 xo:XO C oe
structure FnOkH (P:aj)(w:ah)(K:au)(mg:Str->bd)(base:aq)(k:Nat)(f:ak)(fd:FuncData)(ps:ar)(sp:Sp):Prop where
 len:∀vs H Q E,sp vs H Q E->vs.length=ps.length
 run:∀(A:az) (outer:List Env) (s:aA) (H:Hp) (args:Args) (us:ba) (vs:List V) (Q:VK) (e:ak) (oe:Obj) (C:ak),B_ k A->Hnd A H e oe C->Env0 P w K mg base A outer s H->BindsTo s fd args (ps.zip us)->Vals vs us->sp vs H Q E0 ->
  codeAny (model P w) A (.call (.ref f) args) (CR rQ outer P w H s Q E0) s
abbrev cxH (P:aj)(w:ah)(K:au)(mg:Str->bd)(base:aq)(N:ar)(qual:Str)(scope:Scope)(f:ak)(cd:af)(A:az)(outer:List Env)(s:aA)(H:Hp):Cx:=
 { xy rQ P w K mg base N qual scope f cd A outer s H E0 with calm:=false,xe:=λ_ _=>False }
def G4{P:aj}{w:ah}{K:au}{mg:Str->bd}{base:aq}{N:ar}{f:ak}{A:az}{outer:List Env}{H H':Hp}
  (I:Inv (xy rQ P w K mg base N qual scope f cd (Gn A) outer s H E0) pins σ H' s1):Inv (cxH P w K mg base N qual scope f cd A outer s H) pins σ H' s1:=
 ⟨⟨I.ok.mod,I.ok.kind,I.ok.glob,I.ok.blt,I.ok.above,I.ok.inj,I.ok.has,I.ok.cab,λh=>(by cases h),I.ok.frames,I.ok.stk,I.ok.exf,I.ok.bs,I.ok.bsz,I.ok.noex,I.ok.exfs,I.ok.tO,I.ok.frf⟩,I.os,I.bare,I.base,I.loc,I.cell,I.free,I.freeC,I.pin,I.hok,I.len⟩
def XQ{P:aj}{w:ah}{K:au}{mg:Str->bd}{base:aq}{k:Nat}{x:Str}{st:aE}{f:ak}{N ps:ar}{sp:Sp}(F:Fun K x qual st f fd)(S:FnScope N ps<|jN st)(len:∀vs H Q E,sp vs H Q E->vs.length=ps.length)
  (hb:∀(cdv:af) (A:az) (outer:List Env) (s:aA) (H:Hp) (vs:List V) (Q:VK) (e:ak) (oe:Obj) (C:ak),B_ k (A.deeper<|envOfC qual (jN st) s.heap.objs.size f cdv)->Hnd A H e oe C->sp vs H Q E0 ->
   ∃t,Bp (cxH P w K mg base N qual (jN st) f cdv A outer s H) (nR st) t/\t { nx:=λ_ H'=>Q .non H',rt:=Q } (start N vs) H):FnOkH P w K mg base (k+1) f fd ps sp:=by
 obtain⟨oc,od,kV,Z,pm,an,cdv,ct,osl,rfl,U,p⟩:=F.ex;refine⟨len,λA outer s H M us vs Q e oe C L hx e0 G r j=>?_⟩;have hl:=len _ _ _ _ j;have T:K.In s.heap:=e0.mod.kin.keeps λb o z=>(e0.bs b o z).1;have m:s.heap.NoLimit:=e0.mod.nolimit.keeps λb o z=>(e0.bs b o z).1;have d:∀y∈ps.zip us,(jN st).names.lookup y.1=some .local\/((jN st).names.lookup y.1=some .cell/\((cellsFrom (s.heap.objs.size+1) (jN st).names []).lookup y.1).isSome=true):=λy hy=>
  (S.par y.1 (iJ hy).1).imp (λq=>q) λq=>⟨q,dM _ _ _<|.inl q⟩
 refine codeAny_call_function (show A.depth<_ from L.depth) (T _ _ U) rfl S.co S.gen rfl (PySem.W.codeRec_of T p)<|G _ _ _ _ ?_;refine wpAny_newFunctionEnv_cells S.kind d λenv he s1 O=>?_;subst he;refine⟨m.keeps O.toInCall.keep,codeAny_func ?_⟩;obtain⟨t,Y,hq⟩:=hb cdv A outer s H vs Q e oe C (Room.deeper L _) hx j;have e1:Env0 P w K mg base (Gn A) outer s H:=⟨e0.frames,e0.mod,e0.bs,e0.bsz,e0.tO,e0.frf,e0.hok,e0.bare⟩;have I:=G4<|BP (CX:=rQ) (E:=E0) (qual:=qual) (f:=f) (cd:=cdv) S L.hd e1 hl r O;refine cZ (Y [] s1 (start N vs) H _ I hq) (λfl s' hs=>?_) λ_ _ z=>z.elim;have g:∀{c:L2.St} {H':Hp} {v:V} {u:af},Inv (cxH P w K mg base N qual (jN st) f cdv A outer s H) [] c H' s'->RelV v u->Q v H'->CE outer P w H s Q u s':=λ{c H' v u} J B q=>⟨v,H',J.os,J.bare,J.base,J.hok,B,q⟩
 cases fl with
 | ret u=>obtain⟨v,c,H',J,B,q⟩:=hs;exact g J B q
 | next=>obtain⟨c,H',J,q⟩:=hs;exact g (v:=V.non) (u:=Value.none) J rfl q
 | brk=>obtain⟨_,_,_,q⟩:=hs;exact q.elim
 | cont=>obtain⟨_,_,_,q⟩:=hs;exact q.elim
abbrev KnH (P:aj)(w:ah)(K:au)(mg:Str->bd)(base:aq)(k:Nat)(x:Str)(ps:ar)(sp:Sp):Prop:=
 ∃(f:ak) (fd:FuncData),FnOkH P w K mg base k f fd ps sp/\mg x=some (.ref f)/\PySem.W.keepIn K (.ref f)=true/\Binds K fd ps []
def X_{X:Cx}{k:Nat}{x:Str}{sp:Sp}{a:aC}{t:TA}{p:Pos}{e:ak}(G:KnH X.prog X.w X.K X.mg X.base k x ps sp)(hr:B_ k X.A)(hh:X.A.handled=some (.ref e))(h0:X.H₀ e=some (.frz oe xu))(xo:XO C oe)(ha:PA X (a::es) t)(hg:Gl X x<|>ε)
  (hdb:(x == ("__debug__" : Str))=false<|>δ) (hs:starEach (a::es) X.env=(false,eval a X.env)::starEach es X.env<|>ε) (hplain:((backTo pos<|starEach es X.env).any (·.1)=false)<|>ε) :
  PE X (.Call (.Name x p) (a::es) [] pos) (M_ sp [] E0 t):=by
 obtain⟨f,fd,F,j,B,g⟩:=G;kt_k;refine gC<|wO I hg j ?_ hdb;refine PySem.W.callWith_K (h₀:=X.base) I.ok.mod.kin B (nc (ha pos pins s σ H _ I h) λus d ⟨vs,H1,I1,r,q⟩=>⟨I1.zA,?_⟩) hs hplain;have q:sp (vs++[]) H1 Q E0:=q;rw[bN]at q;have m:us.length=ps.length:=by rw[<- r.length];exact F.len _ _ _ _ q
 refine jh (iO (F.run X.A X.stack d H1 ⟨us,[]⟩ us vs Q e oe C hr ⟨hh,I1.base.frzs e oe xu h0,xo⟩ I1.ZU (by have:=g d us I1.zA (by rw[bN];exact m);rwa [bN]at this) r q) λr s' c=>?_)
 cases r with
 | error e=>exact c.elim
 | ok fl=>
  cases fl with
  | ret u=>exact I1.after c
  | next=>exact c.elim
  | brk=>exact c.elim
  | cont=>exact c.elim
abbrev WN (K:au)(a:ak):It:=
 ⟨λi H=>∃xs x,pS K H a xs/\xs[i]?=some x,λi H x H'=>∃T,H T=none/\x=.ref T/\∀xs y,pS K H a xs->xs[i]?=some y->H'=upd H T (.tup [.int i,y]),λi H=>∃xs,pS K H a xs/\xs.length=i⟩
def G_{P:aj}{w:ah}{K:au}(a e it:ak)(hei:e≠it):Turn P w K (.Tuple elts x1 tpos) (WN K a) [e,it] e (λi h=>(∃old,IsEnum h e it i old)/\h.IsListIter it a i) where
 mem:=by simp
 obj:=λi h st b G=>by
  mg_lt;have B:b=e\/b=it:=by simpa using G
  rcases B with rfl|rfl
  ·exact⟨_,st1,λv z=>by cases z⟩
  ·obtain⟨o,e,c,d⟩:=st2;exact⟨o,e,λv z=>by rw[d]at z;cases z⟩
 keep:=λi h h' st k=>by
  mg_lt;exact⟨⟨old,k e (by simp) _ st1⟩,st2.at λo j=>k it (by simp) o j⟩
 item:=by
  x_go;subst hP hw hK;mg_lt;obtain⟨xs,x,hq,hx⟩:=hg;obtain⟨t,rv,p,hz⟩:=I.list hq;obtain⟨u,hu,ru⟩:=rv.get hx;have M:a≠it:=by
   obtain⟨o,j,C,_⟩:=p.isList;obtain⟨o2,J,F,_⟩:=st2;intro z;rw[z,J]at j
   cases j
   rw[C]at F;exact absurd (fO F) ⋯
  have hea:e≠a:=by
   obtain⟨o,j,C,_⟩:=p.isList;intro z;rw[<- z,st1]at j
   cases j
   exact absurd (fO C) ⋯
  have hlt:i<t.toArray.size:=by
   rw[aZ];exact(aI.mp hu).1
  refine wpAny_pyNext_enum_itemD (Draws.list (A:=X.A.in1) (I.ok.hd hc) it a M t.toArray) st1 ⟨st2,p.isList⟩ hlt hei (by simp[hei,hea]) λZ h' W hP U hst hT hsz hk=>?_;have ex:Z=u:=by
   have:t.toArray[i]?=some u:=by simpa using hu
   rw[this]at hP;exact(aX hP).symm
  subst ex;refine⟨_,rfl,wpAny_letOwnedTupleGo_enum U λh2 he2 L=>?_⟩;have O:H s.heap.objs.size=none:=I.hok.fresh<|aL _;have T:e<s.heap.objs.size:=a_ st1;have hil:it<s.heap.objs.size:=by obtain⟨o,j,_⟩:=st2;exact a_ j
  have k2:∀b o,b≠e->b≠it->s.heap.get? b=some o->h2.get? b=some o:=λb o h1 h3 q=>L.extBut b o h1<|hk b o h1 h3 q;have hT2:h2.get? s.heap.objs.size=some { cls:=.type "tuple",data:=.seq #[.int i W,Z]}:=L.extBut _ _ (iN T) hT;obtain⟨e0,e1,e2,e3,e4,e5⟩:=hf e (by simp);obtain⟨Y,i1,i2,i3,i4,i5⟩:=hf it (by simp);have nT:∀b o,s.heap.get? b=some o->b≠s.heap.objs.size:=λb o q=>bA<|a_ q;have f:∀c v,H c=some v->c≠e/\c≠it:=λc v q=>⟨(λz=>by rw[z,e0]at q;cases q),(λz=>by rw[z,Y]at q;cases q)⟩;have I2:Inv X pins σ (upd H s.heap.objs.size<|.tup [.int i,x]) { s with heap:=h2,toks:=W+1 }:=by
   refine I.step (g':=s.gens) (d':=s.drawn) (ch:=[e,it]) (λb G=>?_) (λb o _ _ g q _=>?_) (λb o _ _ g q _=>?_) (λb o g q n=>?_) (λb o g q=>?_) (λb ys q=>?_) (λb o V q=>?_) (λb ps q=>?_) (λm hm=>?_) (λb V q=>?_) I.bare
   ·have B:b=e\/b=it:=by simpa using G
    rcases B with rfl|rfl
    ·exact⟨e3,e1,e4,e5⟩
    ·exact⟨i3,i1,i4,i5⟩
   ·exact k2 b o (λz=>g<|by simp[z]) (λz=>g<|by simp[z]) q
   ·exact⟨o.slots,k2 b o (λz=>g<|by simp[z]) (λz=>g<|by simp[z]) q⟩
   ·rw[jL<|nT b o q];exact n
   ·exact⟨o,k2 b o (λz=>g<|by simp[z]) (λz=>g<|by simp[z]) q⟩
   ·rw[jL<|jT q O];exact q
   ·rw[jL<|jT q O];exact q
   ·exact⟨#[],by rw[jL<|jT q O,q];simp⟩
   ·obtain⟨o,es,ep,j,r⟩:=hm;exact⟨o,es,ep,k2 _ o (cK e1) (cK i1) j,r⟩
   ·by_cases z:b=s.heap.objs.size
    ·subst z;rw[ko]at q
     cases q
     exact⟨by show 2<=sizeLine;decide,[.int i W,Z],.cons ⟨W,rfl⟩<|.cons ru .nil,⟨_,hT2,rfl,rfl,0,rfl⟩⟩
    ·rw[jL z]at q;refine(I.hok b V q).stay (λc v hc q'=>k2 c v ?_ ?_ q') (λc q'=>?_) λc ys q'=>?_
     ·rcases hc with z|z
      ·rw[z];exact(f b V q).1
      ·exact(f c _ z).1
     ·rcases hc with z|z
      ·rw[z];exact(f b V q).2
      ·exact(f c _ z).2
     ·rw[jL<|jT q' O];exact q'
     ·rw[jL<|jT q' O];exact q'
  refine⟨.ref s.heap.objs.size,_,I2,rfl,⟨s.heap.objs.size,O,rfl,λys y hy N=>?_⟩,⟨⟨Z,by simpa using he2⟩,?_⟩,λb G=>?_⟩
  ·rw[I.Fx hy hq]at N;rw[hx]at N
   cases N
   rfl
  ·exact hst.1.at λo j=>L.extBut it o (cK hei) j
  ·have B:b=e\/b=it:=by simpa using G
   rcases B with rfl|rfl
   ·rw[jL<|bA T];exact e0
   ·rw[jL<|bA hil];exact Y
 done:=by
  x_go;subst hP hw hK;mg_lt;obtain⟨xs,hq,hx⟩:=hg;obtain⟨t,rv,p,hz⟩:=I.list hq;obtain⟨Y,i1,i2,i3,i4,i5⟩:=hf it (by simp);have M:a≠it:=by
   obtain⟨o,j,C,_⟩:=p.isList;obtain⟨o2,J,F,_⟩:=st2;intro z;rw[z,J]at j
   cases j
   rw[C]at F;exact absurd (fO F) ⋯
  have hl:=rv.length;have ei:t.toArray.size=i:=by rw[aZ,<- hl,hx]
  exact wpAny_pyNext_enum_endD (Draws.list (A:=X.A.in1) (I.ok.hd hc) it a M t.toArray) st1 ⟨by rw[ei];exact st2,p.isList⟩ λh' eb=>⟨rfl,I.turned (t':=s.toks) (λb o G q=>eb b o G q) Y i1 i3 i4 i5⟩
 self:=λ_ _ _ _ _ st h=>let⟨⟨_,st1⟩,_⟩:=st;gS st1 h
section
variable {X:Cx}
abbrev XF (K:au)(ta:TA):TI:=λσ H R=>ta σ H λvs H1=>∃a xs,vs=[.ref a]/\pS K H1 a xs/\R (WN K a) H1
def ND{a:aC}{ta:TA}{p:Pos}(hg:Gl X "enumerate")(hm:X.mg "enumerate" = none)(ha:PA X [a] ta)(hs:starEach [a] X.env=[(false,eval a X.env)]<|>ε):PI X (.Tuple elts x1 tpos) (.Call (.Name "enumerate" p) [a] [] pos) (XF X.K ta):=by
 intro pins s σ H R I h;refine Call_<|uv I hg hm wN<|cP (nc (ha pos pins s σ H _ I h) λus c ⟨vs,H1,I1,r1,m⟩=>?_) hs rfl;obtain⟨t,xs,e,G,q⟩:=m;subst e;obtain⟨u,rfl,rx⟩:=vals1 r1
 cases rx
 obtain⟨L,N,C,M⟩:=I1.list G;refine call_enumerate_list C.isList λh' j f B F=>?_;have J:Inv X pins σ H1 { c with heap:=h' }:=I1.kept (t':=c.toks) F;have d:c.heap.objs.size+1≠c.heap.objs.size:=()
 refine gS j ⟨_,[_,c.heap.objs.size],_,_,H1,rfl,J,G_ t _ c.heap.objs.size d,⟨⟨.none,j⟩,f⟩,λb k=>?_,q⟩;have g:b=c.heap.objs.size+1\/b=c.heap.objs.size:=by simpa using k
 rcases g with rfl|rfl
 ·exact I1.Bk (jq _) (I1.hok.fresh<|jq _)
 ·f_are
end
def NL{X:Cx}{i:Nat}{spos:Pos}{iter:aC}{N:ar}{wi:TI}{g:TG}{tc:TT}{te:TE}
  (hN:X.N.Nodup) (hi':X.N[i]?=some y) (hx:Loc X.env.scope y) (hc:X.calm=true) (S:CpScope X scope N cap) (hi:PI X tg iter wi)
  (hg:∀C s₀ H₀ ex,PG (nq X scope N C s₀ H₀ ex) tg g) (ht:∀C s₀ H₀ ex,Vk (nq X scope N C s₀ H₀ ex) ifs tc) (he:∀C s₀ H₀ ex,PE (nq X scope N C s₀ H₀ ex) elt te)
  (hsw:swapsWith (.ListComp elt [⟨tg,iter,ifs,0⟩] scope pos) (some<|.Name y py) spos.line X.env=pure true)
  (hf:X.fn y=true\/X.env.scope.names.lookup y=some .local) (hs:(∀x,foldedSetIterable iter X.env x=pure x)<|>ζ) :
  PS X (.Assign [.Name y py] (.ListComp elt [⟨tg,iter,ifs,0⟩] scope pos) spos) (Og (Zf cap wi g tc te)<|Jq i):=by
 kst_p;rw[exec_Assign_Name_used _ _ _ _ hsw];refine aH (i_<|aH ?_)
 skip
 refine aH<|cZ (Ct (ok:=λY=>Y.calm=true) (Q':=λ_ s'=>SP X pins D .next s') S (λ_ _ _ _ _=>hc) (PI.g hi) hg ht he hs pins s σ H _ I h ?_) (λ_ s' P=>aP<|aP P) λ_ _ e=>e;intro F C G T m hn k inv q v;have M:=inv F.heap<|Heap.SameBut.refl _ _;obtain⟨L,j⟩:∃o,F.heap.get? C=some o/\∀v,o.data≠.cell v:=by
  obtain⟨o,es,ep,e,d,_⟩:=hn;exact⟨o,e,λv z=>by rw[d]at z;cases z⟩
 have O:=M.pinned (fp:=[C]) (λb f=>by rw[aM]at f;rw[f];exact k) (λb f=>by rw[aM]at f;rw[f];exact⟨L,j⟩)
 skip
 refine nc (Dq hN hi' hx hf _ F σ T (.ref G) (.ref G) _ O rfl q) λ_ V h9=>?_;obtain⟨B,K,t,U⟩:=h9;have hp:=t.pin (C,L)<|bP _<|bP _<|pF (aM.mpr rfl) j.1;refine⟨m,hn.at' λo e=>by rw[j.1]at e;cases e;exact hp.1,λh' p=>?_⟩;have J:∀c v,K c=some v->c≠C:=λc v e z=>by rw[z,hp.2.1]at e;cases e
 refine⟨B,K,?_,U⟩;refine t.sM.Rf (ch:=[C]) rfl ⟨λb o e n f hx=>?_,λb o e n f hx=>?_,λb o e n hx=>n,λb o e hx=>?_,λ_ _ e=>e,λ_ _ _ e=>e,λ_ _ e=>⟨#[],by rw[Array.append_empty];exact e⟩⟩ ?_ t.bare ?_
 ·exact p.extBut b o (by simpa using hx) e
 ·exact⟨o.slots,p.extBut b o (by simpa using hx) e⟩
 ·exact⟨o,p.extBut b o (by simpa using hx) e⟩
 ·intro b o e;refine(t.hok b o e).stay (λc v hc q=>p.extBut c v ?_ q) (λ_ q=>q) λ_ _ q=>q
  rcases hc with z|z
  ·rw[z];exact J b o e
  ·exact J c _ z
 ·intro b f;rw[aM]at f;rw[f];exact⟨k.2.2.2.1,k.2.1,k.2.2.2.2.1,k.2.2.2.2.2⟩
end L2
namespace Sx
open PySem PyProof.Rows
structure Ord where
 lt:Nat->Nat->Bool
 Oi:∀i,lt i i=false
 tr:∀i j k,lt i j=true->lt j k=true->lt i k=true
 neg:∀i j k,lt i k=true->lt i j=true\/lt j k=true
abbrev P (o:Ord)(i j:Nat):Prop:=o.lt i j=true\/(o.lt j i=false/\i<j)
def Ord.abu(o:Ord)(h:o.lt i j=true):o.lt j i=false:=by
 cases e:o.lt j i with
 | false=>rfl
 | true=>have:=o.tr _ _ _ h e;rw[o.Oi]at this;cases this
def P.Oi(h:P o i i):False:=by
 rcases h with h|⟨_,h⟩
 ·rw[o.Oi]at h;cases h
 ·lia
def P.trans{k:Nat}(a:P o i j)(b:P o j k):P o i k:=by
 rcases a with a|⟨a,d⟩
 ·rcases b with b|⟨b,c⟩
  ·exact .inl (o.tr _ _ _ a b)
  ·rcases o.neg i k j a with z|z
   ·exact .inl z
   ·rw[b]at z;cases z
 ·rcases b with b|⟨b,c⟩
  ·rcases o.neg j i k b with z|z
   ·rw[a]at z;cases z
   ·exact .inl z
  ·refine .inr ⟨?_,()⟩
   cases e:o.lt k i with
   | false=>rfl
   | true=>
    rcases o.neg k j i e with z|z
    ·rw[b]at z;cases z
    ·rw[a]at z;cases z
def P.of_lt{o:Ord}(h:o.lt i j=true):P o i j:=.inl h
def P.Jx{o:Ord}(h:o.lt j i=false)(hij:i<j):P o i j:=.inr ⟨h,hij⟩
def P.ge{o:Ord}(h:P o i j):o.lt j i=false:=by
 rcases h with h|⟨h,_⟩
 ·exact o.abu h
 ·exact h
abbrev So (o:Ord)(g:Nat->Nat)(a b:Nat):Prop:=∀i j,a<=i->i<j->j<b->P o (g i) (g j)
abbrev Cl (g:Nat->Nat)(a b:Nat):Prop:=∀i,a<=i->i<b->a<=g i/\g i<b
abbrev rev (g:Nat->Nat)(i j:Nat):Nat->Nat:=λk=>if i<=k/\k<j then g (i+j-1-k)else g k
abbrev mv (g:Nat->Nat)(src dst:Nat):Nat->Nat:=λk=>if k=dst then g src else if dst<k/\k<=src then g (k-1)else g k
def A4{g:Nat->Nat}{k:Nat}(h:i<=k)(h2:k<j):rev g i j k=g (i+j-1-k):=aS ⟨h,h2⟩
def qv{g:Nat->Nat}{k:Nat}(h:k<i\/j<=k):rev g i j k=g k:=aQ ()
def Nh{g:Nat->Nat}{d:Nat}:mv g s d d=g s:=aS rfl
def Gb{g:Nat->Nat}{d k:Nat}(h:d<k)(h2:k<=s):mv g s d k=g (k-1):=by
 unfold mv;rw[aQ (),aS ⟨h,h2⟩]
def D8{g:Nat->Nat}{d k:Nat}(hd:d<=s)(h:k<d\/s<k):mv g s d k=g k:=by
 unfold mv;rw[aQ (),aQ ()]
section
variable {prog:aj}{w:ah}{A:az}{E:af->aA->Prop}{s:aA}{o:Ord}{N:Nat}{f:Nat->Keyed}{kd:SortKind}{g:Nat->Nat}{p:Array (Nat×Nat×Nat)}{st:SortSt}
abbrev Rj (prog:aj)(w:ah)(A:az)(s:aA)(o:Ord)(N:Nat)(f:Nat->Keyed)(kd:SortKind):Prop:=
 ∀i j,i<N->j<N->∀(c:af->aA->Prop) (Q:Bool->aA->Prop),Q (o.lt i j) s->wpAny (model prog w) A (keyLt' kd (f i).1 (f j).1) Q c s
structure Sg (N:Nat)(f:Nat->Keyed)(kd:SortKind)(g:Nat->Nat)(p:Array (Nat×Nat×Nat))(st:SortSt):Prop where
 size:(arrOf st).size=N
 get:∀i,i<N->(arrOf st)[i]?=some (f<|g i)
 lt:∀i,i<N->g i<N
 kind:kindOf st=kd
 failed:failedOf st=none
 pend:pendingOf st=p
def YR(C:Rj prog w A s o N f kd)(hk:kindOf st=kd)(hi:i<N)(hj:j<N){Q:bi->SortSt->Prop}(q:Q (some<|o.lt i j) st):wpS (model prog w) A E s (lt' (f i)<|f j) Q st:=by
 rw[lt'_eq];refine cz<|wpS_get ?_;rw[hk];refine cz<|wpS_lift<|gh<|C i j hi hj _ _ ⟨rfl,?_⟩;exact c9 q
def FG{xs:Array Keyed}{i:Nat}{x:Keyed}(e:xs[i]?=some x){Q:Keyed->SortSt->Prop}(q:Q x st):wpS (model prog w) A E s (elem' xs i) Q st:=by
 rw[elem'_eq,e];exact c9 q
def wJ(C:Rj prog w A s o N f kd)(h:Sg N f kd g p st)(hi:i<N)(hj:j<N){Q:bi->SortSt->Prop}(q:Q (some<|o.lt (g i)<|g j) st):wpS (model prog w) A E s (ltAt' i j) Q st:=by
 rw[ltAt'_eq];refine cz (wpS_get ?_)
 skip
 exact cz<|FG (h.get i hi)<|cz<|FG (h.get j hj)<|YR C h.kind (h.lt i hi) (h.lt j hj) q
def Sg.arr(h:Sg N f kd g p st){xs:Array Keyed}{g':Nat->Nat}(hs:xs.size=N)(hg:∀i,i<N->xs[i]?=some (f<|g' i))(hl:∀i,i<N->g' i<N):Sg N f kd g' p (setArr st xs):=⟨hs,hg,hl,h.kind,h.failed,h.pend⟩
def yW(h:Sg N f kd g p st)(hj:j<=N){Q:Unit->SortSt->Prop}(q:∀st',Sg N f kd (rev g i j) p st'->Q Unit.unit st'):wpS (model prog w) A E s (reverseSlice' i j) Q st:=by
 rw[reverseSlice'_eq];refine wpS_modify (q _<|h.arr (by rw[mirror_size];exact h.size) (λk d=>?_) λk d=>?_)
 ·rw[getElem?_mirror_all<|by rw[h.size];exact hj];unfold rev;by_cases c:i<=k/\k<j
  ·rw[aS c,aS c];exact h.get _ (by omega)
  ·rw[aQ c,aQ c];exact h.get _ d
 ·unfold rev;by_cases c:i<=k/\k<j
  ·rw[aS c];exact h.lt _ (by omega)
  ·rw[aQ c];exact h.lt _ d
def WB(h:Sg N f kd g p st){a:Nat}(ha:a<N)(hb:b<=a){Q:Unit->SortSt->Prop}(q:∀st',Sg N f kd (mv g a b) p st'->Q Unit.unit st'):wpS (model prog w) A E s (moveDown' a b) Q st:=by
 rw[moveDown'_eq];refine wpS_modify (q _<|h.arr (by rw[bubble_size];exact h.size) (λk d=>?_) λk d=>?_)
 ·rw[getElem?_bubble (by rw[h.size];exact ha) _ (),show a-(a-b)=b by lia];unfold mv;by_cases c:k=b
  ·rw[aS c,aS c];exact h.get _ ha
  ·rw[aQ c,aQ c];by_cases c2:b<k/\k<=a
   ·rw[aS c2,aS c2];exact h.get _ ()
   ·rw[aQ c2,aQ c2];exact h.get _ d
 ·unfold mv;by_cases c:k=b
  ·rw[aS c];exact h.lt _ ha
  ·rw[aQ c];by_cases c2:b<k/\k<=a
   ·rw[aS c2];exact h.lt _ ()
   ·rw[aQ c2];exact h.lt _ d
structure Rn (o:Ord)(g0 g:Nat->Nat)(a b:Nat):Prop where
 out:∀i,i<a\/b<=i->g i=g0 i
 cl:Cl g a b
 so:So o g a b
def WQ{g0:Nat->Nat}{lo k l:Nat}(R:Rn o g0 g lo<|lo+k)(hk:g (lo+k)=lo+k)(hl:l<=k)(h1:∀i,i<l->P o (g<|lo+i) (lo+k))(h2:∀i,l<=i->i<k->P o (lo+k) (g<|lo+i)):Rn o g0 (mv g (lo+k)<|lo+l) lo (lo+(k+1)) where
 out i hi:=by rw[D8 () ()];exact R.out i ()
 cl i a b:=by
  by_cases c:i=lo+l
  ·subst c;rw[Nh,hk];lia
  ·by_cases c2:lo+l<i
   ·rw[Gb c2 ()];have:=R.cl (i-1) () ()
    lia
   ·rw[D8 () ()];have:=R.cl i () ()
    lia
 so i j a b d:=by
  by_cases c:i=lo+l
  ·subst c;rw[Nh,Gb b (),hk];have:=h2 (j-1-lo) () ()
   rwa [show lo+(j-1-lo)=j-1 by lia]at this
  ·by_cases c2:lo+l<i
   ·rw[Gb c2 (),Gb () ()];exact R.so _ _ () () ()
   ·rw[D8 (k:=i) () ()];by_cases c3:j=lo+l
    ·subst c3;rw[Nh,hk];have:=h1 (i-lo) ()
     rwa [show lo+(i-lo)=i by lia]at this
    ·by_cases c4:lo+l<j
     ·rw[Gb c4 ()];exact R.so _ _ () () ()
     ·rw[D8 () ()];exact R.so _ _ () () ()
def Wg(C:Rj prog w A s o N f kd){g0:Nat->Nat}{lo n ok:Nat}(h:Sg N f kd g p st)(hn:lo+n<=N)(h1:1<=ok)(hok:ok<=n)(R:Rn o g0 g lo<|lo+ok)(hid:∀i,lo+ok<=i->i<lo+n->g0 i=i)
  {Q:Bool->SortSt->Prop} (q:∀g' st',Sg N f kd g' p st'->Rn o g0 g' lo (lo+n)->Q true st'):wpS (model prog w) A E s (binarySort' lo n ok) Q st:=by
 rw[binarySort'_eq,show max ok 1=ok by lia];refine cz (wpS_mono (gW (I:=λk c st'=>c=(none,Unit.unit)/\∃g',Sg N f kd g' p st'/\Rn o g0 g' lo (lo+min k n))
  (Q:=λc st'=>c=(none,Unit.unit)/\∃g',Sg N f kd g' p st'/\Rn o g0 g' lo (lo+n)) ?step ?fin ?init) ?post)
 case post=>
  rintro c st' ⟨rfl,g',h',e⟩;exact c9<|q g' st' h' e
 case init=>exact⟨rfl,g,h,by rw[show min ok n=ok by lia];exact R⟩
 case fin=>
  rintro c st' ⟨hc,g',h',e⟩;exact⟨hc,g',h',by rwa [show min (max ok n) n=n by lia]at e⟩
 case step=>
  rintro k c st' L M ⟨rfl,g',h',e⟩;rw[show min k n=k by lia]at e;have J:g' (lo+k)=lo+k:=by rw[e.out _ ()];exact hid _ () ()
  refine cz (wpS_mono (gW (I:=λx c t=>t=st'/\∃u v,c=(none,u,v)/\u<=v/\v<=k/\v-u<=k-x /\
    (∀i,i<u->P o (g'<|lo+i) (lo+k))/\(∀i,v<=i->i<k->P o (lo+k) (g'<|lo+i)))
   (Q:=λc t=>t=st'/\∃u v,c=(none,u,v)/\u<=k /\
    (∀i,i<u->P o (g'<|lo+i) (lo+k))/\(∀i,u<=i->i<k->P o (lo+k) (g'<|lo+i))) ?istep ?ifin ?iinit) ?ipost)
  case iinit=>exact⟨rfl,0,k,rfl,(),(),(),λi W=>(),λi h1 h2=>()⟩
  case ifin=>
   rintro c t ⟨rfl,u,v,rfl,G,m,K,low,top⟩;have:u=v:=()
   subst this;exact⟨rfl,u,u,rfl,m,low,top⟩
  case istep=>
   rintro x c t _ T ⟨rfl,u,v,rfl,G,m,K,low,top⟩;dsimp only;by_cases B:u>=v
   ·rw[aS B];have:u=v:=()
    subst this;exact c9 ⟨rfl,u,u,rfl,m,low,top⟩
   ·rw[aQ B];have V:(u+v) / 2<k:=()
    have U:=e.cl (lo+(u+v) / 2) () ();refine cz<|wJ C h' () () ?_;rw[J]
    cases d:o.lt (lo+k) (g'<|lo+(u+v) / 2)
    case true=>
     dsimp[eZ];refine c9 ⟨rfl,u,(u+v) / 2,rfl,(),(),(),low,λi h1 h2=>?_⟩;by_cases c:i=(u+v) / 2
     ·subst c;exact .inl d
     ·exact(P.of_lt d).trans (e.so _ _ () () ())
    case false=>
     dsimp[bH,cQ];refine c9 ⟨rfl,(u+v) / 2+1,v,rfl,(),(),(),λi h1=>?_,top⟩;have j:=P.Jx d U.2;by_cases c:i=(u+v) / 2
     ·subst c;exact j
     ·exact(e.so _ _ () () ()).trans j
  case ipost=>
   rintro c t ⟨rfl,u,v,rfl,F,low,top⟩;dsimp only;refine cz<|WB h' () () λO h3=>?_;refine c9 ⟨rfl,_,h3,?_⟩;rw[show min (k+1) n=k+1 by lia];exact WQ e J F low top
end
meta abbrev As:=Option (bj)×Nat
meta abbrev Ds:=Option (bj)×Nat×Nat
abbrev OP (lo a nrem:Nat):StateT SortSt Sem As:=
 forIn [a:nrem] ((none,a):As) λ_ c=>do
  let x <- ltAt' (lo+c.2) (lo+c.2-1)
  match x with
  | some b=>if b=true then pure (ForInStep.done (none,c.2))else pure (ForInStep.yield (none,c.2+1))
  | _=>pure<|ForInStep.done (some none,c.2)
abbrev FH (lo n nrem:Nat):StateT SortSt Sem (bj):=do
 reverseSlice' lo (lo+n)
 let c <- OP lo n nrem
 match c.1 with
 | some r=>pure r
 | none=>pure<|some c.2
abbrev To (lo n nrem:Nat):StateT SortSt Sem Ds:=
 forIn [n:nrem] ((none,n,0):Ds) λ_ c=>do
  let x <- ltAt' (lo+c.2.1) (lo+c.2.1-1)
  match x with
  | some b=>
   if b=true then
    if c.2.2>0 then do
     reverseSlice' (lo+c.2.1-(c.2.2+1)) (lo+c.2.1)
     pure (ForInStep.yield (none,c.2.1+1,0))
    else pure (ForInStep.yield (none,c.2.1+1,0))
   else do
    let x <- ltAt' (lo+c.2.1-1) (lo+c.2.1)
    match x with
    | some b=>
     if b=true then pure (ForInStep.done (none,c.2.1,c.2.2))
     else pure (ForInStep.yield (none,c.2.1+1,c.2.2+1))
    | _=>pure<|ForInStep.done (some none,c.2.1,c.2.2)
  | _=>pure<|ForInStep.done (some none,c.2.1,c.2.2)
abbrev Qw (lo n nrem:Nat):StateT SortSt Sem (bj):=do
 liftM (rule "list.sort.descending-run")
 let c <- To lo (n+1) nrem
 match c.1 with
 | some r=>pure r
 | none=>
  if c.2.2>0 then do
   reverseSlice' (lo+c.2.1-(c.2.2+1)) (lo+c.2.1)
   FH lo c.2.1 nrem
  else FH lo c.2.1 nrem
def count_eq(lo nrem:Nat):countRun' lo nrem=(do
  let c <- OP lo 1 nrem
  match c.1 with
  | some r=>pure r
  | none=>
   if (c.2 == nrem)=true then pure (some c.2)
   else if c.2>1 then do
    let x <- ltAt' lo (lo+c.2-1)
    match x with
    | some b=>if b=true then pure (some c.2)else do
      reverseSlice' lo (lo+c.2)
      Qw lo c.2 nrem
    | _=>pure none
   else Qw lo c.2 nrem):=by
 rw[countRun'_eq];dsimp only;unfold Qw FH To OP;congr 1
 funext c
 obtain⟨r,n⟩:=c
 cases r with
 | some r=>rfl
 | none=>
  dsimp only;split
  ·rfl
  ·split
   ·congr 1
    funext x
    cases x with
    | none=>rfl
    | some b=>
     dsimp only;split
     ·rfl
     ·congr 1
      funext _r
      congr 1
      funext _u
      congr 1;congr 1
      funext s2
      obtain⟨r2,g,f⟩:=s2
      cases r2 with
      | some r2=>rfl
      | none=>
       dsimp only;split
       ·congr 1
        funext _v
        congr 1
        funext _w
        congr 1
        funext s3
        obtain⟨d,e⟩:=s3
        cases d<;>rfl
       ·congr 1
        funext _w
        congr 1
        funext s3
        obtain⟨d,e⟩:=s3
        cases d<;>rfl
   ·congr 1
    funext _u
    congr 1;congr 1
    funext s2
    obtain⟨r2,g,f⟩:=s2
    cases r2 with
    | some r2=>rfl
    | none=>
     dsimp only;split
     ·congr 1
      funext _v
      congr 1
      funext _w
      congr 1
      funext s3
      obtain⟨d,e⟩:=s3
      cases d<;>rfl
     ·congr 1
      funext _w
      congr 1
      funext s3
      obtain⟨d,e⟩:=s3
      cases d<;>rfl
section
variable {prog:aj}{w:ah}{A:az}{E:af->aA->Prop}{s:aA}{o:Ord}{N:Nat}{f:Nat->Keyed}{kd:SortKind}{g g0:Nat->Nat}{p:Array (Nat×Nat×Nat)}{st:SortSt}
def Rn.snoc{a:Nat}(R:Rn o g0 g a b)(hab:a<b)(hb:g b=b)(h:o.lt b (g<|b-1)=false):Rn o g0 g a (b+1) where
 out i hi:=R.out i ()
 cl i h1 h2:=by
  by_cases c:i=b
  ·subst c;lia
  ·have:=R.cl i h1 ();lia
 so i j h1 h2 h3:=by
  by_cases c:j=b
  ·subst c;rw[hb];have l:=R.cl (j-1) () ();have d:P o (g<|j-1) j:=P.Jx h l.2;by_cases c2:i=j-1
   ·subst c2;exact d
   ·exact(R.so i (j-1) h1 () ()).trans d
  ·exact R.so i j h1 h2 ()
def Qg(C:Rj prog w A s o N f kd){lo a:Nat}(h:Sg N f kd g p st)(hn:lo+nrem<=N)(h1:1<=a)(han:a<=nrem)(R:Rn o g0 g lo<|lo+a)(hid:∀i,lo+a<=i->i<lo+nrem->g0 i=i)
  {Q:As->SortSt->Prop} (q:∀n,a<=n->n<=nrem->Rn o g0 g lo (lo+n)->(n=nrem\/o.lt (lo+n) (g<|lo+n-1)=true)->Q (none,n) st):wpS (model prog w) A E s (OP lo a nrem) Q st:=by
 unfold OP;refine gW (I:=λx c d=>d=st/\c=(none,x)/\Rn o g0 g lo (lo+x)) ?step ?fin ⟨rfl,rfl,R⟩
 case fin=>
  rintro c d ⟨rfl,rfl,e⟩;rw[show max a nrem=nrem by lia]at e ⊢;exact q nrem han (aL _) e<|.inl rfl
 case step=>
  rintro x c d j t ⟨rfl,rfl,e⟩;dsimp only;have m:g (lo+x)=lo+x:=by rw[e.out _ ()];exact hid _ () ()
  refine cz<|wJ C h () () ?_;rw[m]
  cases k:o.lt (lo+x) (g<|lo+x-1)
  case true=>
   dsimp[eZ];exact c9<|q x j () e<|.inr k
  case false=>
   dsimp[bH,cQ];exact c9 ⟨rfl,rfl,e.snoc () m k⟩
structure Dc (o:Ord)(g0 g:Nat->Nat)(a b q:Nat):Prop where
 out:∀i,i<a\/b<=i->g i=g0 i
 cl:Cl g a b
 few:a+(q+1)<=b
 dn:∀i j,a<=i->i<j->j<b->i<b-(q+1)->P o (g j) (g i)
 id:∀i,b-(q+1)<=i->i<b->g i=i
 al:∀i j,b-(q+1)<=i->i<b->b-(q+1)<=j->j<b->o.lt i j=false
def Dc.turn{a q:Nat}(D:Dc o g0 g a b q):(∀i,i<a\/b<=i->rev g (b-(q+1)) b i=g0 i)/\Cl (rev g (b-(q+1)) b) a b/\(∀i j,a<=i->i<j->j<b->P o (rev g (b-(q+1)) b j) (rev g (b-(q+1)) b i))/\(∀i,b-(q+1)<=i->i<b->∃k,rev g (b-(q+1)) b i=k/\b-(q+1)<=k/\k<b):=by
 have few:=D.few;have d:∀i,b-(q+1)<=i->i<b->rev g (b-(q+1)) b i=b-(q+1)+b-1-i:=λi h1 h2=>by
  rw[A4 h1 h2];exact D.id _ (by omega)<|by omega
 refine⟨λi e=>?_,λi h1 h2=>?_,λi j h1 h2 h3=>?_,λi h1 h2=>⟨_,d i h1 h2,by omega,by omega⟩⟩
 ·rw[qv<|by omega];exact D.out i e
 ·by_cases c:i<b-(q+1)
  ·rw[qv<|by omega];exact D.cl i h1 h2
  ·rw[d i (by omega) h2];omega
 ·by_cases c:i<b-(q+1)
  ·rw[qv (k:=i)<|by omega];by_cases c2:j<b-(q+1)
   ·rw[qv<|by omega];exact D.dn i j h1 h2 h3 c
   ·rw[d j (by omega) h3];have:=D.dn i (b-(q+1)+b-1-j) h1 (by omega) (by omega) c
    rwa [D.id _ (by omega)<|by omega]at this
  ·rw[d i (by omega)<|by omega,d j (by omega) h3];exact P.Jx (D.al _ _ (by omega) (by omega) (by omega)<|by omega)<|by omega
abbrev Fin (o:Ord)(g0 g:Nat->Nat)(a b:Nat):Prop:=(∀i,i<a\/b<=i->g i=g0 i)/\Cl g a b/\(∀i j,a<=i->i<j->j<b->P o (g j) (g i))
def Dc.aaV{a:Nat}(D:Dc o g0 g a b 0):Fin o g0 g a b:=⟨D.out,D.cl,λi j h1 h2 h3=>D.dn i j h1 h2 h3 ()⟩
def Fin.rn{a:Nat}(D:Fin o g0 g a b):Rn o g0 (rev g a b) a b where
 out i hi:=by rw[qv hi];exact D.1 i hi
 cl i h1 h2:=by
  rw[A4 h1 h2];exact D.2.1 _ () ()
 so i j h1 h2 h3:=by
  rw[A4 h1 (),A4 () h3];exact D.2.2 _ _ () () ()
def Fin.add{a:Nat}(D:Fin o g0 g a b)(hb:g b=b)(hab:a<b)(h:∀i,a<=i->i<b->P o b (g i)):Dc o g0 g a (b+1) 0 where
 out i hi:=D.1 i ()
 cl i h1 h2:=by
  by_cases c:i=b
  ·subst c;lia
  ·have:=D.2.1 i h1 ();lia
 few:=()
 dn i j h1 h2 h3 _:=by
  by_cases c:j=b
  ·subst c;rw[hb];exact h i h1 h2
  ·exact D.2.2 i j h1 h2 ()
 id i h1 h2:=by
  have:i=b:=()
  rw[this,hb]
 al i j h1 h2 h3 h4:=by
  have:i=j:=()
  rw[this];exact o.Oi _
def I_(C:Rj prog w A s o N f kd){lo n:Nat}(h:Sg N f kd g p st)(hn:lo+nrem<=N)(h1:1<=n)(han:n<=nrem)(D:Fin o g0 g lo<|lo+n)(hid:∀i,lo<=i->i<lo+nrem->g0 i=i)
  {Q:bj->SortSt->Prop} (q:∀m g' st',Sg N f kd g' p st'->1<=m->m<=nrem->Rn o g0 g' lo (lo+m)->Q (some m) st'):wpS (model prog w) A E s (FH lo n nrem) Q st:=by
 unfold FH;refine cz<|yW h () λst2 h2=>?_;exact cz<|Qg C h2 hn h1 han D.rn (λi a b=>hid i () b) λm d c R _=>c9<|q m _ _ h2 () c R
def Xb(C:Rj prog w A s o N f kd){lo n:Nat}(h:Sg N f kd g p st)(hn:lo+nrem<=N)(h1:1<=n)(han:n<=nrem)(D:Dc o g0 g lo (lo+n) 0)(hid:∀i,lo<=i->i<lo+nrem->g0 i=i)
  {Q:Ds->SortSt->Prop} (q:∀m e g' st',Sg N f kd g' p st'->1<=m->m<=nrem->Dc o g0 g' lo (lo+m) e->Q (none,m,e) st'):wpS (model prog w) A E s (To lo n nrem) Q st:=by
 unfold To;refine gW (I:=λx c st'=>∃e g',c=(none,x,e)/\Sg N f kd g' p st'/\Dc o g0 g' lo (lo+x) e) ?step ?fin ⟨0,g,rfl,h,D⟩
 case fin=>
  rintro c st' ⟨e,g',rfl,h',t⟩;rw[show max n nrem=nrem by lia]at t ⊢;exact q nrem e g' st' h' () (aL _) t
 case step=>
  rintro x c st' O L ⟨e,g',rfl,h',t⟩;dsimp only;have few:=t.few;have F:g' (lo+x)=lo+x:=by rw[t.out _ ()];exact hid _ () ()
  have B:g' (lo+x-1)=lo+x-1:=t.id _ () ();refine cz<|wJ C h' () () ?_;rw[F,B]
  cases J:o.lt (lo+x) (lo+x-1)
  case true=>
   dsimp[eZ];by_cases K:e>0
   ·rw[aS K];obtain⟨W,T,M,V⟩:=t.turn;refine cz<|yW h' () λst2 h2=>c9 ⟨0,_,rfl,h2,?_⟩;refine Fin.add (b:=lo+x) ⟨W,T,M⟩ (by rw[qv ()];exact F) () λi a b=>?_;by_cases c:lo+x-(e+1)<=i
    ·obtain⟨k,U,k1,k2⟩:=V i c b;rw[U]
     rcases o.neg _ k _ J with z|z
     ·exact .inl z
     ·rw[t.al _ _ k1 k2 () ()]at z;cases z
    ·rw[qv ()];have:=t.dn i (lo+x-1) a () () ();rw[B]at this;exact(P.of_lt J).trans this
   ·rw[aQ K];have:e=0:=()
    subst this;refine c9 ⟨0,_,rfl,h',Fin.add (b:=lo+x) t.aaV F () λi a b=>?_⟩;by_cases c:i=lo+x-1
    ·subst c;rw[B];exact .inl J
    ·have:=t.dn i (lo+x-1) a () () ();rw[B]at this;exact(P.of_lt J).trans this
  case false=>
   dsimp[bH,cQ];refine cz<|wJ C h' () () ?_;rw[F,B]
   cases hg:o.lt (lo+x-1) (lo+x)
   case true=>
    dsimp[eZ];exact c9<|q x e g' st' h' () () t
   case false=>
    dsimp[bH,cQ];refine c9 ⟨e+1,g',rfl,h',?_⟩;have G:∀i,lo+x-(e+1)<=i->i<lo+x->o.lt i (lo+x)=false/\o.lt (lo+x) i=false:=λi a b=>by
     constructor
     ·cases z:o.lt i (lo+x)with
      | false=>rfl
      | true=>
       rcases o.neg _ (lo+x-1) _ z with y|y
       ·rw[t.al _ _ a b () ()]at y;cases y
       ·rw[hg]at y;cases y
     ·cases z:o.lt (lo+x) i with
      | false=>rfl
      | true=>
       rcases o.neg _ (lo+x-1) _ z with y|y
       ·rw[J]at y;cases y
       ·rw[t.al _ _ () () a b]at y;cases y
    exact {
     out:=λi Z=>t.out i ()
     cl:=λi a b=>by
      by_cases c:i=lo+x
      ·subst c;lia
      ·have:=t.cl i a ();lia
     few:=()
     dn:=λi j a b c d=>by
      by_cases z:j=lo+x
      ·subst z;rw[F];have y:=t.dn i (lo+x-1) a () () ();rw[B]at y;have Y:=t.cl i a ()
       rcases y with y|⟨_,y⟩
       ·rcases o.neg _ (lo+x) _ y with v|v
        ·rw[hg]at v;cases v
        ·exact .inl v
       ·lia
      ·exact t.dn i j a b () ()
     id:=λi a b=>by
      by_cases z:i=lo+x
      ·subst z;exact F
      ·exact t.id i () ()
     al:=λi j a b c d=>by
      by_cases z:i=lo+x
      ·subst z;by_cases y:j=lo+x
       ·subst y;exact o.Oi _
       ·exact(G j () ()).2
      ·by_cases y:j=lo+x
       ·subst y;exact(G i () ()).1
       ·exact t.al i j () () () ()}
def IK(C:Rj prog w A s o N f kd){lo n:Nat}(h:Sg N f kd g p st)(hn:lo+nrem<=N)(han:n+1<=nrem)(D:Dc o g0 g lo (lo+(n+1)) 0)(hid:∀i,lo<=i->i<lo+nrem->g0 i=i)
  {Q:bj->SortSt->Prop} (q:∀m g' st',Sg N f kd g' p st'->1<=m->m<=nrem->Rn o g0 g' lo (lo+m)->Q (some m) st'):wpS (model prog w) A E s (Qw lo n nrem) Q st:=by
 unfold Qw;refine cz<|wpS_lift<|gD ⟨rfl,?_⟩;refine cz<|Xb C h hn () han D hid λm e g' st' h' d c k=>?_;dsimp only;by_cases j:e>0
 ·rw[aS j];obtain⟨B,F,t,_⟩:=k.turn;exact cz (yW h' () λst2 h2=>I_ C h2 hn d c ⟨B,F,t⟩ hid q)
 ·rw[aQ j];have:e=0:=()
  subst this;exact I_ C h' hn d c k.aaV hid q
def P1(C:Rj prog w A s o N f kd){lo:Nat}(h:Sg N f kd g p st)(hn:lo+nrem<=N)(h1:1<=nrem)(hid:∀i,lo<=i->i<lo+nrem->g i=i)
  {Q:bj->SortSt->Prop} (q:∀m g' st',Sg N f kd g' p st'->1<=m->m<=nrem->Rn o g g' lo (lo+m)->Q (some m) st'):wpS (model prog w) A E s (countRun' lo nrem) Q st:=by
 rw[count_eq];refine cz (Qg C h hn (aL 1) h1 (g0:=g) ⟨λ_ _=>rfl,λi a b=>?_,λi j a b c=>()⟩ (λi a b=>hid i () b) λn G J R F=>?_)
 ·have:i=lo:=()
  subst this;rw[hid i (aL _) ()];lia
 dsimp only;by_cases t:n=nrem
 ·rw[aS<|by simpa using t];exact c9 (q n g st h G J R)
 ·rw[aQ<|by simpa using t];have e:=F.resolve_left t;rw[hid (lo+n-1) () ()]at e;have L:g (lo+n)=lo+n:=hid _ () ();by_cases B:n>1
  ·rw[aS B];refine cz<|wJ C h () () ?_;rw[hid lo () (),hid (lo+n-1) () ()]
   cases O:o.lt lo (lo+n-1)
   case true=>
    dsimp[eZ];exact c9<|q n g st h G J R
   case false=>
    dsimp[bH,cQ];have d:∀i,lo<=i->i<lo+n->g i=i:=λi a b=>hid i a ();have K:∀i j,lo<=i->i<j->j<lo+n->o.lt i j=false/\o.lt j i=false:=λi j a b c=>by
     have r:=R.so i j a b c;rw[d i a (),d j () c]at r;refine⟨?_,r.ge⟩
     cases z:o.lt i j with
     | false=>rfl
     | true=>
      rcases o.neg _ lo _ z with y|y
      ·by_cases x:i=lo
       ·subst x;rw[o.Oi]at y;cases y
       ·have r2:=R.so lo i () () ();rw[d i a (),d lo () ()]at r2;rw[r2.ge]at y;cases y
      ·rcases o.neg _ (lo+n-1) _ y with x|x
       ·rw[O]at x;cases x
       ·by_cases v:j=lo+n-1
        ·subst v;rw[o.Oi]at x;cases x
        ·have r2:=R.so j (lo+n-1) () () ();rw[d j () c,d (lo+n-1) () ()]at r2;rw[r2.ge]at x;cases x
    refine cz<|yW h () λst2 h2=>IK C h2 hn () ?_ hid q;have k:∀i,lo<=i->i<lo+n->rev g lo (lo+n) i=lo+(lo+n)-1-i:=λi a b=>by rw[A4 a b];exact d _ () ()
    refine Fin.add (b:=lo+n) ⟨λi M=>qv M,λi a b=>by rw[k i a b];lia,λi j a b c=>?_⟩ (by rw[qv ()];exact L) () λi a b=>?_
    ·rw[k i a (),k j () c];exact P.Jx (K _ _ () () ()).2 ()
    ·rw[k i a b];by_cases x:lo+(lo+n)-1-i=lo+n-1
     ·rw[x];exact .inl e
     ·rcases o.neg _ (lo+(lo+n)-1-i) _ e with z|z
      ·exact .inl z
      ·rw[(K _ _ () () ()).1]at z;cases z
  ·rw[aQ B];have:n=1:=()
   subst this;refine IK C h hn () ?_ hid q;refine Fin.add (b:=lo+1) ⟨λi M=>rfl,R.cl,λi j a b c=>()⟩ L () λi a b=>?_;have:i=lo:=()
   subst this;rw[hid i () ()];rw[show i+1-1=i by lia]at e;exact .inl e
end
abbrev TF (N:Nat):Prop:=∀{prog:aj}{w:ah}{A:az}{E:af->aA->Prop}{s:aA}{o:Ord}{f:Nat->Keyed}{kd:SortKind}{st:SortSt}{Q:Unit->SortSt->Prop},Rj prog w A s o N f kd->Sg N f kd (λi=>i) #[] st->(∀d e c,Sg N f kd d e c->Cl d 0 N->So o d 0 N->Q Unit.unit c)->wpS (model prog w) A E s sortRuns' Q st
abbrev RO (N:Nat):Prop:=2<=N->TF N
def Sg.pen{N:Nat}{f:Nat->Keyed}{kd:SortKind}{g:Nat->Nat}{p:Array<|Nat×Nat×Nat}{st:SortSt}(h:Sg N f kd g p st)(p':Array<|Nat×Nat×Nat):Sg N f kd g p' (setPending st p'):=⟨h.size,h.get,h.lt,h.kind,h.failed,rfl⟩
def aaA{N:Nat}(h64:N<64):RO N:=by
 intro h2 prog w A E s o f kd st Q C h q;rw[sortRuns'_eq];refine cz<|wpS_get ?_;dsimp only;have t:minRun' N N 0=N:=by
  obtain⟨k,M⟩:∃k,N=k+1:=⟨N-1,()⟩;have:minRun' (k+1) N 0=N:=by rw[minRun'_succ,aS h64];rfl
  rwa [<- M]at this
 rw[h.size,t];refine cz (wpS_mono (gW
  (I:=λx c e=>(x=0/\c=(none,0)/\Sg N f kd (λi=>i) #[] e)\/(1<=x/\c=(none,N)/\∃g p,Sg N f kd g p e/\Cl g 0 N/\So o g 0 N/\p.size=1))
  (Q:=λc e=>c=(none,N)/\∃g p,Sg N f kd g p e/\Cl g 0 N/\So o g 0 N/\p.size=1) ?step ?fin (.inl ⟨rfl,rfl,h⟩)) ?post)
 case fin=>
  rintro c e (⟨J,_,_⟩|⟨_,hc,B⟩)
  ·lia
  ·exact⟨hc,B⟩
 case step=>
  rintro x c e _ J (⟨rfl,rfl,P⟩|⟨L,rfl,B⟩)
  ·dsimp only;rw[aQ ()];refine cz<|P1 C P () () (λi a b=>rfl) λm U st1 j O W R1=>?_;dsimp only;by_cases c2:m<N
   ·rw[aS c2];refine cz<|wpS_lift<|gD ⟨rfl,?_⟩;rw[show min (N-0) N=N by lia];refine cz<|Wg C j () O () R1 (λi a b=>rfl) λK st2 G R2=>?_;rw[aQ ⋯];refine cz<|wpS_get ?_;rw[G.pend];show wpS _ _ _ _ _ _ _;refine cz (wpS_modify<|c9<|.inr ⟨(),by rw[bW],K,_,G.pen _,by have:=R2.cl;rwa [bW]at this,by have:=R2.so;rwa [bW]at this,?_⟩);rw[G.pend];rfl
   ·rw[aQ c2];have T:m=N:=()
    subst T;refine cz<|wpS_get ?_;rw[j.pend];refine cz (wpS_modify<|c9<|.inr ⟨(),by rw[bW],U,_,j.pen _,by have:=R1.cl;rwa [bW]at this,by have:=R1.so;rwa [bW]at this,?_⟩);rw[j.pend];rfl
  ·dsimp only;rw[aS<|aL _];exact c9 ⟨rfl,B⟩
 case post=>
  rintro c e ⟨rfl,g,p,h1,F,h3,V⟩;dsimp only;refine cz (wpS_mono (gW (I:=λx c d=>c=(none,Unit.unit)/\Sg N f kd g p d) (Q:=λc d=>c=(none,Unit.unit)/\Sg N f kd g p d) ?fstep (λ_ _ z=>z) ⟨rfl,h1⟩) ?fpost)
  case fstep=>
   rintro x c d _ J ⟨rfl,h1⟩;refine cz<|wpS_get ?_;rw[h1.pend,aS ()];exact c9 ⟨rfl,h1⟩
  case fpost=>
   rintro c d ⟨rfl,h1⟩;dsimp only;exact c9<|q g p d h1 F h3
abbrev zg:Bool->Keyed->Array Keyed->Nat->Nat->Nat->StateT SortSt Sem (bj):=sortPriv% PySem.Builtin.gallop
abbrev VL:Nat->StateT SortSt Sem Unit:=sortPriv% PySem.Builtin.setMinGallop
section
variable {o:Ord}{N:Nat}{f:Nat->Keyed}{A B hs:am}{ia ib:Nat}
abbrev fa (f:Nat->Keyed)(l:am):Array Keyed:=(l.map f).toArray
structure Ab (o:Ord)(N:Nat)(A B:am):Prop where
 sa:A.Pairwise (P o)
 sb:B.Pairwise (P o)
 lt:∀x∈A,∀y∈B,x<y
 nb:∀y∈B,y<N
 na:∀x∈A,x<N
structure Mg (o:Ord)(A B hs:am)(ia ib:Nat):Prop where
 la:ia<=A.length
 lb:ib<=B.length
 len:hs.length=ia+ib
 so:hs.Pairwise (P o)
 mem:∀x∈hs,x∈A\/x∈B
 ua:∀x∈hs,∀y∈A.drop ia,P o x y
 ub:∀x∈hs,∀y∈B.drop ib,P o x y
abbrev Res (o:Ord)(f:Nat->Keyed)(A B:am)(out:Array Keyed):Prop:=∃hs:am,out=fa f hs/\hs.length=A.length+B.length/\hs.Pairwise (P o)/\∀x∈hs,x∈A\/x∈B
end
structure Sm (st st':SortSt):Prop where
 a:arrOf st'=arrOf st
 k:kindOf st'=kindOf st
 p:pendingOf st'=pendingOf st
 f:failedOf st'=failedOf st
meta abbrev G:=Option (Array Keyed)×Array Keyed×Nat×Nat×Nat×Nat×Nat
abbrev T3 (a b out:Array Keyed)(ia ib mg ac bc:Nat):StateT SortSt Sem (ForInStep G):=do
 let x <- elem' a ia
 if (ia+1+1 == a.size)=true then pure (ForInStep.done (some<|out.push x++b.extract ib b.size++a.extract (ia+1) a.size,out.push x,ia+1,ib,mg,ac,bc))
 else if (decide (ac<7) && decide (bc<7))=true then pure (ForInStep.done (none,out.push x,ia+1,ib,mg,ac,bc))
 else pure (ForInStep.yield (none,out.push x,ia+1,ib,mg,ac,bc))
abbrev T2 (a b out:Array Keyed)(ia ib mg ac bc:Nat):StateT SortSt Sem (ForInStep G):=do
 let x <- elem' b ib
 if (ib+1 == b.size)=true then pure (ForInStep.done (some<|out.push x++a.extract ia a.size++b.extract (ib+1) b.size,out.push x,ia,ib+1,mg,ac,bc))
 else
  let y <- elem' a ia
  let r <- zg true y b (ib+1) (b.size-(ib+1)) 0
  match r with
  | some k=>
   if k>0 then
    if (ib+1+k == b.size)=true then pure (ForInStep.done (some<|out.push x++b.extract (ib+1) (ib+1+k)++a.extract ia a.size++b.extract (ib+1+k) b.size,out.push x++b.extract (ib+1) (ib+1+k),ia,ib+1+k,mg,ac,k))
    else T3 a b (out.push x++b.extract (ib+1) (ib+1+k)) ia (ib+1+k) mg ac k
   else T3 a b (out.push x) ia (ib+1) mg ac k
  | _=>pure<|ForInStep.done (some<|out.push x++a.extract ia a.size++b.extract (ib+1) b.size,out.push x,ia,ib+1,mg,ac,bc)
abbrev T1 (a b out:Array Keyed)(ia ib mg ac bc:Nat):StateT SortSt Sem (ForInStep G):=do
 VL mg
 let x <- elem' b ib
 let r <- zg false x a ia (a.size-ia) 0
 match r with
 | some k=>
  if k>0 then
   if (ia+k+1 == a.size)=true then pure (ForInStep.done (some<|out++a.extract ia (ia+k)++b.extract ib b.size++a.extract (ia+k) a.size,out++a.extract ia (ia+k),ia+k,ib,mg,k,bc))
   else if (ia+k == a.size)=true then pure (ForInStep.done (some<|out++a.extract ia (ia+k)++a.extract (ia+k) a.size++b.extract ib b.size,out++a.extract ia (ia+k),ia+k,ib,mg,k,bc))
   else T2 a b (out++a.extract ia (ia+k)) (ia+k) ib mg k bc
  else T2 a b out ia ib mg k bc
 | _=>pure<|ForInStep.done (some<|out++a.extract ia a.size++b.extract ib b.size,out,ia,ib,mg,ac,bc)
section
variable {o:Ord}{A B ts:am}{na nb:Nat}
structure Mh (o:Ord)(A B ts:am)(na nb:Nat):Prop where
 la:na<=A.length
 lb:nb<=B.length
 len:ts.length+na+nb=A.length+B.length
 so:ts.Pairwise (P o)
 mem:∀x∈ts,x∈A\/x∈B
 ua:∀y∈A.take na,∀x∈ts,P o y x
 ub:∀y∈B.take nb,∀x∈ts,P o y x
end
meta abbrev H:=Option (Array Keyed)×Nat×Nat×Array Keyed×Nat×Nat×Nat
abbrev U3 (a b out:Array Keyed)(na nb mg ac bc:Nat):StateT SortSt Sem (ForInStep H):=do
 let x <- elem' a (na-1)
 if (na-1 == 0)=true then pure (ForInStep.done (some<|a.extract 0 (na-1)++b.extract 0 nb++(out.push x).reverse,na-1,nb,out.push x,mg,ac,bc))
 else if (decide (ac<7) && decide (bc<7))=true then pure (ForInStep.done (none,na-1,nb,out.push x,mg,ac,bc))
 else pure (ForInStep.yield (none,na-1,nb,out.push x,mg,ac,bc))
abbrev U2 (a b out:Array Keyed)(na nb mg ac bc:Nat):StateT SortSt Sem (ForInStep H):=do
 let x <- elem' b (nb-1)
 if (nb-1 == 1)=true then pure (ForInStep.done (some<|b.extract 0 (nb-1)++a.extract 0 na++(out.push x).reverse,na,nb-1,out.push x,mg,ac,bc))
 else
  let y <- elem' a (na-1)
  let r <- zg true y b 0 (nb-1) (nb-1-1)
  match r with
  | some t=>
   if nb-1-t>0 then
    if (t == 1)=true then pure (ForInStep.done (some<|b.extract 0 t++a.extract 0 na++(out.push x++(b.extract t<|nb-1).reverse).reverse,na,t,out.push x++(b.extract t<|nb-1).reverse,mg,ac,nb-1-t))
    else if (t == 0)=true then pure (ForInStep.done (some<|a.extract 0 na++b.extract 0 t++(out.push x++(b.extract t<|nb-1).reverse).reverse,na,t,out.push x++(b.extract t<|nb-1).reverse,mg,ac,nb-1-t))
    else U3 a b (out.push x++(b.extract t<|nb-1).reverse) na t mg ac (nb-1-t)
   else U3 a b (out.push x) na (nb-1) mg ac (nb-1-t)
  | _=>pure<|ForInStep.done (some<|a.extract 0 na++b.extract 0 (nb-1)++(out.push x).reverse,na,nb-1,out.push x,mg,ac,bc)
abbrev U1 (a b out:Array Keyed)(na nb mg ac bc:Nat):StateT SortSt Sem (ForInStep H):=do
 VL mg
 let x <- elem' b (nb-1)
 let r <- zg false x a 0 na (na-1)
 match r with
 | some t=>
  if na-t>0 then
   if (t == 0)=true then pure (ForInStep.done (some<|a.extract 0 t++b.extract 0 nb++(out++(a.extract t na).reverse).reverse,t,nb,out++(a.extract t na).reverse,mg,na-t,bc))
   else U2 a b (out++(a.extract t na).reverse) t nb mg (na-t) bc
  else U2 a b out na nb mg (na-t) bc
 | _=>pure<|ForInStep.done (some<|a.extract 0 na++b.extract 0 nb++out.reverse,na,nb,out,mg,ac,bc)
section
variable {o:Ord}{f:Nat->Keyed}{st0:SortSt}{X Y ts:am}{na nb:Nat}
abbrev Oh (o:Ord)(X Y:am)(n:Nat)(ts:am)(na nb:Nat):Prop:=Mh o X Y ts na nb/\1<=na/\2<=nb/\na+nb+n<=X.length+Y.length
abbrev H2 (o:Ord)(f:Nat->Keyed)(X Y:am)(n:Nat)(st0:SortSt):ForInStep H->SortSt->Prop:=λr d=>Sm st0 d/\match r with
 | .done c=>(∃r z,c=(some r,z)/\Res o f X Y r)\/∃ts na nb mg e g,c=(none,na,nb,fa f ts.reverse,mg,e,g)/\Oh o X Y n ts na nb
 | .yield c=>∃ts na nb mg e g,c=(none,na,nb,fa f ts.reverse,mg,e,g)/\Oh o X Y n ts na nb
end
meta abbrev pr (x:Nat×Nat×Nat):Nat×Nat:=(x.1,x.2.1)
abbrev Zi (o:Ord)(g:Nat->Nat):List (Nat×Nat)->Nat->Nat->Prop
 | [],a,b=>a=b
 | x::l,a,b=>x.1=a/\1<=x.2/\Cl g a (a+x.2)/\So o g a (a+x.2)/\Zi o g l (a+x.2) b
abbrev PA (o:Ord)(g:Nat->Nat)(p:Array<|Nat×Nat×Nat)(b:Nat):Prop:=Zi o g (p.toList.map pr) 0 b
meta abbrev KU (h:aq)(a:ak)(vs:ba):aq:=((h.update a<|Obj.mapSeq λ_=>#[]).push<|seqObj "tuple" vs.toArray 0).push<|seqObj "list" #[] 0
def SD{h:aq}{a:ak}(hb:b≠a)(hlt:b<h.objs.size):(KU h a vs).get? b=h.get? b:=by
 rw[gY _ _ _<|by rw[size_push',iD];exact bA<|fH hlt,
  gY _ _ _ (by rw[iD];exact bA hlt),Heap.get?_update_ne _ _ _ _ hb]
meta abbrev vv (vs:ba)(i:Nat):Keyed:=(vs.getD i .none,vs.getD i .none)
def zip_get(vs:ba){i:Nat}(h:i<vs.length):(vs.toArray.zip vs.toArray)[i]?=some (vv vs i):=by
 have e:vs[i]?=some (vs.getD i .none):=by rw[aJ,aF h];rfl
 rw[Array.getElem?_zip_eq_some];exact⟨by rw[fC];exact e,by rw[fC];exact e⟩
section
variable {prog:aj}{w:ah}{A:az}{E:af->aA->Prop}{s:aA}{o:Ord}{kd:SortKind}
def Bw{a:ak}{vs:ba}{n:Nat}{P:PySem.Fin->aA->Prop}(hL:s.heap.get? a=some (seqObj "list" vs.toArray n))(hsz:vs.length<=sizeLine)(ro:RO vs.length)
  (hkk:2<=vs.length->∀Q:SortKind->aA->Prop,Q kd { s with heap:=KU s.heap a vs }->wpAny (model prog w) A (keyKind' vs.toArray) Q E { s with heap:=KU s.heap a vs })
  (C:2<=vs.length->Rj prog w A { s with heap:=KU s.heap a vs } o vs.length (vv vs) kd)
  (h:∀g,Cl g 0 vs.length->So o g 0 vs.length->P (.done<|.ret .none) { s with heap:=sortedHeap s.heap a vs ((List.range vs.length).map λi=>vs.getD (g i) .none).toArray }) :
  wpAny (model prog w) A (Builtin.«list.sort» ⟨[.ref a],[]⟩) P E s:=by
 rw[list_sort_plain];have B:a<s.heap.objs.size:=a_ hL;refine aH<|listItems_at hL rfl ?_;refine aH (listUpdate_at hL rfl ?_ (by rw[aZ];exact hsz)<|bM _);obtain⟨ep,F⟩:∃ep,(s.heap.update a<|Obj.mapSeq λ_=>#[]).get? a=some (seqObj "list" #[] ep):=⟨_,get?_update_seq hL λ_=>#[]⟩;refine aH<|seqEpoch_at F rfl ?_;refine aH<|wpAny_newTuple ?_;refine aH<|wpAny_newList ?_;refine cU ?_;have m:(KU s.heap a vs).get? a=some (seqObj "list" #[] ep):=by
  rw[gY _ _ _<|by rw[size_push',iD];exact bA<|fH B,gY _ _ _<|by rw[iD];exact bA B];exact F
 skip
 dsimp only;have G:vs.toArray.size=vs.length:=by simp
 have K:∀i,i<vs.length->vs[i]?=some (vs.getD i .none):=λi t=>by rw[aJ,aF t];rfl
 have v9:∀(arr:Array Keyed) (g:Nat->Nat),arr.size=vs.length->(∀i,i<vs.length->arr[i]?=some (vv vs<|g i))->arr.map (·.2)=((List.range vs.length).map λi=>vs.getD (g i) .none).toArray:=λarr g h1 d=>by
  apply Array.ext_getElem?;intro i;have e0:((List.range vs.length).map λi=>vs.getD (g i) Value.none).toArray[i]?=((List.range vs.length).map λi=>vs.getD (g i) Value.none)[i]?:=fC ..;rw[Array.getElem?_map,e0,aV];by_cases c:i<vs.length
  ·rw[d i c,f7 c];rfl
  ·rw[gZ (),ir<|by rw[cA];lia];rfl
 by_cases d:vs.toArray.size<2
 ·rw[aS d,aS d];refine aH<|aP ?_;rw[StateT.run_pure];refine aH<|aP ?_;dsimp only;refine aH<|seqEpoch_at m rfl ?_;have oe:=v9 (vs.toArray.zip vs.toArray) (λi=>i) (by rw[jv,G];lia) λi t=>zip_get vs t;refine aH (listUpdate_at m rfl ?_ (by simp) (hsz2:=by rw[size_map];show(vs.toArray.zip vs.toArray).size<=_;rw[jv,G];lia));dsimp[bne_self_eq_false,bH,cQ];refine aP ?_;have:=h (λi=>i) (λi a b=>⟨a,b⟩) λi j a b c=>();rw[<- oe]at this;exact this
 ·rw[aQ d,aQ d];have q:2<=vs.length:=()
  refine aH<|hkk q _ ?_;refine aH (cZ (ro q (f:=vv vs) (st:=SortSt.mk' kd (vs.toArray.zip vs.toArray) #[] 7 none)
   (Q:=λ_ k=>∃g p,Sg vs.length (vv vs) kd g p k/\Cl g 0 vs.length/\So o g 0 vs.length)
   (C q) ⟨by show(vs.toArray.zip vs.toArray).size=_;rw[jv,G];lia,λi t=>zip_get vs t,λi t=>t,rfl,rfl,rfl⟩ λM N k U O T=>⟨M,N,U,O,T⟩) ?_ λ_ _ e=>e)
  rintro⟨⟨⟩,k⟩ s' ⟨rfl,g,p,hS,hc,J⟩;dsimp only;refine aH<|seqEpoch_at m rfl ?_;have oe:=v9 (arrOf k) g hS.size hS.get;refine aH (listUpdate_at m rfl ?_ (by simp) (hsz2:=by have L:(arrOf k).size=vs.length:=hS.size;show((arrOf k).map (·.2)).size<=_;rw[size_map,L];lia));rw[hS.failed];dsimp[bne_self_eq_false,bH,cQ];have:=h g hc J;rw[<- oe]at this;exact aP this
end
section
variable {prog:aj}{w:ah}{A:az}{E:af->aA->Prop}{s:aA}
def L4(b:Bool)(x y:af):keyLt' (tuples' b) x y=(do
  let us <- Builtin.List.listItems x
  let vs <- Builtin.List.listItems y
  for ((u,v),k)in (us.toList.zip vs.toList).zipIdx do
   if !(<- eqBool u v)then return <- oneLt' (b && k == 0) u v
  return us.size<vs.size):=rfl
def JG(b:Bool){x y:Int}{t:Tok}{Q:Bool->aA->Prop}(h:Q (decide<|x<y) s):wpAny (model prog w) A (oneLt' b (.int x t)<|.int y u) Q E s:=by
 cases b with
 | true=>exact oneLt_int h
 | false=>
  rw[oneLt'_eq];dsimp[bH,cQ];exact aH<|PySem.P.lt_int<|dc h
def HB(b:Bool){l k:ak}{xs ys:ba}{ns:ag}{Q:Bool->aA->Prop}(hl:IsTup s.heap l xs.toArray)(hk:IsTup s.heap k ys.toArray)(hi:IntsAre xs ns)(hj:IntsAre ys ms)(h:Q (HT.lexLt ns ms) s) :
  wpAny (model prog w) A (keyLt' (tuples' b) (.ref l)<|.ref k) Q E s:=by
 rw[L4];obtain⟨M,m,_,K,F⟩:=hl;obtain⟨N,C,_,L,g⟩:=hk;refine aH<|listItems_at m F ?_;refine aH<|listItems_at C g ?_;have B:∀(xs ys:ba) (ns ms:ag) (n:Nat),IntsAre xs ns->IntsAre ys ms->∀f:bi×Unit->aA->Prop,(∀r,(r=some (HT.lexLt ns ms)\/(r=none/\HT.lexLt ns ms=decide (xs.length<ys.length)))->f (r,Unit.unit) s) ->
   wpAny (model prog w) A (forIn ((xs.zip ys).zipIdx n) ((none,Unit.unit):bi×Unit) λx c=>match x with
      | ((p,q),i)=>do
       let e <- eqBool p q
       if (!e)=true then do
         let r <- oneLt' (b && i == 0) p q
         pure (ForInStep.done (some r,Unit.unit))
        else pure (ForInStep.yield (none,Unit.unit))) f E s:=by
  intro xs
  induction xs with
  | nil=>
   intro ys ns ms n h1 h2 f q
   cases h1
   rw[List.zip_nil_left,List.zipIdx_nil,ju];refine aP (q none<|.inr ⟨rfl,?_⟩)
   cases h2 with
   | nil=>rw[HT.sC];rfl
   | cons a t h2=>rw[HT.oA,aY<|by simp]
  | cons v vs G=>
   intro ys ns ms n h1 h2 f q
   cases h1 with
   | cons a t h1=>
    cases h2 with
    | nil=>
     rw[List.zip_nil_right,List.zipIdx_nil,ju];exact aP<|q none<|.inr ⟨rfl,by rw[HT.qM,bw<|by simp]⟩
    | cons c u h2=>
     rw[List.zip_cons_cons,List.zipIdx_cons,List.forIn_cons];rw[HT.tY]at q;dsimp only;refine aH<|aH<|wpAny_eqBool_int ?_;by_cases e:a=c
     ·rw[aS e]at q;subst e;dsimp[cG,bR,bH,cQ];refine aP (G _ _ _ _ h1 h2 _ λr d=>q r ?_)
      rcases d with d|⟨d,j⟩
      ·exact .inl d
      ·exact .inr ⟨d,by rw[j];simp⟩
     ·rw[aQ e]at q;have J:(a == c)=false:=by simpa using e
      dsimp[J,cM,eZ];exact aH<|JG _<|aP<|aP<|q _<|.inl rfl
 refine aH (B xs ys ns ms 0 hi hj _ λr d=>?_)
 rcases d with rfl|⟨rfl,j⟩
 ·exact aP h
 ·dsimp only;rw[aZ,aZ,<- j];exact aP h
end
theorem CG:∀a:ag,HT.lexLt a a=false
 | []=>HT.sC
 | x::a=>by rw[HT.tY,aS rfl];exact CG a
theorem Dm:∀{a b c:ag},HT.lexLt a b=true->HT.lexLt b c=true->HT.lexLt a c=true
 | [],[],_,h,_=>by rw[HT.sC]at h;cases h
 | x::a,[],_,h,_=>by rw[HT.qM]at h;cases h
 | _,y::b,[],_,h=>by rw[HT.qM]at h;cases h
 | [],y::b,z::c,_,_=>HT.oA ..
 | x::a,y::b,z::c,h1,h2=>by
  rw[HT.tY]at h1 h2 ⊢;by_cases e1:x=y
  ·rw[aS e1]at h1;by_cases e2:y=z
   ·rw[aS e2]at h2;rw[aS<|e1.trans e2];exact Dm h1 h2
   ·rw[aQ e2]at h2;have:=bK h2;rw[aQ<|by omega];exact aY<|by omega
  ·rw[aQ e1]at h1;have d:=bK h1;by_cases e2:y=z
   ·rw[aQ<|by omega];exact aY (by omega)
   ·rw[aQ e2]at h2;have:=bK h2;rw[aQ<|by omega];exact aY<|by omega
theorem w4:∀{a b:ag},HT.lexLt a b=false->HT.lexLt b a=false->a=b
 | [],[],_,_=>rfl
 | [],y::b,h,_=>by rw[HT.oA]at h;cases h
 | x::a,[],_,h=>by rw[HT.oA]at h;cases h
 | x::a,y::b,h1,h2=>by
  rw[HT.tY]at h1 h2;by_cases e:x=y
  ·rw[aS e]at h1;rw[aS e.symm]at h2;rw[e,w4 h1 h2]
  ·rw[aQ e]at h1;rw[aQ λz=>e z.symm]at h2;have:=dB h1;have:=dB h2;omega
def Kz{a c:ag}(h:HT.lexLt a c=true):HT.lexLt a b=true\/HT.lexLt b c=true:=by
 cases e:HT.lexLt a b with
 | true=>exact .inl rfl
 | false=>
  right
  cases e2:HT.lexLt b a with
  | true=>exact Dm e2 h
  | false=>rw[<- w4 e e2];exact h
abbrev KP (kss:List<|ag):Ord where
 lt i j:=HT.lexLt (kss.getD i []) (kss.getD j [])
 Oi i:=CG _
 tr i j k:=Dm
 neg i j k:=Kz
section
variable {prog:aj}{w:ah}{A:az}{E:af->aA->Prop}{s:aA}
theorem J_{α β:Type}{f:α->Sem β}(r:α->β):∀(l:List α),(∀a∈l,∀Q:β->aA->Prop,Q (r a) s->wpAny M A (f a) Q E s)->∀Q:List β->aA->Prop,Q (l.map r) s->wpAny M A (l.mapM f) Q E s
 | [],_,Q,q=>by rw[List.mapM_nil];exact aP q
 | a::l,h,Q,q=>by
  rw[List.mapM_cons];refine aH<|h a (aN ..) _<|aH<|J_ r l (λb c=>h b<|aK _ c) _<|aP q
def HG{α β:Type}{f:α->Sem β}(r:α->β)(l:List α)(h:∀a∈l,∀Q:β->aA->Prop,Q (r a) s->wpAny M A (f a) Q E s)(Q:Array β->aA->Prop)(q:Q (l.map r).toArray s):wpAny M A (l.toArray.mapM f) Q E s:=by
 rw[List.mapM_toArray,map_eq_pure_bind];exact aH<|J_ r l h _<|aP q
def Mz(u:af):firstOfTuple' u=(do
  if (<- typeOf u) != .type "tuple" then return none
  return (<- Builtin.List.listItems u)[0]?):=rfl
def LR{vs:ba}(h0:vs≠[])(ht:∀v∈vs,∃(l:ak) (xs:ba) (n:Int) (t:Tok),v=.ref l/\IsTup s.heap l (.int n t::xs).toArray){Q:SortKind->aA->Prop}(q:Q (tuples' true) s) :
  wpAny (model prog w) A (keyKind' vs.toArray) Q E s:=by
 have k:∀v,∃x:Int×Tok,v∈vs->∃(l:ak) (xs:ba),v=.ref l/\IsTup s.heap l (.int x.1 x.2::xs).toArray:=λv=>by
  by_cases c:v∈vs
  ·obtain⟨l,xs,n,t,e1,e2⟩:=ht v c;exact⟨(n,t),λ_=>⟨l,xs,e1,e2⟩⟩
  ·exact⟨(0,0),λz=>absurd z c⟩
 obtain⟨F,B⟩:=Classical.axiomOfChoice k;rw[keyKind'_eq];refine aH (HG (λv=>some<|Value.int (F v).1 (F v).2) vs (λv hv p q'=>?_) _ ?_)
 ·obtain⟨l,xs,rfl,o,f,hc,n,g⟩:=B v hv;rw[Mz];refine aH<|jj (T := "tuple") ⟨o,f,hc⟩ ?_;rw[aQ ⋯];exact aH (listItems_at f g<|aP q')
 ·rw[aS<|by simp];refine aH<|gD ?_;have e1:(vs.map λv=>some<|Value.int (F v).1 (F v).2).toArray.filterMap id=(vs.map λv=>Value.int (F v).1 (F v).2).toArray:=by
   rw[List.filterMap_toArray,List.filterMap_map];congr 1;rw[show(id ∘ λv=>some<|Value.int (F v).1 (F v).2)=λv=>some (Value.int (F v).1 (F v).2)from rfl];exact congrFun List.filterMap_eq_map' vs
  rw[e1,oneTypeOnly'_eq];refine aH (aH<|HG (λ_=>Value.type "int") _ (λv hv p q'=>?_) _ ?_)
  ·obtain⟨u,_,rfl⟩:=br.mp hv;exact aP q'
  ·rw[bD];obtain⟨e,d,rfl⟩:∃e d,vs=e::d:=by
    cases vs with
    | nil=>exact absurd rfl h0
    | cons a b=>exact⟨a,b,rfl⟩
   have j:((List.map ((λ_=>Value.type "int") ∘ λv=>Value.int (F v).1 (F v).2) (e::d)).toArray.all λx=>x == Value.type "int")=true:=by
    dsimp[List.all_toArray,all_map,eU];intro _ _;rfl
   have m:(List.map ((λ_=>Value.type "int") ∘ λv=>Value.int (F v).1 (F v).2) (e::d)).toArray[0]?=some (Value.type "int"):=by simp
   rw[m];dsimp[j,eZ];exact aP<|aP q
end
end Sx
namespace L2
open PySem PySem.Spec PyProof.Rows
section
variable {X:Cx}
theorem BY:∀{rs:bb}{its:ba},Vals (rs.map V.ref) its->its=rs.map Value.ref
 | [],_,r=>by cases r;rfl
 | a::rs,_,r=>by
  cases r with
  | cons h t=>
   have e:_=Value.ref a:=h;rw[e,BY t];rfl
theorem B5:∀(rs:bb),Vals (rs.map V.ref) (rs.map Value.ref)
 | []=>.nil
 | a::rs=>.cons (show RelV (.ref a) (.ref a)from rfl)<|B5 rs
def Ll{s:aA}{H:Hp}{Q:VK}{h':aq}{tk:Nat}{rs:bb}{kss:List<|ag}(I1:Inv X pins σ H { s with heap:=h',toks:=tk })(ro:Sx.RO kss.length)(hlen:rs.length=kss.length)(hz:rs.length<=sizeLine)
  (hT:∀(i:Nat) (r:ak) (ks:ag),rs[i]?=some r->kss[i]?=some ks->ow X.K H r (ks.map V.int)/\ks≠[])
  (q:∀l g,H l=none->Sx.Cl g 0 kss.length->Sx.So (Sx.KP kss) g 0 kss.length->Q (.ref l) (upd H l<|.lst<|((List.range kss.length).map λi=>rs.getD (g i) 0).map V.ref)) :
  wpAny (model X.prog X.w) X.A.in1 (do
   let l <- newList (rs.map Value.ref)
   let _ <- holding [l] (call (Value.builtin "list.sort") [l] [])
   ret l) (λfin s'=>∃v,fin=Fin.done (Flow.ret v)/\EP X pins σ Q v s') X.xe { s with heap:=h',toks:=tk }:=by
 have m:(rs.map Value.ref).length=kss.length:=by rw[aG,hlen]
 refine aH<|wpAny_newList ?_;have d:(h'.push<|seqObj "list" (rs.map Value.ref).toArray 0).get? h'.objs.size=some (seqObj "list" (rs.map Value.ref).toArray 0):=bu _ rfl
 skip
 have tup:∀(i:Nat) (r:ak) (ks:ag),rs[i]?=some r->kss[i]?=some ks->∃c:ba,IntsAre c ks/\IsTup (Sx.KU (h'.push<|seqObj "list" (rs.map Value.ref).toArray 0) h'.objs.size<|rs.map Value.ref) r c.toArray:=λi r ks e1 e2=>by
  obtain⟨c,P,⟨o,F,hc,n,M⟩,_⟩:=I1.tuple (hT i r ks e1 e2).1;refine⟨c,intsAre_of P,o,?_,hc,n,M⟩;have lt:r<h'.objs.size:=a_ F;rw[Sx.SD (bA lt)<|by rw[c6];exact fH lt];exact aR _ F
 refine aH (cU<|cW slot_list_sort ⟨_,d,rfl⟩ entry_list_sort (Sx.Bw (o:=Sx.KP kss) (kd:=tuples' true) d (by rw[m];lia) (by rw[m];exact ro) (λh2 G q'=>?_) (λh2 i j f J U G q'=>?_) λg hc hs=>⟨_,rfl,?_⟩)<|args_list_sort _)
 ·refine Sx.LR (λz=>by rw[z]at h2;simp at h2) (λv hv=>?_) q';obtain⟨i,f⟩:=List.getElem?_of_mem hv;rw[aV]at f;obtain⟨r,C,rfl⟩:=aW.mp f;have lt:=(aI.mp C).1;have e2:kss[i]?=some kss[i]:=aF ();obtain⟨c,h1,h3⟩:=tup i r _ C e2;have k:=(hT i r _ C e2).2;generalize kss[i]=ks at h1 k
  cases h1 with
  | nil=>exact absurd rfl k
  | cons a t h1=>exact⟨r,_,a,t,rfl,h3⟩
 ·rw[m]at f J;have e1:rs[i]?=some (rs[i]'()):=aF _;have e2:rs[j]?=some (rs[j]'()):=aF _;have k1:kss[i]?=some kss[i]:=aF f;have k2:kss[j]?=some kss[j]:=aF J;obtain⟨x1,W,Z⟩:=tup i _ _ e1 k1;obtain⟨x2,T,O⟩:=tup j _ _ e2 k2;have v1:(rs.map Value.ref).getD i .none=.ref (rs[i]'()):=by rw[aJ,aV,e1];rfl
  have v2:(rs.map Value.ref).getD j .none=.ref (rs[j]'()):=by rw[aJ,aV,e2];rfl
  show wpAny _ _ (keyLt' (tuples' true) ((rs.map Value.ref).getD i .none)<|(rs.map Value.ref).getD j .none) G U _;rw[v1,v2];refine Sx.HB true Z O W T ?_;have Y:kss.getD i []=kss[i]:=by rw[aJ,k1];rfl
  have L:kss.getD j []=kss[j]:=by rw[aJ,k2];rfl
  have:(Sx.KP kss).lt i j=HT.lexLt kss[i] kss[j]:=by show HT.lexLt _ _=_;rw[Y,L]
  rw[<- this];exact q'
 ·rw[m]at hc hs ⊢;obtain⟨e,N⟩:=sortedHeap_at (out:=((List.range kss.length).map λi=>(rs.map Value.ref).getD (g i) .none).toArray) d;have old:∀b p,h'.get? b=some p->(sortedHeap (h'.push<|seqObj "list" (rs.map Value.ref).toArray 0) h'.objs.size (rs.map Value.ref) ((List.range kss.length).map λi=>(rs.map Value.ref).getD (g i) .none).toArray).get? b=some p:=λb p B=>by
   rw[sortedHeap_old (bA<|a_ B)<|by rw[c6];exact fH<|a_ B];exact aR _ B
  refine aP ⟨_,rfl,.ref h'.objs.size,_,I1.laid (t':=tk) (o:=.lst<|((List.range kss.length).map λi=>rs.getD (g i) 0).map V.ref) old (aL _) ?_,rfl,q _ g (I1.hok.fresh<|aL _) hc hs⟩;refine⟨by rw[aG,aG,cA];lia,((List.range kss.length).map λi=>rs.getD (g i) 0).map Value.ref,e,B5 _,?_⟩;rw[N];congr 2;rw[bD];congr 1;refine b9 λi f=>?_;have:=(hc i (bM _)<|c5.mp f).2;have lt:g i<rs.length:=()
  show(rs.map Value.ref).getD (g i) .none=Value.ref (rs.getD (g i) 0);rw[aJ,aV,aF lt,aJ,aF lt];rfl
end
end L2
namespace Am
open PySem
inductive A where
 | unb|non|bl (b:Bool)|int (i:Int)|str (x:Str)|tup (xs:List A)|frz (xs:List A)|rng (lo hi:Int)|ref (n:Nat)|exn (c:Str)|ty (n:String)|ktu (xs:List A)
@[reducible]def ae:=List A
inductive O where
 | lst (xs:ae)|dct (kvs:List<|ag×A)|qG (kvs:List<|Int×A)|dks (kvs:List<|Str×A)|vK (kvs:List<|L2.m9×A)|dcf (kvs:List<|ag×A)|ins (c:Str) (fs:List<|Str×A)
meta abbrev jF:=List O
inductive R (α:Type) where
 | ok (a:α) (S:jF)|ex (c:Str) (S:jF)|no
abbrev R.bind {α β:Type}(r:R α)(f:α->jF->R β):R β:=match r with
 | .ok a S=>f a S
 | .ex c S=>.ex c S
 | .no=>.no
abbrev R.post {α:Type}(r:R α)(P:α->jF->Prop)(E:Str->jF->Prop):Prop:=match r with
 | .ok a S=>P a S
 | .ex c S=>E c S
 | .no=>False
def jQ{α β:Type}{r:R α}{f:α->jF->R β}{P:β->jF->Prop}{E:Str->jF->Prop}(h:(r.bind f).post P E):r.post (λa S=>(f a S).post P E) E:=by
 cases r<;>exact h
def xJ{α:Type}{r:R α}{P P':α->jF->Prop}{E E':Str->jF->Prop}(h:r.post P E)(hp:∀a S,P a S->P' a S)(he:∀c S,E c S->E' c S):r.post P' E':=by
 cases r with
 | ok a S=>exact hp _ _ h
 | ex c S=>exact he _ _ h
 | no=>exact h.elim
abbrev gd {α:Type}(c:Prop)[Decidable c](r:R α):R α:=if c then r else .no
abbrev opt {α β:Type}(o:Option β)(f:β->R α):R α:=match o with
 | some b=>f b
 | none=>.no
def j5{α:Type}{c:Prop}[Decidable c]{r:R α}{P:α->jF->Prop}{E:Str->jF->Prop}(h:(gd c r).post P E):c/\r.post P E:=by
 unfold gd at h;by_cases hc:c
 ·rw[aS hc]at h;exact⟨hc,h⟩
 ·rw[aQ hc]at h;exact h.elim
def jP{α β:Type}{o:Option β}{f:β->R α}{P:α->jF->Prop}{E:Str->jF->Prop}(h:(opt o f).post P E):∃b,o=some b/\(f b).post P E:=by
 cases o with
 | none=>exact h.elim
 | some b=>exact⟨b,rfl,h⟩
def NG{α:Type}{c:Prop}[Decidable c]{r:R α}(h:c):gd c r=r:=aS h
abbrev jE (S:jF)(n:Nat):Option (ae):=match S[n]? with
 | some (.lst xs)=>some xs
 | _=>none
def jS{n:Nat}(h:jE S n=some xs):S[n]?=some (.lst xs):=by
 unfold jE at h;split at h
 ·rename_i e;cases h;exact e
 ·cases h
def sV{S:jF}{n:Nat}(h:S[n]?=some (.lst xs)):jE S n=some xs:=by
 unfold jE;rw[h]
inductive RS where
 | nx (τ:ae) (S:jF)|rt (a:A) (S:jF)|bk (τ:ae) (S:jF)|ct (τ:ae) (S:jF)|ex (c:Str) (S:jF)|no
meta abbrev Ex:=ae->jF->R A
meta abbrev qC:=ae->jF->R (ae)
meta abbrev Te:=ae->jF->R Bool
meta abbrev Sm:=ae->jF->RS
meta abbrev Tg:=A->ae->jF->R (ae)
end Am
namespace Am
open PySem L2
section
variable (K:au) (ρ:bb) (H:Hp)
abbrev Gg (K:au)(c:Str)(C:ak):Prop:=PySem.W.nsIn K mainGlobals c=some (some<|.ref C)
abbrev Fz (K:au)(H:Hp)(a:ak)(vs:List V):Prop:=
 (∃o,H a=some (.frz o<|.lst vs))\/∃(o:Obj) (c:Array af) (n:Nat),K.lookup a=some o/\o.cls=.type "list" /\ o.dict=none/\o.data=.seq c n/\c.size<=sizeLine/\Vals vs c.toList
abbrev KTp (K:au)(a:ak)(vs:List V):Prop:=∃(o:Obj) (c:Array af) (n:Nat),K.lookup a=some o/\o.cls=.type "tuple" /\ o.dict=none/\o.data=.seq c n/\c.size<=sizeLine/\Vals vs c.toList
mutual
inductive AV:A->V->Prop
 | non:AV .non .non
 | bl (b:Bool):AV (.bl b) (.bl b)
 | int (i:Int):AV (.int i) (.int i)
 | str (x:Str):AV (.str x) (.str x)
 | ty (n:String):AV (.ty n) (.ty n)
 | tup {a:ak} {xs:ae} {vs:List V} (h:H a=some (.tup vs)) (r:AVs xs vs):AV (.tup xs) (.ref a)
 | frz {a:ak} {xs:ae} {vs:List V} (h:Fz K H a vs) (r:AVs xs vs):AV (.frz xs) (.ref a)
 | rng {a:ak} {lo hi:Int} (h:H a=some (.rng lo hi)):AV (.rng lo hi) (.ref a)
 | ref {a:ak} {n:Nat} (h:ρ[n]?=some a):AV (.ref n) (.ref a)
 | exn {a C:ak} {c:Str} {oe:Obj} (n:Gg K c C) (h:H a=some (.frz oe xu)) (x:XO C oe):AV (.exn c) (.ref a)
 | ktu {a:ak} {xs:ae} {vs:List V} (h:KTp K a vs) (r:AVs xs vs):AV (.ktu xs)<|.ref a
inductive AVs:ae->List V->Prop
 | nil:AVs [] []
 | cons {x:A} {v:V} {xs:ae} {vs:List V} (h:AV x v) (t:AVs xs vs):AVs (x::xs) (v::vs)
end
abbrev DV:List (ag×A)->List (List Key×V)->Prop
 | [],[]=>True
 | p::r,q::r'=>(q.1=p.1.map Sum.inl/\AV K ρ H p.2 q.2)/\DV r r'
 | _,_=>False
abbrev DI:List (Int×A)->List (Key×V)->Prop
 | [],[]=>True
 | p::r,q::r'=>(q.1=Sum.inl p.1/\AV K ρ H p.2 q.2)/\DI r r'
 | _,_=>False
abbrev DS:List (Str×A)->List (Key×V)->Prop
 | [],[]=>True
 | p::r,q::r'=>(q.1=Sum.inr p.1/\AV K ρ H p.2 q.2)/\DS r r'
 | _,_=>False
abbrev DP:List (L2.m9×A)->List (L2.m9×ak×af)->Prop
 | [],[]=>True
 | p::r,q::r'=>(q.1=p.1/\L2.sQ H q.2.1 q.1/\∃v,RelV v q.2.2/\AV K ρ H p.2 v)/\DP r r'
 | _,_=>False
abbrev OR (a:ak):O->Prop
 | .lst xs=>∃vs,H a=some (.lst vs)/\AVs K ρ H xs vs
 | .dct c=>∃ks,H a=some (.dT ks)/\DV K ρ H c ks
 | .qG c=>∃ks,H a=some (.dK ks)/\DI K ρ H c ks
 | .dks c=>∃ks,H a=some (.dK ks)/\DS K ρ H c ks
 | .vK c=>∃xs,H a=some (.ext<|L2.uB a xs)/\DP K ρ H c xs
 | .dcf c=>∃o ks,H a=some (.frz o<|.dT ks)/\DV K ρ H c ks
 | .ins _ _=>∃o u,H a=some (.frz o u)
structure Rel (S:jF):Prop where
 len:ρ.length=S.length
 nd:ρ.Nodup
 «at»:∀(n:Nat) (a:ak) (o:O),ρ[n]?=some a->S[n]?=some o->OR K ρ H a o
end
abbrev Imm:HO->Prop
 | .tup _=>True
 | .rng _ _=>True
 | .frz _ _=>True
 | _=>False
structure Ext0 (ρ ρ':bb)(H H':Hp):Prop where
 pre:ρ <+: ρ'
 im:∀a u,Imm u->H a=some u->H' a=some u
structure Ext (ρ ρ':bb)(H H':Hp):Prop extends Ext0 ρ ρ' H H' where
 fr:∀a u,H a=some u->a∉ρ->H' a=some u
 nw:∀a,a∈ρ'->a∈ρ\/H a=none
def Ext.refl{H:Hp}:Ext ρ ρ H H:=⟨⟨dP _,λ_ _ _ h=>h⟩,λ_ _ h _=>h,λ_ h=>.inl h⟩
def Ext.trans{H H1 H2:Hp}(a:Ext ρ ρ1 H H1)(b:Ext ρ1 ρ2 H1 H2):Ext ρ ρ2 H H2:=⟨⟨a.pre.trans b.pre,λx u i h=>b.im x u i<|a.im x u i h⟩,λx u h n=>b.fr x u (a.fr x u h n) λz=>(a.nw x z).elim n λz=>by(rw[z]at h;cases h),λx h=>by
 by_cases c:x∈ρ
 ·exact .inl c
 ·right
  cases q:H x with
  | none=>rfl
  | some u=>
   rcases b.nw x h with z|z
   ·exact((a.nw x z).elim c λz=>by(rw[z]at q;cases q)).elim
   ·rw[a.fr x u q c]at z;cases z⟩
def Ext0.get{H H':Hp}(e:Ext0 ρ ρ' H H'){n:Nat}{a:ak}(h:ρ[n]?=some a):ρ'[n]?=some a:=by
 obtain⟨t,rfl⟩:=e.pre;rw[bB (aI.mp h).1];exact h
section
variable {K:au}{ρ ρ':bb}{H H':Hp}
def Ext0.sqT(e:Ext0 ρ ρ' H H'){a:ak}(h:ow K H a vs):ow K H' a vs:=by
 rcases h with(h|⟨o,h⟩)|h
 ·exact .inl (.inl<|e.im _ _ trivial h)
 ·exact .inl (.inr ⟨o,e.im _ _ trivial h⟩)
 ·exact .inr h
def Ext0.fz(e:Ext0 ρ ρ' H H'){a:ak}(h:Fz K H a vs):Fz K H' a vs:=by
 rcases h with⟨o,h⟩|h
 ·exact .inl ⟨o,e.im _ _ trivial h⟩
 ·exact .inr h
def Fz.SK{a:ak}(h:Fz K H a vs):pS K H a vs:=by
 rcases h with⟨o,h⟩|h
 ·exact .inl (.inr ⟨o,h⟩)
 ·exact .inr h
mutual
theorem AV.mJ(e:Ext0 ρ ρ' H H'):∀{x:A}{v:V},AV K ρ H x v->AV K ρ' H' x v
 | _,_,.non=>.non
 | _,_,.bl b=>.bl b
 | _,_,.int i=>.int i
 | _,_,.str x=>.str x
 | _,_,.ty x=>.ty x
 | _,_,.tup h r=>.tup (e.im _ _ trivial h) (AVs.mJ e r)
 | _,_,.frz h r=>.frz (e.fz h) (AVs.mJ e r)
 | _,_,.rng h=>.rng (e.im _ _ trivial h)
 | _,_,.ref h=>.ref (e.get h)
 | _,_,.exn n h x=>.exn n (e.im _ _ trivial h) x
 | _,_,.ktu h r=>.ktu h<|AVs.mJ e r
theorem AVs.mJ(e:Ext0 ρ ρ' H H'):∀{xs:ae}{vs:List V},AVs K ρ H xs vs->AVs K ρ' H' xs vs
 | _,_,.nil=>.nil
 | _,_,.cons h t=>.cons (AV.mJ e h)<|AVs.mJ e t
end
theorem DV.mJ(e:Ext0 ρ ρ' H H'):∀{xs:List<|ag×A}{vs:List<|List Key×V},DV K ρ H xs vs->DV K ρ' H' xs vs
 | [],[],_=>trivial
 | _::_,_::_,⟨⟨a,b⟩,r⟩=>⟨⟨a,AV.mJ e b⟩,DV.mJ e r⟩
def DV.ext{x:List<|ag×A}{v:List<|List Key×V}(h:DV K ρ H x v)(e:Ext ρ ρ' H H'):DV K ρ' H' x v:=DV.mJ e.toExt0 h
theorem DI.mJ(e:Ext0 ρ ρ' H H'):∀{xs:List<|Int×A}{vs:List<|Key×V},DI K ρ H xs vs->DI K ρ' H' xs vs
 | [],[],_=>trivial
 | _::_,_::_,⟨⟨a,b⟩,r⟩=>⟨⟨a,AV.mJ e b⟩,DI.mJ e r⟩
def DI.ext{x:List<|Int×A}{v:List<|Key×V}(h:DI K ρ H x v)(e:Ext ρ ρ' H H'):DI K ρ' H' x v:=DI.mJ e.toExt0 h
theorem DS.mJ(e:Ext0 ρ ρ' H H'):∀{xs:List<|Str×A}{vs:List<|Key×V},DS K ρ H xs vs->DS K ρ' H' xs vs
 | [],[],_=>trivial
 | _::_,_::_,⟨⟨a,b⟩,r⟩=>⟨⟨a,AV.mJ e b⟩,DS.mJ e r⟩
def DS.ext{x:List<|Str×A}{v:List<|Key×V}(h:DS K ρ H x v)(e:Ext ρ ρ' H H'):DS K ρ' H' x v:=DS.mJ e.toExt0 h
def sQ.mJ{k:L2.m9}(e:Ext0 ρ ρ' H H'):L2.sQ H b k->L2.sQ H' b k:=λ⟨r1,r2,h1,h2,h3⟩=>⟨r1,r2,e.im _ _ trivial h1,e.im _ _ trivial h2,e.im _ _ trivial h3⟩
theorem DP.mJ(e:Ext0 ρ ρ' H H'):∀{xs:List<|L2.m9×A}{vs:List<|L2.m9×ak×af},DP K ρ H xs vs->DP K ρ' H' xs vs
 | [],[],_=>trivial
 | _::_,_::_,⟨⟨a,k,v,c,b⟩,r⟩=>⟨⟨a,sQ.mJ e k,v,c,AV.mJ e b⟩,DP.mJ e r⟩
def DP.ext{x:List<|L2.m9×A}{v:List<|L2.m9×ak×af}(h:DP K ρ H x v)(e:Ext ρ ρ' H H'):DP K ρ' H' x v:=DP.mJ e.toExt0 h
def AV.ext{x:A}{v:V}(h:AV K ρ H x v)(e:Ext ρ ρ' H H'):AV K ρ' H' x v:=AV.mJ e.toExt0 h
def AVs.ext{x:ae}{v:List V}(h:AVs K ρ H x v)(e:Ext ρ ρ' H H'):AVs K ρ' H' x v:=AVs.mJ e.toExt0 h
theorem AVs.length:∀{xs:ae}{vs:List V},AVs K ρ H xs vs->xs.length=vs.length
 | _,_,.nil=>rfl
 | _,_,.cons _ t=>c7 (·+1)<|AVs.length t
theorem AVs.append:∀{xs ys:ae}{vs ws:List V},AVs K ρ H xs vs->AVs K ρ H ys ws->AVs K ρ H (xs++ys) (vs++ws)
 | _,_,_,_,.nil,s=>s
 | _,_,_,_,.cons h t,s=>.cons h<|AVs.append t s
theorem AVs.get:∀{xs:ae}{vs:List V}{i:Nat}{x:A},AVs K ρ H xs vs->xs[i]?=some x->∃v,vs[i]?=some v/\AV K ρ H x v
 | _,_,_,_,.nil,e=>by simp at e
 | _,_,0,_,.cons h _,e=>by simp at e;subst e;exact⟨_,rfl,h⟩
 | _,_,i+1,x,.cons _ t,e=>by
  obtain⟨u,h1,h2⟩:=AVs.get (i:=i) (x:=x) t (by simpa using e);exact⟨u,by simpa using h1,h2⟩
theorem AVs.set{x:A}{v:V}(h:AV K ρ H x v):∀{xs:ae}{vs:List V}(i:Nat),AVs K ρ H xs vs->AVs K ρ H (xs.set i x) (vs.set i v)
 | _,_,_,.nil=>.nil
 | _,_,0,.cons _ t=>.cons h t
 | _,_,i+1,.cons q t=>.cons q<|AVs.set h i t
def AVs.one{x:A}{v:V}(h:AV K ρ H x v):AVs K ρ H [x] [v]:=.cons h .nil
theorem AVs.eraseIdx:∀{xs:ae}{vs:List V}(i:Nat),AVs K ρ H xs vs->AVs K ρ H (xs.eraseIdx i) (vs.eraseIdx i)
 | _,_,_,.nil=>.nil
 | _,_,0,.cons _ t=>t
 | _,_,i+1,.cons q t=>.cons q<|AVs.eraseIdx i t
theorem qS:∀(ns:ag),AVs K ρ H (ns.map .int) (ns.map .int)
 | []=>.nil
 | n::ns=>.cons (.int n)<|qS ns
def Rel.lay{S:jF}{p:ak}(R:Rel K ρ H S)(hp:H p=none)(r:AVs K ρ H xs vs):Ext ρ (ρ++[p]) H (upd H p<|.lst vs)/\Rel K (ρ++[p]) (upd H p<|.lst vs) (S++[.lst xs])/\(ρ++[p])[S.length]?=some p:=by
 have ex:Ext ρ (ρ++[p]) H (upd H p<|.lst vs):=⟨⟨dU _ _,λa u _ h=>by rw[jL<|jT h hp];exact h⟩,λa u h _=>by rw[jL<|jT h hp];exact h,λa h=>by
  rcases bE.mp h with z|z
  ·exact .inl z
  ·have e:a=p:=by simpa using z
   rw[e];exact .inr hp⟩
 have np:∀(n:Nat) (a:ak),ρ[n]?=some a->a≠p:=by
  intro n a e z;subst z;have hn:n<S.length:=by rw[<- R.len];exact(aI.mp e).1
  have:=R.at n a S[n] e (aF hn)
  cases f:S[n]with
  | lst xs=>rw[f]at this;obtain⟨vs,h,_⟩:=this;rw[hp]at h;cases h
  | dct _|qG _|dks _|vK _=>rw[f]at this;obtain⟨vs,h,_⟩:=this;rw[hp]at h;cases h
  | dcf _=>rw[f]at this;obtain⟨_,vs,h,_⟩:=this;rw[hp]at h;cases h
  | ins _ _=>rw[f]at this;obtain⟨_,_,h⟩:=this;rw[hp]at h;cases h
 have c:(ρ++[p])[S.length]?=some p:=by rw[<- R.len];simp
 refine⟨ex,⟨by simp[R.len],?_,?_⟩,c⟩
 ·rw[cI];refine⟨R.nd,by simp,λa k b j e=>?_⟩;have:b=p:=by simpa using j
  obtain⟨n,hn,t⟩:=fP.mp k;exact np n a (by rw[aF hn,t])<|e.trans this
 ·intro n a o h1 h2;by_cases hn:n<S.length
  ·rw[bB<|by rw[R.len];exact hn]at h1;rw[bB hn]at h2;have:=R.at n a o h1 h2
   cases o with
   | lst ys=>obtain⟨d,e,q⟩:=this;exact⟨d,by rw[jL<|np n a h1];exact e,q.ext ex⟩
   | dct _|qG _|dks _|vK _=>obtain⟨d,e,q⟩:=this;exact⟨d,by rw[jL<|np n a h1];exact e,q.ext ex⟩
   | dcf _=>obtain⟨g,d,e,q⟩:=this;exact⟨g,d,by rw[jL<|np n a h1];exact e,q.ext ex⟩
   | ins _ _=>obtain⟨g,m,e⟩:=this;exact⟨g,m,by rw[jL<|np n a h1];exact e⟩
  ·have e:n=S.length:=by
    have:=(aI.mp h2).1;simp at this
    lia
   subst e;rw[c]at h1
   cases h1
   simp at h2;subst h2;exact⟨vs,ko,r.ext ex⟩
def Rel.im{p:ak}(R:Rel K ρ H S)(hp:H p=none):Ext ρ ρ H (upd H p u)/\Rel K ρ (upd H p u) S:=by
 have ex:Ext ρ ρ H (upd H p u):=⟨⟨dP _,λa u _ h=>by rw[jL<|jT h hp];exact h⟩,λa u h _=>by rw[jL<|jT h hp];exact h,λ_ h=>.inl h⟩;refine⟨ex,R.len,R.nd,λn a o h1 h2=>?_⟩;have:=R.at n a o h1 h2
 cases o with
 | lst ys=>obtain⟨c,e,q⟩:=this;exact⟨c,by rw[jL<|jT e hp];exact e,q.ext ex⟩
 | dct _|qG _|dks _|vK _=>obtain⟨c,e,q⟩:=this;exact⟨c,by rw[jL<|jT e hp];exact e,q.ext ex⟩
 | dcf _=>obtain⟨d,c,e,q⟩:=this;exact⟨d,c,by rw[jL<|jT e hp];exact e,q.ext ex⟩
 | ins _ _=>obtain⟨d,f,e⟩:=this;exact⟨d,f,by rw[jL<|jT e hp];exact e⟩
def Rel.put{S:jF}{n:Nat}{a:ak}(R:Rel K ρ H S)(ha:ρ[n]?=some a)(hS:S[n]?=some (.lst xs))(r:AVs K ρ H ys ws):Ext ρ ρ H (upd H a<|.lst ws)/\Rel K ρ (upd H a<|.lst ws) (S.set n<|.lst ys):=by
 obtain⟨vs,e,_⟩:=R.at n a _ ha hS;have ex:Ext ρ ρ H (upd H a<|.lst ws):=⟨⟨dP _,λb u i h=>by
  have:b≠a:=by
   intro z;subst z;rw[e]at h;cases h;exact i
  rw[jL this];exact h⟩,λb u h n=>by
  rw[jL λz=>n<|by rw[z];exact bq ha];exact h,λ_ h=>.inl h⟩
 refine⟨ex,by rw[cu];exact R.len,R.nd,λm b o h1 h2=>?_⟩;by_cases f:m=n
 ·subst f;rw[ha]at h1;cases h1;rw[bJ (aI.mp hS).1]at h2
  cases h2
  exact⟨ws,ko,r.ext ex⟩
 ·rw[bO<|cK f]at h2;have nb:b≠a:=λz=>by
   subst z;obtain⟨k,e1⟩:=aI.mp ha;obtain⟨p,e2⟩:=aI.mp h1;exact f<|(dw R.nd).mp<|e2.trans e1.symm
  have:=R.at m b o h1 h2
  cases o with
  | lst ys=>obtain⟨c,d,q⟩:=this;exact⟨c,by rw[jL nb];exact d,q.ext ex⟩
  | dct _|qG _|dks _|vK _=>obtain⟨c,d,q⟩:=this;exact⟨c,by rw[jL nb];exact d,q.ext ex⟩
  | dcf _=>obtain⟨g,c,d,q⟩:=this;exact⟨g,c,by rw[jL nb];exact d,q.ext ex⟩
  | ins _ _=>obtain⟨g,j,d⟩:=this;exact⟨g,j,by rw[jL nb];exact d⟩
def Rel.lst{n:Nat}{a:ak}(R:Rel K ρ H S)(ha:ρ[n]?=some a)(hS:S[n]?=some (.lst xs)):∃vs,H a=some (.lst vs)/\AVs K ρ H xs vs:=R.at n a _ ha hS
structure SR (K:au)(ρ:bb)(H:Hp)(τ:ae)(σ:St):Prop where
 len:τ.length=σ.length
 «at»:∀(i:Nat) (a:A),τ[i]?=some a->a=.unb\/∃v,σ[i]?=some (some v)/\AV K ρ H a v
def SR.mJ(s:SR K ρ H τ σ)(e:Ext0 ρ ρ' H H'):SR K ρ' H' τ σ:=⟨s.len,λi a h=>by
 rcases s.at i a h with z|⟨v,h1,h2⟩
 ·exact .inl z
 ·exact .inr ⟨v,h1,AV.mJ e h2⟩⟩
def SR.ext(s:SR K ρ H τ σ)(e:Ext ρ ρ' H H'):SR K ρ' H' τ σ:=s.mJ e.toExt0
def Rel.out{D:ak}(R:Rel K ρ H S)(hD:H D=some (.lst vs))(hn:D∉ρ):Ext0 ρ ρ H (upd H D<|.lst ws)/\Rel K ρ (upd H D<|.lst ws) S:=by
 have ex:Ext0 ρ ρ H (upd H D<|.lst ws):=⟨dP _,λb u i h=>by
  have:b≠D:=by
   intro z;subst z;rw[hD]at h;cases h;exact i
  rw[jL this];exact h⟩
 refine⟨ex,R.len,R.nd,λn a o h1 h2=>?_⟩;have na:a≠D:=λz=>hn (by rw[<- z];exact bq h1);have:=R.at n a o h1 h2
 cases o with
 | lst ys=>obtain⟨c,e,q⟩:=this;exact⟨c,by rw[jL na];exact e,AVs.mJ ex q⟩
 | dct _|qG _|dks _|vK _=>obtain⟨c,e,q⟩:=this;exact⟨c,by rw[jL na];exact e,q.mJ ex⟩
 | dcf _=>obtain⟨d,c,e,q⟩:=this;exact⟨d,c,by rw[jL na];exact e,q.mJ ex⟩
 | ins _ _=>obtain⟨d,f,e⟩:=this;exact⟨d,f,by rw[jL na];exact e⟩
def Rel.take{S:jF}{D:ak}(R:Rel K ρ H S)(hD:H D=some (.lst vs))(hn:D∉ρ)(r:AVs K ρ H xs vs):Rel K (ρ++[D]) H (S++[.lst xs])/\(ρ++[D])[S.length]?=some D:=by
 have ex:Ext0 ρ (ρ++[D]) H H:=⟨dU _ _,λ_ _ _ h=>h⟩;have c:(ρ++[D])[S.length]?=some D:=by rw[<- R.len];simp
 refine⟨⟨by simp[R.len],?_,λn a o h1 h2=>?_⟩,c⟩
 ·rw[cI];refine⟨R.nd,by simp,λa j b g e=>?_⟩;have:b=D:=by simpa using g
  exact hn<|by rw[<- this,<- e];exact j
 ·by_cases hs:n<S.length
  ·rw[bB<|by rw[R.len];exact hs]at h1;rw[bB hs]at h2;have:=R.at n a o h1 h2
   cases o with
   | lst ys=>obtain⟨d,e,q⟩:=this;exact⟨d,e,AVs.mJ ex q⟩
   | dct _|qG _|dks _|vK _=>obtain⟨d,e,q⟩:=this;exact⟨d,e,q.mJ ex⟩
   | dcf _=>obtain⟨f,d,e,q⟩:=this;exact⟨f,d,e,q.mJ ex⟩
   | ins _ _=>obtain⟨f,k,e⟩:=this;exact⟨f,k,e⟩
  ·have e:n=S.length:=by
    have:=(aI.mp h2).1;simp at this
    lia
   subst e;rw[c]at h1
   cases h1
   simp at h2;subst h2;exact⟨vs,hD,AVs.mJ ex r⟩
def SR.set{τ:ae}{σ:St}{a:A}{v:V}(s:SR K ρ H τ σ)(h:AV K ρ H a v):SR K ρ H (τ.set i a) (σ.set i<|some v):=by
 refine⟨by simp[s.len],λj b e=>?_⟩;by_cases c:j=i
 ·subst c;have d:j<τ.length:=by
   have:=(aI.mp e).1;simpa using this
  rw[bJ d]at e
  cases e
  exact .inr ⟨v,bJ<|by rw[<- s.len];exact d,h⟩
 ·rw[bO<|cK c]at e;rw[bO<|cK c];exact s.at j b e
end
end Am
namespace Am
open PySem PySem.Spec PyProof.Rows L2
abbrev XE (X:Cx)(ρ:bb)(H:Hp):Str->jF->Prop:=λc d=>∀(C:ak) (ρ':bb) (H':Hp),Gg X.K c C->Ext ρ ρ' H H'->Rel X.K ρ' H' d->EX X (.ref C) none H'
def XE.ext{X:Cx}{H H':Hp}{c:Str}(h:XE X ρ H c S)(e:Ext ρ ρ' H H'):XE X ρ' H' c S:=λC ρ2 H2 n e2=>h C ρ2 H2 n<|e.trans e2
abbrev z0 (X:Cx)(ρ:bb)(H:Hp)(Q:VK):A->jF->Prop:=λa c=>∀ρ' H' v,Ext ρ ρ' H H'->Rel X.K ρ' H' c->AV X.K ρ' H' a v->Q v H'
abbrev okB (X:Cx)(ρ:bb)(H:Hp)(Q:Bool->Hp->Prop):Bool->jF->Prop:=λb c=>∀ρ' H',Ext ρ ρ' H H'->Rel X.K ρ' H' c->Q b H'
abbrev okL (X:Cx)(ρ:bb)(H:Hp)(Q:List V->Hp->Prop):ae->jF->Prop:=λas c=>∀ρ' H' vs,Ext ρ ρ' H H'->Rel X.K ρ' H' c->AVs X.K ρ' H' as vs->Q vs H'
def z0.ext{X:Cx}{H H':Hp}{Q:VK}{a:A}(h:z0 X ρ H Q a S)(e:Ext ρ ρ' H H'):z0 X ρ' H' Q a S:=λρ2 H2 v e2=>h ρ2 H2 v<|e.trans e2
def okB.ext{X:Cx}{H H':Hp}{Q:Bool->Hp->Prop}{a:Bool}(h:okB X ρ H Q a S)(e:Ext ρ ρ' H H'):okB X ρ' H' Q a S:=λρ2 H2 e2=>h ρ2 H2<|e.trans e2
def jJ{α:Type}{X:Cx}{H H':Hp}{r:R α}{P P':α->jF->Prop}(h:r.post P<|XE X ρ H)(e:Ext ρ ρ' H H')(hp:∀a S,P a S->P' a S):r.post P' (XE X ρ' H'):=xJ h hp λ_ _ z=>z.ext e
abbrev tE (X:Cx)(c:Ex):TE:=λσ H Q=>∃ρ S τ,Rel X.K ρ H S/\SR X.K ρ H τ σ/\(c τ S).post (z0 X ρ H Q) (XE X ρ H)
abbrev tT (X:Cx)(c:Te):TT:=λσ H Q=>∃ρ S τ,Rel X.K ρ H S/\SR X.K ρ H τ σ/\(c τ S).post (okB X ρ H Q) (XE X ρ H)
abbrev tL (X:Cx)(c:qC):TA:=λσ H Q=>∃ρ S τ,Rel X.K ρ H S/\SR X.K ρ H τ σ/\(c τ S).post (okL X ρ H Q) (XE X ρ H)
abbrev AE (X:Cx)(e:aC)(c:Ex):Prop:=PE X e<|tE X c
abbrev AT (X:Cx)(e:aC)(c:Te):Prop:=PT X e<|tT X c
abbrev AW (X:Cx)(e:aC)(c:Te):Prop:=PW X e<|tT X c
abbrev AL (X:Cx)(es:List aC)(c:qC):Prop:=PA X es<|tL X c
def PE.imp{X:Cx}{e:aC}{t t':TE}(h:PE X e t)(i:∀σ H Q,t' σ H Q->t σ H Q):PE X e t':=λpins s σ H Q I q=>h pins s σ H Q I<|i σ H Q q
def PT.imp{X:Cx}{e:aC}{t t':TT}(h:PT X e t)(i:∀σ H Q,t' σ H Q->t σ H Q):PT X e t':=λpins s σ H Q I q=>h pins s σ H Q I<|i σ H Q q
def PW.imp{X:Cx}{e:aC}{t t':TT}(h:PW X e t)(i:∀σ H Q,t' σ H Q->t σ H Q):PW X e t':=λw pins s σ H Q I q=>h w pins s σ H Q I<|i σ H Q q
def PA.imp{X:Cx}{e:List aC}{t t':TA}(h:PA X e t)(i:∀σ H Q,t' σ H Q->t σ H Q):PA X e t':=λp pins s σ H Q I q=>h p pins s σ H Q I<|i σ H Q q
def AW.at{X:Cx}{e:aC}{c:Te}(h:AW X e c):AT X e c:=h _
abbrev A.o8:A->Bool
 | .unb=>true
 | _=>false
abbrev jB (i:Nat):Ex:=λτ S=>if (τ.getD i .unb).o8 then .no else .ok (τ.getD i .unb) S
abbrev eC (a:A):Ex:=λ_ S=>.ok a S
section
variable {X:Cx}{pos:Pos}{a b:aC}
def jA(i:Nat){x:Str}(hN:X.N[i]?=some x<|>ε)(hv:Vis X.env.scope x:=by first|exact Or.inl rfl|exact Or.inr (Or.inl rfl)|exact Or.inr<|Or.inr rfl)(hd:(x == ("__debug__" : Str))=false:=by decide)
  (hcd:(x == ("__classdict__" : Str))=false:=by decide):AE X (.Name x pos) (jB i):=PE.imp (YJ hN hv hd hcd) λσ H Q h9=>by
 z_go;unfold jB at h
 cases c:τ[i]? with
 | none=>
  rw[aJ,c]at h;exact h.elim
 | some x=>
  rw[aJ,c]at h
  rcases r.at i x c with z|⟨v,e,q⟩
  ·subst z;exact h.elim
  ·refine⟨v,e,?_⟩
   cases x<;>first|(exact h ρ H v .refl R q)|exact h.elim
def jO{i:Int}{j pos}:AE X (.Constant (.int i) j pos) (eC<|.int i):=PE.imp YN λσ H Q ⟨ρ,S,τ,R,r,h⟩=>h ρ H _ .refl R<|.int i
def VR{j pos}:AE X (.Constant (.bool i) j pos) (eC<|.bl i):=PE.imp ZV λσ H Q ⟨ρ,S,τ,R,r,h⟩=>h ρ H _ .refl R<|.bl i
def NF{j pos}:AE X (.Constant .none j pos) (eC .non):=PE.imp Wn λσ H Q ⟨ρ,S,τ,R,r,h⟩=>h ρ H _ .refl R .non
def sf{x:Str}{j pos}:AE X (.Constant (.str x) j pos) (eC<|.str x):=PE.imp NP λσ H Q ⟨ρ,S,τ,R,r,h⟩=>h ρ H _ .refl R<|.str x
abbrev jI (f:A->A->jF->R A)(ca cb:Ex):Ex:=λτ S=>(ca τ S).bind λa S1=>(cb τ S1).bind λb S2=>f a b S2
abbrev r2 (X:Cx)(f:A->A->jF->R A):R2:=λx y H Q=>∃ρ S a b,Rel X.K ρ H S/\AV X.K ρ H a x/\AV X.K ρ H b y/\(f a b S).post (z0 X ρ H Q) (XE X ρ H)
abbrev r1 (X:Cx)(f:A->jF->R A):V->Hp->VK->Prop:=λx H Q=>∃ρ S a,Rel X.K ρ H S/\AV X.K ρ H a x/\(f a S).post (z0 X ρ H Q) (XE X ρ H)
abbrev rN (X:Cx)(f:ae->jF->R A):List V->Hp->VK->Prop:=λxs H Q=>∃ρ S as,Rel X.K ρ H S/\AVs X.K ρ H as xs/\(f as S).post (z0 X ρ H Q) (XE X ρ H)
def pK.imp{f:af->af->Sem af}{r r':R2}(h:pK X f r)(i:∀x y H Q,r' x y H Q->r x y H Q):pK X f r':=λpins s σ H x y v u Q I rx ry q=>h pins s σ H x y v u Q I rx ry<|i _ _ _ _ q
def kO.imp{f:af}{r r':List V->Hp->VK->Prop}(h:kO X f r)(i:∀x H Q,r' x H Q->r x H Q):kO X f r':=λpins s σ H x v Q I rx q=>h pins s σ H x v Q I rx<|i _ _ _ q
def vf{f:A->A->jF->R A}{ca cb:Ex}{H:Hp}{Q:VK}(h:tE X (jI f ca cb) σ H Q):ZR (r2 X f) (tE X ca) (tE X cb) σ H Q:=by
 o_rec;refine⟨ρ,S,τ,R,r,jJ (jQ h) .refl λa S1 h1 ρ1 H1 x e1 R1 v1=>⟨ρ1,S1,τ,R1,r.ext e1,jJ (jQ h1) e1 λb S2 h2 ρ2 H2 y e2 R2 v2=>?_⟩⟩;exact⟨ρ2,S2,a,b,R2,v1.ext e2,v2,jJ h2 (e1.trans e2) λc S3 h3=>h3.ext<|e1.trans e2⟩
def ki{f:A->A->jF->R A}{ca cb:Ex}(ho:pK X (binaryOp op)<|r2 X f)(ha:AE X a ca)(hb:AE X b cb):AE X (.BinOp a op b pos) (jI f ca cb):=
 PE.imp (Zk ho ha hb) λσ H Q h=>vf h
def C_{op:CmpOp}{f:A->A->jF->R A}{ca cb:Ex}(ho:pK X (compareOp op)<|r2 X f)(ha:AE X a ca)(hb:AE X b cb)(hm:behindInMarks op b=false:=by first|exact NQ _|with_unfolding_all rfl):AE X (.Compare a [op] [b] pos) (jI f ca cb):=
 PE.imp (Tr ho ha hb hm) λσ H Q h=>vf h
abbrev A.W4:A->jF->bi
 | .non,_=>some false
 | .bl b,_=>some b
 | .int i,_=>some (i != 0)
 | .str x,_=>if x.length<=sizeLine then some ((x.length:Int) != 0)else none
 | .tup xs,_=>some (!xs.isEmpty)
 | .frz xs,_=>some (!xs.isEmpty)
 | .ref n,S=>(jE S n).map λxs=>!xs.isEmpty
 | _,_=>none
abbrev ue (c:Ex):Te:=λτ S=>(c τ S).bind λa S1=>opt (a.W4 S1) λb=>.ok b S1
abbrev qQ (c:Ex):Te:=λτ S=>(c τ S).bind λa S1=>match a with
 | .bl b=>.ok b S1
 | _=>.no
def Fb{K:au}{H:Hp}{b:Bool}{v:V}(h:AV K ρ H (.bl b) v):v=.bl b:=by cases h;rfl
def kG{op:CmpOp}{f:A->A->jF->R A}{ca cb:Ex}(ho:pK X (compareOp op)<|r2 X f)(ha:AE X a ca)(hb:AE X b cb)(hm:behindInMarks op b=false:=by first|exact NQ _|with_unfolding_all rfl):AT X (.Compare a [op] [b] pos) (qQ<|jI f ca cb):=
 PT.imp (UG ho ha hb hm) λσ H Q h9=>by
  z_go;refine vf ⟨ρ,S,τ,R,r,jJ (jQ h) .refl λc S1 h1 ρ1 H1 x e1 R1 v1=>?_⟩
  cases c with
  | bl k=>cases Fb v1;exact⟨k,rfl,h1 ρ1 H1 e1 R1⟩
  | _=>exact h1.elim
def WH{K:au}{H:Hp}{x:A}{v:V}{b:Bool}(R:Rel K ρ H S)(h:AV K ρ H x v)(e:x.W4 S=some b):XC K v H b:=by
 have c:∀{xs:ae} {vs:List V},AVs K ρ H xs vs->(!xs.isEmpty)=!vs.isEmpty:=λr=>by cases r<;>rfl
 cases h with
 | non=>exact(aX e).symm
 | bl b=>exact(aX e).symm
 | int i=>exact(aX e).symm
 | str x=>
  by_cases d:x.length<=sizeLine
  ·exact⟨d,by have:=(aS d).symm.trans e;exact(aX this).symm⟩
  ·have:=(aQ d).symm.trans e;cases this
 | tup h r=>exact .inr (.inl ⟨_,ow.of h,by rw[<- c r];exact(aX e).symm⟩)
 | frz h r=>exact .inl ⟨_,h.SK,by rw[<- c r];exact(aX e).symm⟩
 | rng h=>cases e
 | ty n=>cases e
 | exn n h x=>cases e
 | ktu h r=>cases e
 | @ref a n h=>
  have e:(jE S n).map (λxs=>!xs.isEmpty)=some b:=e;obtain⟨xs,hn,e⟩:=aW.mp e;obtain⟨vs,h1,h2⟩:=R.lst h<|jS hn;exact .inl ⟨vs,pS.of h1,by rw[<- c h2];exact e.symm⟩
def qY{ca:Ex}(ha:AE X a ca)(he:(∀whole,isTrue a X.env whole=(do let v <- whole;standAt a.pos;holding [v] (truthy v)))<|>ζ):AT X a (ue ca):=
 PT.imp (QS ha he) λσ H Q ⟨ρ,S,τ,R,r,h⟩=>⟨ρ,S,τ,R,r,jJ (jQ h) .refl λc S1 h1 ρ1 H1 x e1 R1 v1=>by
  obtain⟨b,d,h1⟩:=jP h1;exact⟨b,WH R1 v1 d,h1 ρ1 H1 e1 R1⟩⟩
abbrev EZ (c:Te):Te:=λτ S=>(c τ S).bind λb S1=>.ok (!b) S1
abbrev LK (c d:Te):Te:=λτ S=>(c τ S).bind λb S1=>match b with|true=>d τ S1|false=>.ok false S1
abbrev Up (c d:Te):Te:=λτ S=>(c τ S).bind λb S1=>match b with|true=>.ok true S1|false=>d τ S1
def CJ{c:Te}(h:AT X a c):AT X (.UnaryOp .Not a pos) (EZ c):=PT.imp (Wr h) λσ H Q ⟨ρ,S,τ,R,r,h⟩=>⟨ρ,S,τ,R,r,jJ (jQ h) .refl λb S1 h1=>h1⟩
def and_imp{c d:Te}{H:Hp}{Q:Bool->Hp->Prop}(h:tT X (LK c d) σ H Q):ZZ (tT X c) (tT X d) σ H Q:=by
 o_rec;refine⟨ρ,S,τ,R,r,jJ (jQ h) .refl λb S1 h1 ρ1 H1 e1 R1=>?_⟩
 cases b with
 | true=>
  rw[aS rfl];kln_w
 | false=>
  rw[aQ bG];exact h1 ρ1 H1 e1 R1
def or_imp{c d:Te}{H:Hp}{Q:Bool->Hp->Prop}(h:tT X (Up c d) σ H Q):tOr (tT X c) (tT X d) σ H Q:=by
 o_rec;refine⟨ρ,S,τ,R,r,jJ (jQ h) .refl λb S1 h1 ρ1 H1 e1 R1=>?_⟩
 cases b with
 | false=>
  rw[aQ bG];kln_w
 | true=>
  rw[aS rfl];exact h1 ρ1 H1 e1 R1
variable {rest:List aC}
def DY{c:Te}(h:AT X a c):AW X (.BoolOp .And [a] pos) c:=RP h
def Hz{c:Te}(h:AT X a c):AW X (.BoolOp .Or [a] pos) c:=W9 h
def GK{c d:Te}(h:AT X a c)(h2:AW X (.BoolOp .And (b::rest) pos) d):AW X (.BoolOp .And (a::b::rest) pos) (LK c d):=PW.imp (Xz h h2) λ_ _ _ q=>and_imp q
def IE{c d:Te}(h:AT X a c)(h2:AW X (.BoolOp .Or (b::rest) pos) d):AW X (.BoolOp .Or (a::b::rest) pos) (Up c d):=PW.imp (Zn h h2) λ_ _ _ q=>or_imp q
abbrev D4 (c d:Ex):Ex:=λτ S=>(c τ S).bind λa S1=>match a with | .bl true=>d τ S1 | .bl false=>.ok (.bl false) S1|_=>.no
abbrev eOr (c d:Ex):Ex:=λτ S=>(c τ S).bind λa S1=>match a with | .bl true=>.ok (.bl true) S1 | .bl false=>d τ S1|_=>.no
abbrev Wa (c:Ex):Ex:=λτ S=>(c τ S).bind λa S1=>match a with | .bl b=>.ok (.bl !b) S1|_=>.no
def CH{op}{c:Ex}(h:AE X a c):AE X (.BoolOp op [a] pos) c:=Xx h
def CP{c d:Ex}(h:AE X a c)(h2:AE X (.BoolOp .And (b::rest) pos) d):AE X (.BoolOp .And (a::b::rest) pos) (D4 c d):=PE.imp (V3 h h2) λσ H Q h9=>by
 z_go;refine⟨ρ,S,τ,R,r,jJ (jQ h) .refl λb S1 h1 ρ1 H1 x e1 R1 v1=>?_⟩
 cases b with
 | bl k=>
  cases Fb v1
  refine⟨k,rfl,?_⟩
  cases k with
  | true=>
   rw[aS rfl];kln_w
  | false=>
   rw[aQ bG];exact h1 ρ1 H1 _ e1 R1<|.bl false
 | _=>exact h1.elim
def Wk{c:Ex}(h:AE X a c):AE X (.UnaryOp .Not a pos) (Wa c):=PE.imp (VX h) λσ H Q h9=>by
 z_go;refine⟨ρ,S,τ,R,r,jJ (jQ h) .refl λb S1 h1 ρ1 H1 x e1 R1 v1=>?_⟩
 cases b with
 | bl k=>
  cases Fb v1
  exact⟨k,rfl,h1 ρ1 H1 _ e1 R1<|.bl _⟩
 | _=>exact h1.elim
abbrev eIf (t:Te)(c d:Ex):Ex:=λτ S=>(t τ S).bind λb S1=>match b with|true=>c τ S1|false=>d τ S1
def aaR{t:Te}{c d:Ex}{e:aC}(ht:AT X e t)(ha:AE X a c)(hb:AE X b d):AE X (.IfExp e a b pos) (eIf t c d):=PE.imp (Pe ht ha hb) λσ H Q h9=>by
 z_go;refine⟨ρ,S,τ,R,r,jJ (jQ h) .refl λb S1 h1 ρ1 H1 e1 R1=>?_⟩
 cases b with
 | true=>
  rw[aS rfl];kln_w
 | false=>
  rw[aQ bG];kln_w
abbrev jH:qC:=λ_ S=>.ok [] S
abbrev jC (c:Ex)(d:qC):qC:=λτ S=>(c τ S).bind λa S1=>(d τ S1).bind λas S2=>.ok (a::as) S2
def jK:AL X [] jH:=PA.imp s_ λσ H Q ⟨ρ,S,τ,R,r,h⟩=>h ρ H _ .refl R .nil
def jD{e:aC}{c:Ex}{d:qC}(ha:AE X e c)(hr:AL X es d)(hs:starEach (e::es) X.env=(false,eval e X.env)::starEach es X.env<|>ε):AL X (e::es) (jC c d):=
 PA.imp (oB ha hr hs) λσ H Q h9=>by
  z_go;refine⟨ρ,S,τ,R,r,jJ (jQ h) .refl λa S1 h1 ρ1 H1 x e1 R1 v1=>⟨ρ1,S1,τ,R1,r.ext e1,jJ (jQ h1) e1 λas S2 h2 ρ2 H2 xs e2 R2 v2=>?_⟩⟩;exact h2 ρ2 H2 _ (e1.trans e2) R2<|.cons (v1.ext e2) v2
abbrev pD (d:qC):Ex:=λτ S=>(d τ S).bind λas S1=>gd (as.length<=sizeLine)<|.ok (.tup as) S1
abbrev newL (as:ae)(S:jF):R A:=gd (as.length<=sizeLine)<|.ok (.ref S.length)<|S++[.lst as]
abbrev nX (d:qC):Ex:=λτ S=>(d τ S).bind λas S1=>newL as S1
def wR{H H0:Hp}{Q:VK}(R:Rel X.K ρ H S)(r:AVs X.K ρ H as vs)(e:Ext ρ0 ρ H0 H)(h:z0 X ρ0 H0 Q (.tup as) S):∀p,H p=none->Q (.ref p) (upd H p<|.tup vs):=λp hp=>by
 obtain⟨ex,c⟩:=R.im (u:=.tup vs) hp;exact h ρ _ _ (e.trans ex) c<|.tup ko<|r.ext ex
def qx{H H0:Hp}{S:jF}{Q:VK}(R:Rel X.K ρ H S)(r:AVs X.K ρ H as vs)(e:Ext ρ0 ρ H0 H)(h:z0 X ρ0 H0 Q (.ref S.length)<|S++[.lst as]):∀p,H p=none->Q (.ref p) (upd H p<|.lst vs):=λp hp=>by
 obtain⟨ex,c,g⟩:=R.lay hp r;exact h _ _ _ (e.trans ex) c<|.ref g
def RL{H H0:Hp}{vs:List V}{Q:VK}(R:Rel X.K ρ H S)(r:AVs X.K ρ H as vs)(e:Ext ρ0 ρ H0 H)(h:(newL as S).post (z0 X ρ0 H0 Q)<|XE X ρ0 H0):vs.length<=sizeLine/\∀p,H p=none->Q (.ref p) (upd H p<|.lst vs):=by
 obtain⟨c,h⟩:=j5 h;exact⟨by rw[<- r.length];exact c,qx R r e h⟩
def mY{d:qC}{x1}(h:AL X es d):AE X (.Tuple es x1 pos) (pD d):=PE.imp (X9 h) λσ H Q h9=>by
 z_go;refine⟨ρ,S,τ,R,r,jJ (jQ h) .refl λas S1 h1 ρ1 H1 xs e1 R1 v1=>?_⟩;obtain⟨c,h1⟩:=j5 h1;exact⟨by rw[<- v1.length];exact c,wR R1 v1 e1 h1⟩
def lR{d:qC}(h:AL X es d):AE X (.List es pos) (nX d):=PE.imp (Y7 h) λσ H Q ⟨ρ,S,τ,R,r,h⟩=>
 ⟨ρ,S,τ,R,r,jJ (jQ h) .refl λas S1 h1 ρ1 H1 xs e1 R1 v1=>RL R1 v1 e1 h1⟩
end
section
variable {X:Cx}{pos:Pos}{a b:aC}
abbrev aSub (a b:A)(S:jF):R A:=match a,b with
 | .int i,.int j=>.ok (.int<|i-j) S
 | _,_=>.no
def FJ:pK X (binaryOp .Sub) (r2 X aSub):=pK.imp Wi λx y H Q h9=>by
 w_up
 cases va<;>first|exact h.elim|(cases vb<;>first|exact h.elim|exact⟨_,_,rfl,rfl,h _ _ _ .refl R<|.int _⟩)
abbrev FU (i j:Int):Bool:=(decide (-(2 ^ 64)<i) && decide (i<2 ^ 64)) || (decide (-(2 ^ 64)<j) && decide (j<2 ^ 64))
def mulOk_of{i j:Int}(h:FU i j=true):SM i j:=by
 unfold FU at h;dsimp[Bool.or_eq_true,dz,decide_eq_true_eq]at h;exact h
abbrev A5 (a b:A)(S:jF):R A:=match a,b with
 | .int i,.int j=>gd (FU i j) (.ok (.int<|i * j) S)
 | .ref n,.int k=>opt (jE S n) λxs=>gd (-(2 ^ 63)<=k/\k<2 ^ 63/\xs.length * k.toNat<=sizeLine) (.ok (.ref S.length)<|S++[.lst (List.replicate k.toNat xs).flatten])
 | _,_=>.no
theorem AVs.rep{K:au}{H:Hp}(r:AVs K ρ H xs vs):∀k:Nat,AVs K ρ H (List.replicate k xs).flatten (List.replicate k vs).flatten
 | 0=>.nil
 | k+1=>by rw[di,di,eB,eB];exact r.append<|AVs.rep r k
def E8:pK X (binaryOp .Mult) (r2 X A5):=λpins s σ H x y v u Q I rx ry h9=>by
 w_up
 cases va with
 | int i=>
  cases vb with
  | int j=>
   obtain⟨c,h⟩:=j5 h;exact Yq pins s σ H _ _ v u Q I rx ry ⟨i,j,rfl,rfl,mulOk_of c,h _ _ _ .refl R<|.int _⟩
  | _=>exact h.elim
 | @ref p n hp=>
  cases vb with
  | int k=>
   kj_on;obtain⟨hc,h⟩:=j5 h;obtain⟨vs,h1,h2⟩:=R.lst hp<|jS hn;exact Ym pins s σ H _ _ v u Q I rx ry ⟨p,k,vs,rfl,rfl,h1,hc.1,hc.2.1,by rw[<- h2.length];exact hc.2.2,qx R (h2.rep _) .refl h⟩
  | _=>exact h.elim
 | _=>exact h.elim
abbrev JB (a b:A)(S:jF):R A:=match a,b with
 | .int i,.int j=>gd (0<j/\j<18446744073709551616) (.ok (.int<|i / j) S)
 | _,_=>.no
def N8:pK X (binaryOp .FloorDiv) (r2 X JB):=pK.imp M6 λx y H Q h9=>by
 w_up
 cases va<;>first|exact h.elim|(cases vb<;>first|exact h.elim|exact⟨_,_,rfl,rfl,(j5 h).1,(j5 h).2 _ _ _ .refl R<|.int _⟩)
abbrev yK (a b:A)(S:jF):R A:=match a,b with
 | .int i,.int j=>gd (0<j) (.ok (.int<|i % j) S)
 | _,_=>.no
def AR:pK X (binaryOp .Mod) (r2 X yK):=pK.imp Wx λx y H Q h9=>by
 w_up
 cases va<;>first|exact h.elim|(cases vb<;>first|exact h.elim|exact⟨_,_,rfl,rfl,(j5 h).1,(j5 h).2 _ _ _ .refl R<|.int _⟩)
abbrev Ws (a b:A)(S:jF):R A:=match a,b with
 | .int i,.int j=>gd (0<=j/\j<=1000000/\i.natAbs<2 ^ 64) (.ok (.int<|i ^ j.toNat) S)
 | _,_=>.no
def aaS:pK X (binaryOp .Pow) (r2 X Ws):=pK.imp V5 λx y H Q h9=>by
 w_up
 cases va<;>first|exact h.elim|(cases vb<;>first|exact h.elim|exact⟨_,_,rfl,rfl,(j5 h).1,(j5 h).2 _ _ _ .refl R<|.int _⟩)
abbrev nE (a b:A)(S:jF):R A:=match a,b with
 | .int i,.int j=>.ok (.int<|i+j) S
 | .tup xs,.tup ys=>gd (xs.length+ys.length<=sizeLine) (.ok (.tup<|xs++ys) S)
 | .str x,.str y=>gd (x.length+y.length<=sizeLine) (.ok (.str<|x++y) S)
 | .ref n,.ref m=>opt (jE S n) λxs=>opt (jE S m) λys=>gd (xs.length+ys.length<=sizeLine) (.ok (.ref S.length)<|S++[.lst<|xs++ys])
 | _,_=>.no
def AVs.nil_inv{K:au}{H:Hp}(r:AVs K ρ H xs vs):xs=[] ↔ vs=[]:=by cases r<;>simp
def oZ:pK X (binaryOp .Add) (r2 X nE):=λpins s σ H x y v u Q I rx ry h9=>by
 w_up
 cases va with
 | int i=>
  cases vb with
  | int j=>exact V9 pins s σ H _ _ v u Q I rx ry ⟨i,j,rfl,rfl,h _ _ _ .refl R<|.int _⟩
  | _=>exact h.elim
 | str x=>
  cases vb with
  | str y=>
   obtain⟨hc,h⟩:=j5 h;exact GJ pins s σ H _ _ v u Q I rx ry ⟨x,y,rfl,rfl,hc,h _ _ _ .refl R<|.str _⟩
  | _=>exact h.elim
 | @tup p xs vs h1 r1=>
  cases vb with
  | @tup q ys c h2 r2=>
   obtain⟨hc,h⟩:=j5 h;by_cases hv:vs=[]
   ·have g:=r1.nil_inv.mpr hv;subst hv g;exact PR pins s σ H _ _ v u Q I rx ry ⟨p,q,c,rfl,rfl,ow.of h1,ow.of h2,h _ _ _ .refl R<|.tup h2 r2⟩
   ·refine Uu pins s σ H _ _ v u Q I rx ry ⟨p,q,vs,c,rfl,rfl,ow.of h1,ow.of h2,hv,by rw[<- r1.length,<- r2.length];exact hc,λe=>?_,λ_=>wR R (r1.append r2) .refl h⟩;have t:=r2.nil_inv.mpr e;subst t;rw[bN]at h;exact h _ _ _ .refl R<|.tup h1 r1
  | _=>exact h.elim
 | @ref p n hp=>
  cases vb with
  | @ref q m k=>
   kj_on;obtain⟨ys,f,h⟩:=jP h;obtain⟨hc,h⟩:=j5 h;obtain⟨vs,h1,h2⟩:=R.lst hp<|jS hn;obtain⟨c,h3,d⟩:=R.lst k<|jS f;exact YD pins s σ H _ _ v u Q I rx ry ⟨p,q,vs,c,rfl,rfl,h1,h3,by rw[<- h2.length,<- d.length];exact hc,qx R (h2.append d) .refl h⟩
  | _=>exact h.elim
 | _=>exact h.elim
abbrev A.ints:ae->Option (ag)
 | []=>some []
 | .int i::xs=>(A.ints xs).map (i::·)
 | _=>none
def W3{x:A}{bs:ag}(e:A.ints (x::xs)=some bs):∃b cs,x=.int b/\A.ints xs=some cs/\bs=b::cs:=by
 unfold A.ints at e;split at e
 ·rename_i z;cases z
 ·rename_i i ys z
  cases z
  obtain⟨cs,h1,h2⟩:=aW.mp e;exact⟨i,cs,rfl,h1,h2.symm⟩
 ·cases e
def rH{K:au}{H:Hp}:∀{xs:ae}{vs:List V}{bs:ag},AVs K ρ H xs vs->A.ints xs=some bs->vs=bs.map V.int:=by
 intro xs
 induction xs with
 | nil=>
  intro vs bs h e
  cases h
  cases e
  rfl
 | cons x xs c=>
  intro vs bs h e;obtain⟨b,cs,rfl,e1,rfl⟩:=W3 e
  cases h with
  | cons h t=>
   cases h
   rw[c t e1];rfl
abbrev Vc (a b:A)(S:jF):R A:=match a,b with
 | .int i,.int j=>.ok (.bl<|decide<|i<j) S
 | _,_=>.no
def QD(hu:X.A.units+64<cLine):pK X (compareOp .Lt) (r2 X Vc):=λpins s σ H x y v u Q I rx ry h9=>by
 w_up
 cases va with
 | int i=>
  cases vb with
  | int j=>exact ZJ pins s σ H _ _ v u Q I rx ry ⟨i,j,rfl,rfl,h _ _ _ .refl R<|.bl _⟩
  | _=>exact h.elim
 | _=>exact h.elim
abbrev ZX (a b:A)(S:jF):R A:=match a,b with
 | .int i,.int j=>.ok (.bl<|decide<|i<=j) S
 | _,_=>.no
def Z1:pK X (compareOp .LtE) (r2 X ZX):=pK.imp ZK λx y H Q h9=>by
 w_up
 cases va<;>first|exact h.elim|(cases vb<;>first|exact h.elim|exact⟨_,_,rfl,rfl,h _ _ _ .refl R<|.bl _⟩)
abbrev OV (a b:A)(S:jF):R A:=match a,b with
 | .int i,.int j=>.ok (.bl<|decide<|j<i) S
 | _,_=>.no
def SN(hu:X.A.units+64<cLine):pK X (compareOp .Gt) (r2 X OV):=λpins s σ H x y v u Q I rx ry h9=>by
 w_up
 cases va with
 | int i=>
  cases vb with
  | int j=>exact aaw pins s σ H _ _ v u Q I rx ry ⟨i,j,rfl,rfl,h _ _ _ .refl R<|.bl _⟩
  | _=>exact h.elim
 | _=>exact h.elim
abbrev aGe (a b:A)(S:jF):R A:=match a,b with
 | .int i,.int j=>.ok (.bl<|decide<|j<=i) S
 | _,_=>.no
abbrev Ho (neg:Bool)(a b:A)(S:jF):R A:=match a,b with
 | .bl i,.bl j=>.ok (.bl<|if neg then i != j else i == j) S
 | .non,.non=>.ok (.bl<|!neg) S
 | .unb,.non=>.no
 | .exn _,.non=>.no
 | _,.non=>.ok (.bl neg) S
 | _,_=>.no
def WL{n:Bool}{a b:A}(h1:b≠.non)(h2:∀j,b≠.bl j):Ho n a b S=.no:=by
 unfold Ho;split<;>first|rfl|exact absurd rfl h1|exact absurd rfl<|h2 _
def Wy{n:Bool}{a b:A}{F:A->jF->Prop}{G:Str->jF->Prop}(h:(Ho n a b S).post F G)(h1:b≠.non)(h2:∀j,b≠.bl j):False:=by
 rw[WL h1 h2]at h;exact h
def Rl:pK X (compareOp .IsNot) (r2 X<|Ho true):=λpins s σ H x y v u Q I rx ry h9=>by
 w_up
 cases vb with
 | non=>
  refine Rr pins s σ H _ _ v u Q I rx ry ⟨rfl,?_⟩
  cases va<;>first|exact h _ _ _ .refl R (.bl _)|exact h.elim
 | bl j=>
  cases va with
  | bl i=>exact Lz pins s σ H _ _ v u Q I rx ry ⟨i,j,rfl,rfl,h _ _ _ .refl R<|.bl _⟩
  | _=>exact h.elim
 | _=>
  exact(Wy h (λz=>nomatch z) nofun).elim
abbrev Zl (f:A->jF->R A)(c:Ex):Ex:=λτ S=>(c τ S).bind λa S1=>f a S1
abbrev LQ (a:A)(S:jF):R A:=match a with
 | .int i=>.ok (.int<|-i) S
 | _=>.no
def aae:UnR X (unaryOp .USub) (r1 X LQ):=λpins s σ H x v Q I rx h9=>by
 obtain⟨ρ,S,a,R,va,h⟩:=h9
 cases va with
 | int i=>exact YC pins s σ H _ v Q I rx ⟨i,rfl,h _ _ _ .refl R<|.int _⟩
 | _=>exact h.elim
def WY{f:A->jF->R A}{c:Ex}{H:Hp}{Q:VK}(h:tE X (Zl f c) σ H Q):tUn (r1 X f) (tE X c) σ H Q:=by
 o_rec;exact⟨ρ,S,τ,R,r,jJ (jQ h) .refl λa S1 h1 ρ1 H1 x e1 R1 v1=>⟨ρ1,S1,a,R1,v1,jJ h1 e1 λc S3 h3=>h3.ext e1⟩⟩
def Qd{c:Ex}(h:AE X a c):AE X (.UnaryOp .USub a pos) (Zl LQ c):=PE.imp (Zu aae h) λ_ _ _ q=>WY q
abbrev kI (a b:A)(S:jF):R A:=match a,b with
 | .tup xs,.int i=>opt (qZ xs i) λx=>.ok x S
 | .frz xs,.int i=>opt (qZ xs i) λx=>.ok x S
 | .ref n,.int i=>opt (jE S n) λxs=>opt (qZ xs i) λx=>.ok x S
 | .str z,.int i=>gd (z.length<=sizeLine) (opt (qZ z.cps.toList i) λc=>.ok (.str ⟨#[c]⟩) S)
 | _,_=>.no
def AVs.qZ{K:au}{H:Hp}{i:Int}{x:A}(r:AVs K ρ H xs vs)(h:L2.qZ xs i=some x):∃v,L2.qZ vs i=some v/\AV K ρ H x v:=by
 unfold L2.qZ at h ⊢;rw[<- r.length]
 cases c:Ec xs.length i with
 | none=>rw[c]at h;cases h
 | some j=>
  rw[c]at h;exact r.get h
def Z2:Vy X (r2 X kI):=λf d pins s σ H x y v u Q I rx ry ⟨ρ,S,a,b,R,va,vb,h⟩ hs=>by
 cases va with
 | @tup p xs vs h1 r1=>
  cases vb with
  | int i=>
   obtain⟨x,g,h⟩:=jP h;obtain⟨z,e,q⟩:=r1.qZ g;exact WJ f d pins s σ H _ _ v u Q I rx ry ⟨p,vs,i,z,rfl,rfl,ow.of h1,e,h _ _ _ .refl R q⟩ hs
  | _=>exact h.elim
 | @frz p xs vs h1 r1=>
  cases vb with
  | int i=>
   obtain⟨x,g,h⟩:=jP h;obtain⟨z,e,q⟩:=r1.qZ g;exact Jr f d pins s σ H _ _ v u Q I rx ry ⟨p,vs,i,z,rfl,rfl,h1.SK,e,h _ _ _ .refl R q⟩ hs
  | _=>exact h.elim
 | @ref p n hp=>
  cases vb with
  | int i=>
   kj_on;obtain⟨x,g,h⟩:=jP h;obtain⟨vs,h1,r1⟩:=R.lst hp<|jS hn;obtain⟨z,e,q⟩:=r1.qZ g;exact Jr f d pins s σ H _ _ v u Q I rx ry ⟨p,vs,i,z,rfl,rfl,pS.of h1,e,h _ _ _ .refl R q⟩ hs
  | _=>exact h.elim
 | str z=>
  cases vb with
  | int i=>
   obtain⟨j,h⟩:=j5 h;obtain⟨c,hc,h⟩:=jP h;exact Yz f d pins s σ H _ _ v u Q I rx ry ⟨z,i,c,rfl,rfl,j,hc,h _ _ _ .refl R<|.str _⟩ hs
  | _=>exact h.elim
 | _=>exact h.elim
def j_{ca cb:Ex}(ha:AE X a ca)(hb:AE X b cb)(hs:yU b<|>θ):AE X (.Subscript a b pos) (jI kI ca cb):=PE.imp (Pq Z2 ha hb hs) λσ H Q h=>vf h
end
abbrev pR (f:A->A->bi):ae->ae->bi
 | [],[]=>some true
 | x::xs,y::ys=>(f x y).bind λp=>(pR f xs ys).map λq=>p && q
 | _,_=>some false
inductive Sh
 | non
 | bl (b:Bool)
 | int (i:Int)
 | str (x:Str)
 | tup (xs:ae)
 | lst
abbrev W2 (S:jF):A->Option Sh
 | .non=>some .non
 | .bl b=>some (.bl b)
 | .int i=>some (.int i)
 | .str x=>some (.str x)
 | .tup xs=>some (.tup xs)
 | .ref i=>(jE S i).map λ_=>.lst
 | _=>none
abbrev TJ (f:A->A->bi):Sh->Sh->bi
 | .non,.non=>some true
 | .bl x,.bl y=>some (x == y)
 | .bl x,.int y=>some ((if x then 1 else 0) == y)
 | .int x,.bl y=>some (x == (if y then 1 else 0))
 | .int x,.int y=>some (x == y)
 | .str x,.str y=>some (x == y)
 | .tup xs,.tup ys=>pR f xs ys
 | .lst,.lst=>none
 | _,_=>some false
abbrev oX (S:jF):Nat->A->A->bi
 | 0,_,_=>none
 | n+1,a,b=>match a,b with
  | .ref i,.ref j=>(jE S i).bind λxs=>(jE S j).bind λys=>pR (oX S n) xs ys
  | _,_=>(W2 S a).bind λx=>(W2 S b).bind λy=>TJ (oX S n) x y
section
variable {X:Cx}{pins:bo}{σ:L2.St}{H:Hp}{s:aA}{ρ:bb}{S:jF}
inductive KdV (s:aA):Sh->af->Prop
 | non:KdV s .non .none
 | bl (b:Bool):KdV s (.bl b) (.bool b)
 | int (i:Int) (t:Tok):KdV s (.int i) (.int i t)
 | str (x:Str) (t:Tok):KdV s (.str x) (.str x t)
 | tup {p:ak} {us:ba} (xs:ae) (h:s.heap.IsTuple p us.toArray):KdV s (.tup xs) (.ref p)
 | lst {p:ak} {us:ba} (h:s.heap.IsList p us.toArray):KdV s .lst<|.ref p
def IL{p:ak}(h:s.heap.IsTuple p us)(h':s.heap.IsList p ws):False:=by
 obtain⟨o,e,c,_⟩:=h;obtain⟨o',d,f,_⟩:=h';rw[e]at d
 cases d
 exact absurd (c.symm.trans f) ⋯
def IV(I:Inv X pins σ H s)(R:Rel X.K ρ H S){a:A}{x:V}(ha:AV X.K ρ H a x)(r:RelV x u)(e:W2 S a=some h):KdV s h u:=by
 cases ha with
 | non=>cases e;cases(show u=Value.none from r);exact .non
 | bl b=>cases e;cases(show u=Value.bool b from r);exact .bl b
 | int i=>cases e;obtain⟨t,rfl⟩:∃t,u=Value.int i t:=r;exact .int i t
 | str i=>cases e;obtain⟨t,rfl⟩:∃t,u=Value.str i t:=r;exact .str i t
 | tup h1 r1=>cases e;cases(show u=Value.ref _ from r);obtain⟨us,_,p,_⟩:=I.tuple<|ow.of h1;exact .tup _ p
 | ref h1=>
  obtain⟨xs,e1,rfl⟩:=aW.mp e
  cases(show u=Value.ref _ from r)
  obtain⟨vs,h3,r1⟩:=R.lst h1<|jS e1;obtain⟨us,_,p,_⟩:=I.list<|pS.of h3;exact .lst p.isList
 | _=>cases e
abbrev Al (B:az)(s:aA)(u v:af)(k:Bool):Prop:=SeqAt.RcAt B s u v k/\SeqAt.EqAt B s u v k/\SeqAt.RcNeAt B s u v (!k)
def ZW{B:az}(hu:B.units<cLine){f:A->A->bi}{v:af}{k:Bool}(d:KdV s h u)(d':KdV s h' v)(nt:∀xs ys,h=.tup xs->h'≠.tup ys)(e:TJ f h h'=some k):Al B s u v k:=by
 cases d with
 | non=>cases d' with
  | non=>cases e;exact⟨.none_none,.same _,.none_none⟩
  | bl b=>cases e;exact⟨.none_bool _,.none_bool _,.none_bool _⟩
  | int i t=>cases e;exact⟨.none_int _ _,.none_int _ _,.none_int _ _⟩
  | str x t=>cases e;exact⟨.none_str _ _,.none_str _ _,.none_str _ _⟩
  | tup xs p=>cases e;exact⟨.none_tuple p hu,.none_tuple p hu,.none_tuple p hu⟩
  | lst p=>cases e;exact⟨.none_list p hu,.none_list p hu,.none_list p hu⟩
 | bl c=>cases d' with
  | non=>cases e;exact⟨.bool_none _,.bool_none _,.bool_none _⟩
  | bl b=>cases e;exact⟨.bool_bool _ _,.bool_bool _ _,.bool_bool _ _⟩
  | int i t=>cases e;exact⟨.bool_int _ _ _,.bool_int _ _ _,.bool_int _ _ _⟩
  | str x t=>cases e;exact⟨.bool_str _ _ _,.bool_str _ _ _,.bool_str _ _ _⟩
  | tup xs p=>cases e;exact⟨.bool_tuple _ p hu,.bool_tuple _ p hu,.bool_tuple _ p hu⟩
  | lst p=>cases e;exact⟨.bool_list _ p hu,.bool_list _ p hu,.bool_list _ p hu⟩
 | int c j=>cases d' with
  | non=>cases e;exact⟨.int_none _ _,.int_none _ _,.int_none _ _⟩
  | bl b=>cases e;exact⟨.int_bool _ _ _,.int_bool _ _ _,.int_bool _ _ _⟩
  | int i t=>cases e;exact⟨.int_int _ _ _ _,.int_int _ _ _ _,.int_int _ _ _ _⟩
  | str x t=>cases e;exact⟨.int_str _ _ _ _,.int_str _ _ _ _,.int_str _ _ _ _⟩
  | tup xs p=>cases e;exact⟨.int_tuple _ _ p hu,.int_tuple _ _ p hu,.int_tuple _ _ p hu⟩
  | lst p=>cases e;exact⟨.int_list _ _ p hu,.int_list _ _ p hu,.int_list _ _ p hu⟩
 | str c j=>cases d' with
  | non=>cases e;exact⟨.str_none _ _,.str_none _ _,.str_none _ _⟩
  | bl b=>cases e;exact⟨.str_bool _ _ _,.str_bool _ _ _,.str_bool _ _ _⟩
  | int i t=>cases e;exact⟨.str_int _ _ _ _,.str_int _ _ _ _,.str_int _ _ _ _⟩
  | str x t=>cases e;exact⟨.str_str _ _ _ _,.str_str _ _ _ _,.str_str _ _ _ _⟩
  | tup xs p=>cases e;exact⟨.str_tuple _ _ p hu,.str_tuple _ _ p hu,.str_tuple _ _ p hu⟩
  | lst p=>cases e;exact⟨.str_list _ _ p hu,.str_list _ _ p hu,.str_list _ _ p hu⟩
 | tup zs g=>cases d' with
  | non=>cases e;exact⟨.tuple_none g hu,.tuple_none g hu,.tuple_none g hu⟩
  | bl b=>cases e;exact⟨.tuple_bool _ g hu,.tuple_bool _ g hu,.tuple_bool _ g hu⟩
  | int i t=>cases e;exact⟨.tuple_int _ _ g hu,.tuple_int _ _ g hu,.tuple_int _ _ g hu⟩
  | str x t=>cases e;exact⟨.tuple_str _ _ g hu,.tuple_str _ _ g hu,.tuple_str _ _ g hu⟩
  | tup xs p=>exact absurd rfl (nt _ _ rfl)
  | lst p=>cases e;exact⟨.tuple_list g p hu,.of_refs (λz=>by subst z;exact IL g p)<|.tuple_list g p hu,.tuple_list g p hu⟩
 | lst g=>cases d' with
  | non=>cases e;exact⟨.list_none g hu,.list_none g hu,.list_none g hu⟩
  | bl b=>cases e;exact⟨.list_bool _ g hu,.list_bool _ g hu,.list_bool _ g hu⟩
  | int i t=>cases e;exact⟨.list_int _ _ g hu,.list_int _ _ g hu,.list_int _ _ g hu⟩
  | str x t=>cases e;exact⟨.list_str _ _ g hu,.list_str _ _ g hu,.list_str _ _ g hu⟩
  | tup xs p=>cases e;exact⟨.list_tuple g p hu,.of_refs (λz=>by subst z;exact IL p g)<|.list_tuple g p hu,.list_tuple g p hu⟩
  | lst p=>cases e
def D7{a:A}{x:V}(h:AV X.K ρ H a x)(e:W2 S a=some (.tup xs)):a=.tup xs/\∃p vs,x=.ref p/\H p=some (.tup vs)/\AVs X.K ρ H xs vs:=by
 cases h with
 | tup h r=>cases e;exact⟨rfl,_,_,rfl,h,r⟩
 | ref h=>obtain⟨_,_,z⟩:=aW.mp e;cases z
 | _=>cases e
def D_{i:Nat}{x:V}(h:AV X.K ρ H (.ref i) x):∃p,x=.ref p/\ρ[i]?=some p:=by
 cases h with
 | ref h=>exact⟨_,rfl,h⟩
def NI{a:A}(e:W2 S a=some .lst):∃i,a=.ref i:=by
 cases a with
 | ref i=>exact⟨i,rfl⟩
 | _=>cases e
def MY{n:Nat}{a:A}{k:Bool}(e:oX S (n+1) a b=some k):(∃i j xs ys,a=.ref i/\b=.ref j/\jE S i=some xs/\jE S j=some ys/\pR (oX S n) xs ys=some k)\/(∃h h',W2 S a=some h/\W2 S b=some h'/\TJ (oX S n) h h'=some k/\(h=.lst->h'≠.lst)):=by
 unfold oX at e;split at e
 ·obtain⟨xs,e1,e⟩:=bX.mp e;obtain⟨ys,e2,e⟩:=bX.mp e;exact .inl ⟨_,_,xs,ys,rfl,rfl,e1,e2,e⟩
 ·rename_i f;obtain⟨h,e1,e⟩:=bX.mp e;obtain⟨h',e2,e⟩:=bX.mp e;refine .inr ⟨h,h',e1,e2,e,λd c=>?_⟩;subst d c;obtain⟨i,rfl⟩:=NI e1;obtain⟨j,rfl⟩:=NI e2;exact f i j rfl rfl
def Ub{f:A->A->bi}{k:Bool}(d:KdV s h u)(d':KdV s h' u)(nt:∀xs ys,h=.tup xs->h'≠.tup ys)(e:TJ f h h'=some k):k=true:=by
 cases d with
 | non=>cases d';exact(aX e).symm
 | bl b=>cases d';exact(aX e).symm.trans (cG b)
 | int b=>cases d';exact(aX e).symm.trans (cG b)
 | str b=>cases d';exact(aX e).symm.trans (cG b)
 | tup xs p=>cases d' with
  | tup=>exact absurd rfl (nt _ _ rfl)
  | lst q=>exact(IL p q).elim
 | lst p=>cases d' with
  | tup _ q=>exact(IL q p).elim
  | lst q=>cases e
def EI{f:A->A->bi}(hf:∀a b x u k,AV X.K ρ H a x->AV X.K ρ H b x->RelV x u->f a b=some k->k=true):∀{xs ys:ae}{vs:List V}{us:ba}{k:Bool},AVs X.K ρ H xs vs->AVs X.K ρ H ys vs->Vals vs us->pR f xs ys=some k->k=true:=by
 intro xs ys vs us k h1 h2 q e
 induction q generalizing xs ys k with
 | nil=>cases h1;cases h2;exact(aX e).symm
 | cons c _ g=>
  cases h1 with
  | cons h t=>cases h2 with
   | cons h' d=>
    obtain⟨p,e1,e⟩:=bX.mp e;obtain⟨q,e2,e3⟩:=aW.mp e;rw[<- e3,hf _ _ _ _ p h h' c e1,g t d e2];rfl
def Jb(h h':Sh):(∃xs ys,h=.tup xs/\h'=.tup ys)\/(∀xs ys,h=.tup xs->h'≠.tup ys):=by
 cases h with
 | tup xs=>cases h' with
  | tup ys=>exact .inl ⟨xs,ys,rfl,rfl⟩
  | _=>exact .inr λ_ _ _ z=>nomatch z
 | _=>exact .inr λ_ _ z=>nomatch z
theorem Dp(I:Inv X pins σ H s)(R:Rel X.K ρ H S):∀(n:Nat) (a b:A) (x:V) (u:af) (k:Bool),AV X.K ρ H a x->AV X.K ρ H b x->RelV x u->oX S n a b=some k->k=true
 | 0,_,_,_,_,_,_,_,_,e=>nomatch e
 | n+1,a,b,x,u,k,ha,hb,ru,e=>by
  rcases MY e with⟨i,j,xs,ys,rfl,rfl,e1,e2,e⟩|⟨h,h',e1,e2,e,_⟩
  ·obtain⟨p,rfl,h1⟩:=D_ ha;obtain⟨q,z,h2⟩:=D_ hb
   cases z
   obtain⟨vs,h3,r1⟩:=R.lst h1<|jS e1;obtain⟨f,c,r2⟩:=R.lst h2<|jS e2;rw[h3]at c
   cases c
   obtain⟨us,q,_⟩:=I.list<|pS.of h3;exact EI (λa b x u k=>Dp I R n a b x u k) r1 r2 q e
  ·rcases Jb h h' with⟨xs,ys,rfl,rfl⟩|d
   ·obtain⟨rfl,p,vs,rfl,h3,r1⟩:=D7 ha e1;obtain⟨rfl,q,f,z,c,r2⟩:=D7 hb e2
    cases z
    have:=I.xW (ow.of h3)<|ow.of c;subst this;obtain⟨us,q,_⟩:=I.tuple<|ow.of h3;exact EI (λa b x u k=>Dp I R n a b x u k) r1 r2 q e
   ·exact Ub (IV I R ha ru e1) (IV I R hb ru e2) d e
abbrev Ba (f:A->A->bi)(xs ys:ae)(j:Nat):Bool:=match xs[j]?,ys[j]? with
 | some x,some y=>(f x y).getD true
 | _,_=>true
theorem yP{f:A->A->bi}:∀{xs ys:ae}{k:Bool},pR f xs ys=some k->k=((List.range<|min xs.length ys.length).all (Ba f xs ys) && xs.length == ys.length)/\∀j x y,xs[j]?=some x->ys[j]?=some y->f x y=some (Ba f xs ys j)
 | [],[],k,e=>⟨(aX e).symm,λj x y h=>by simp at h⟩
 | [],_::_,k,e=>⟨(aX e).symm,λj x y h=>by simp at h⟩
 | _::_,[],k,e=>⟨(aX e).symm,λj x y _ h=>by simp at h⟩
 | x::xs,y::ys,k,e=>by
  unfold pR at e
  cases e1:f x y with
  | none=>rw[e1]at e;cases e
  | some p=>
   rw[e1]at e;obtain⟨q,e2,e3⟩:=aW.mp e;obtain⟨h1,h2⟩:=yP e2;have g:Ba f (x::xs) (y::ys) 0=p:=by simp[Ba,e1]
   have ps:∀j,Ba f (x::xs) (y::ys) (j+1)=Ba f xs ys j:=λj=>by simp[Ba]
   refine⟨?_,λj a b d c=>?_⟩
   ·rw[<- e3,h1,bC,bC,Nat.succ_min_succ,List.range_succ_eq_map,List.all_cons,all_map,g];have:(Ba f (x::xs) (y::ys) ∘ Nat.succ)=Ba f xs ys:=funext ps;rw[this,Bool.and_assoc];simp
   ·cases j with
    | zero=>
     simp at d c;subst d c;rw[g];exact e1
    | succ j=>rw[ps];exact h2 j a b (by simpa using d)<|by simpa using c
def yV{f:A->A->bi}{B:az}(hf:∀a b x y u v k,AV X.K ρ H a x->AV X.K ρ H b y->RelV x u->RelV y v->f a b=some k->SeqAt.EqAt B s u v k){us ts:ba}{k:Bool}
  (r1:AVs X.K ρ H xs vs) (r2:AVs X.K ρ H ys ws) (q1:Vals vs us) (q2:Vals ws ts) (e:pR f xs ys=some k):∀j (h1:j<us.toArray.size) (h2:j<ts.toArray.size),SeqAt.EqAt B s us.toArray[j] ts.toArray[j] (Ba f xs ys j):=by
 intro j h1 h2;have L:=r1.length;have M:=r2.length;have O:=q1.length;have N:=q2.length;have m:j<xs.length:=by simp at h1;lia
 have J:j<ys.length:=by simp at h2;lia
 have e1:xs[j]?=some xs[j]:=aF m;have e2:ys[j]?=some ys[j]:=aF J;obtain⟨x,ex,p⟩:=r1.get e1;obtain⟨y,c,F⟩:=r2.get e2;obtain⟨u,g,C⟩:=q1.get ex;obtain⟨t,d,rt⟩:=q2.get c;have G:us.toArray[j]=u:=by
  have:us[j]?=some us.toArray[j]:=by simp at h1;simp[h1]
  rw[g]at this;exact(aX this).symm
 have q:ts.toArray[j]=t:=by
  have:ts[j]?=some ts.toArray[j]:=by simp at h2;simp[h2]
  rw[d]at this;exact(aX this).symm
 rw[G,q];exact hf _ _ x y u t _ p F C rt<|(yP e).2 j _ _ e1 e2
def in1_units(B:az):B.in1.units=B.units+1:=rfl
theorem Ce(I:Inv X pins σ H s)(R:Rel X.K ρ H S):∀(n:Nat) (B:az) (a b:A) (x y:V) (u v:af) (k:Bool),B.units+n<cLine->AV X.K ρ H a x->AV X.K ρ H b y->RelV x u->RelV y v->oX S n a b=some k->Al B s u v k
 | 0,_,_,_,_,_,_,_,_,_,_,_,_,_,e=>nomatch e
 | n+1,B,a,b,x,y,u,v,k,hu,ha,hb,rx,ry,e=>by
  have d:B.units<cLine:=()
  have c:∀a b x y u v k,AV X.K ρ H a x->AV X.K ρ H b y->RelV x u->RelV y v->oX S n a b=some k->SeqAt.EqAt B.in1 s u v k:=λa b x y u v k h1 h2 h3 J U=>(Ce I R n B.in1 a b x y u v k (by rw[in1_units];lia) h1 h2 h3 J U).2.1;have same:=λ(z:y=x)=>Dp I R (n+1) a b x u k ha (z ▸ hb) rx e;have g:∀{p q:ak},x=.ref p->y=.ref q->u=.ref p->v=.ref q->SeqAt.RcAt B s u v k->SeqAt.EqAt B s u v k:=λ{p q} f m z3 z4 h=>by
   subst z3 z4;by_cases hp:p=q
   ·subst hp;rw[same<|m.trans f.symm];exact .same _
   ·exact .of_refs hp h
  rcases MY e with⟨i,j,xs,ys,rfl,rfl,e1,e2,e⟩|⟨h,h',e1,e2,e,_⟩
  ·obtain⟨p,rfl,h1⟩:=D_ ha;obtain⟨q,rfl,h2⟩:=D_ hb;obtain⟨vs,h3,r1⟩:=R.lst h1<|jS e1;obtain⟨O,J,r2⟩:=R.lst h2<|jS e2;obtain⟨us,t,p1,_⟩:=I.list<|pS.of h3;obtain⟨ts,C,p2,_⟩:=I.list<|pS.of J;have L:=g rfl rfl rx ry
   cases(show u=Value.ref p from rx)
   cases(show v=Value.ref q from ry)
   have P:=r1.length;have W:=r2.length;have T:=t.length;have Y:=C.length;have F:=(yP e).1;by_cases M:xs.length=ys.length
   ·rw[<- M,Nat.min_self,cG,Bool.and_true]at F;have G:us.toArray.size=ts.toArray.size:=by simp;lia
    have f:=SeqAt.RcAt.lists p1.isList p2.isList G d<|yV c r1 r2 t C e;have m:=SeqAt.RcNeAt.lists p1.isList p2.isList G d<|yV c r1 r2 t C e;rw[aZ,<- T,<- P,<- F]at f m;exact⟨f,L f,m⟩
   ·have:(xs.length == ys.length)=false:=by simpa using M
    rw[this,jt]at F;subst F;have G:(us.toArray.size != ts.toArray.size)=true:=by simp;lia
    have f:=SeqAt.RcAt.lists_lengths p1.isList p2.isList G d;exact⟨f,L f,SeqAt.RcNeAt.lists_lengths p1.isList p2.isList G d⟩
  ·rcases Jb h h' with⟨xs,ys,rfl,rfl⟩|N
   ·obtain⟨rfl,p,vs,rfl,h3,r1⟩:=D7 ha e1;obtain⟨rfl,q,O,rfl,J,r2⟩:=D7 hb e2;have L:=g rfl rfl rx ry
    cases(show u=Value.ref p from rx)
    cases(show v=Value.ref q from ry)
    obtain⟨us,t,p1,_⟩:=I.tuple<|ow.of h3;obtain⟨ts,C,p2,_⟩:=I.tuple<|ow.of J;have F:=(yP e).1;have f:=SeqAt.RcAt.tuples p1 p2 d<|yV c r1 r2 t C e;have m:=SeqAt.RcNeAt.tuples p1 p2 d<|yV c r1 r2 t C e;rw[aZ,aZ,<- t.length,<- C.length,<- r1.length,<- r2.length,<- F]at f m;exact⟨f,L f,m⟩
   ·exact ZW d (IV I R ha rx e1) (IV I R hb ry e2) N e
end
section
variable {X:Cx}
abbrev sd (neg:Bool)(a b:A)(S:jF):R A:=opt (oX S 12 a b) λk=>.ok (.bl<|if neg then !k else k) S
def Bc(hu:X.A.units+64<cLine):pK X (compareOp .Eq) (r2 X<|sd false):=λpins s σ H x y v u Q I rx ry h9=>by
 w_up;obtain⟨k,e,h⟩:=jP h;exact(Ce I R 12 X.A a b x y v u k (by omega) va vb rx ry e).1 _ _ _ _ ⟨.bl _,H,I,rfl,h _ _ _ .refl R<|.bl _⟩
def E1(hu:X.A.units+64<cLine):pK X (compareOp .NotEq) (r2 X<|sd true):=λpins s σ H x y v u Q I rx ry h9=>by
 w_up;obtain⟨k,e,h⟩:=jP h;exact(Ce I R 12 X.A a b x y v u k (by omega) va vb rx ry e).2.2 _ _ _ _ ⟨.bl _,H,I,rfl,h _ _ _ .refl R<|.bl _⟩
end
section
variable {X:Cx}{pos:Pos}{a b:aC}
meta abbrev Pt:=ae->jF->R (Option Int)
abbrev Zq:Pt:=λ_ S=>.ok none S
abbrev aaL (c:Ex):Pt:=λτ S=>(c τ S).bind λa S1=>match a with
 | .int i=>.ok (some i) S1
 | _=>.no
abbrev Rt (xs:ae)(lo hi:Option Int):ae:=(xs.drop<|HT.sIx xs.length 0 lo).take<|HT.sIx xs.length xs.length hi-HT.sIx xs.length 0 lo
abbrev aSl (a:A)(lo hi:Option Int)(S:jF):R A:=match a with
 | .ref n=>opt (jE S n) λxs=>.ok (.ref S.length) (S++[.lst<|Rt xs lo hi])
 | .frz xs=>.ok (.ref S.length) (S++[.lst<|Rt xs lo hi])
 | .tup xs=>gd (¬(HT.sIx xs.length 0 lo=0/\HT.sIx xs.length xs.length hi=xs.length)) (.ok (.tup<|Rt xs lo hi) S)
 | _=>.no
abbrev eSl (c:Ex)(lo hi:Pt):Ex:=λτ S=>(c τ S).bind λa S1=>(lo τ S1).bind λl S2=>(hi τ S2).bind λu S3=>aSl a l u S3
abbrev Zh (a:A)(S:jF):R A:=match a with
 | .ref n=>opt (jE S n) λxs=>.ok (.ref S.length) (S++[.lst xs.reverse])
 | .tup xs=>.ok (.tup xs.reverse) S
 | _=>.no
abbrev jY (f:ae->jF->R A)(d:qC):Ex:=λτ S=>(d τ S).bind λas S1=>f as S1
def E6{f:ae->jF->R A}{d:qC}{H:Hp}{Q:VK}(h:tE X (jY f d) σ H Q):tCB (rN X f) (tL X d) σ H Q:=by
 o_rec;exact⟨ρ,S,τ,R,r,jJ (jQ h) .refl λas S1 h1 ρ1 H1 vs e1 R1 v1=>⟨ρ1,S1,as,R1,v1,jJ h1 e1 λ_ _ z=>z.ext e1⟩⟩
variable {x:Str}{p:Pos}{e:aC}{es:List aC}{id T:String}{f:ae->jF->R A}{d:qC}
def j6(hc:kO X (.builtin id)<|rN X f)(hm:X.mg x=none)(hv:bootBuiltins x=some (.builtin id))(ha:AL X (e::es) d)(hg:Gl X x<|>ε)(hn:x ≠ "__name__"<|>δ)(hdb:(x == ("__debug__" : Str))=false<|>δ)
  (he:starEach (e::es) X.env=(false,eval e X.env)::starEach es X.env<|>ε) (hpl:((backTo pos<|starEach es X.env).any (·.1)=false)<|>ε):AE X (.Call (.Name x p) (e::es) [] pos) (jY f d):=
 PE.imp (Fe hc hg hm hv ha hn hdb he hpl) λ_ _ _ h=>E6 h
def nI(hc:kO X (.type T)<|rN X f)(hm:X.mg x=none)(hv:bootBuiltins x=some (.type T))(ha:AL X (e::es) d)(hg:Gl X x<|>ε)(hn:x ≠ "__name__"<|>δ)(hdb:(x == ("__debug__" : Str))=false<|>δ)
  (he:starEach (e::es) X.env=(false,eval e X.env)::starEach es X.env<|>ε) (hpl:((backTo pos<|starEach es X.env).any (·.1)=false)<|>ε):AE X (.Call (.Name x p) (e::es) [] pos) (jY f d):=
 PE.imp (Lw hc hg hm hv ha hn hdb he hpl) λ_ _ _ h=>E6 h
def Jw(hm:X.mg x=none)(hv:bootBuiltins x=some (.type T))(hg:Gl X x<|>ε)(hn:x ≠ "__name__"<|>δ)(hdb:(x == ("__debug__" : Str))=false<|>δ):AE X (.Name x pos) (eC<|.ty T):=
 PE.imp (HE (v:=.ty T) hg hm hv rfl hn hdb) λσ H Q ⟨ρ,S,τ,R,r,h⟩=>h ρ H _ .refl R<|.ty T
abbrev A.seq (S:jF):A->Option (ae)
 | .tup xs=>some xs
 | .frz xs=>some xs
 | .ref n=>jE S n
 | _=>none
def Q5{K:au}{H:Hp}{x:A}{v:V}(R:Rel K ρ H S)(h:AV K ρ H x v)(e:x.seq S=some xs):∃p vs,v=.ref p/\(pS K H p vs\/ow K H p vs)/\AVs K ρ H xs vs:=by
 cases h with
 | tup h r=>cases aX e;exact⟨_,_,rfl,.inr<|ow.of h,r⟩
 | frz h r=>cases aX e;exact⟨_,_,rfl,.inl h.SK,r⟩
 | ref h=>
  obtain⟨vs,h1,r1⟩:=R.lst h<|jS e;exact⟨_,vs,rfl,.inl<|pS.of h1,r1⟩
 | _=>cases e
def Hx{K:au}{H:Hp}{x:A}(h:AVs K ρ H [x] vs):∃v,vs=[v]/\AV K ρ H x v:=by
 cases h with
 | cons h t=>cases t;exact⟨_,rfl,h⟩
def Qf{K:au}{H:Hp}{x:A}(h:AVs K ρ H [x,y] vs):∃v w,vs=[v,w]/\AV K ρ H x v/\AV K ρ H y w:=by
 cases h with
 | cons h t=>obtain⟨w,rfl,h'⟩:=Hx t;exact⟨_,_,rfl,h,h'⟩
abbrev f1 (g:A->jF->R A):ae->jF->R A:=λas S=>match as with
 | [x]=>g x S
 | _=>.no
abbrev f2 (g:A->A->jF->R A):ae->jF->R A:=λas S=>match as with
 | [x,y]=>g x y S
 | _=>.no
def T9{g:A->jF->R A}{P:A->jF->Prop}{E:Str->jF->Prop}(h:(f1 g as S).post P E):∃x,as=[x]/\(g x S).post P E:=by
 match as,h with
 | [],h=>exact h.elim
 | [x],h=>exact⟨x,rfl,h⟩
 | _::_::_,h=>exact h.elim
def SE{g:A->A->jF->R A}{P:A->jF->Prop}{E:Str->jF->Prop}(h:(f2 g as S).post P E):∃x y,as=[x,y]/\(g x y S).post P E:=by
 match as,h with
 | [],h=>exact h.elim
 | [_],h=>exact h.elim
 | [x,y],h=>exact⟨x,y,rfl,h⟩
 | _::_::_::_,h=>exact h.elim
def US{g:A->jF->R A}{H:Hp}{Q:VK}(h:rN X (f1 g) vs H Q):∃v,vs=[v]/\∃ρ S x,Rel X.K ρ H S/\AV X.K ρ H x v/\(g x S).post (z0 X ρ H Q) (XE X ρ H):=by
 obtain⟨ρ,S,as,R,v,h⟩:=h;obtain⟨x,rfl,h⟩:=T9 h;obtain⟨w,rfl,hv⟩:=Hx v;exact⟨w,rfl,ρ,S,x,R,hv,h⟩
def rn2{g:A->A->jF->R A}{H:Hp}{Q:VK}(h:rN X (f2 g) vs H Q):∃v w,vs=[v,w]/\∃ρ S x y,Rel X.K ρ H S/\AV X.K ρ H x v/\AV X.K ρ H y w/\(g x y S).post (z0 X ρ H Q) (XE X ρ H):=by
 obtain⟨ρ,S,as,R,v,h⟩:=h;obtain⟨x,y,rfl,h⟩:=SE h;obtain⟨w,d,rfl,hv,c⟩:=Qf v;exact⟨w,d,rfl,ρ,S,x,y,R,hv,c,h⟩
abbrev lZ (x:A)(S:jF):R A:=match x with
 | .str x=>gd (x.length<=sizeLine) (.ok (.int x.length) S)
 | .tup xs=>.ok (.int xs.length) S
 | .frz xs=>.ok (.int xs.length) S
 | .ref n=>opt (jE S n) λxs=>.ok (.int xs.length) S
 | _=>.no
def oh:kO X (.builtin "len") (rN X<|f1 lZ):=kO.imp NJ λvs H Q h0=>by
 kpf_c;clear h0
 cases hv with
 | str z=>
  obtain⟨c,h⟩:=j5 h;exact⟨_,_,rfl,⟨c,rfl⟩,h _ _ _ .refl R<|.int _⟩
 | @tup p xs us h1 r=>exact⟨_,us.length,rfl,.inr ⟨us,(ow.of h1),rfl⟩,by rw[<- r.length];exact h _ _ _ .refl R<|.int _⟩
 | @frz p xs us h1 r=>exact⟨_,us.length,rfl,.inl ⟨us,h1.SK,rfl⟩,by rw[<- r.length];exact h _ _ _ .refl R<|.int _⟩
 | ref hp=>
  kj_on;obtain⟨us,h1,r⟩:=R.lst hp<|jS hn;exact⟨_,us.length,rfl,.inl ⟨us,pS.of h1,rfl⟩,by rw[<- r.length];exact h _ _ _ .refl R<|.int _⟩
 | _=>exact h.elim
abbrev XX (x:A)(S:jF):R A:=match x with
 | .int i=>.ok (.int<|if i<0 then -i else i) S
 | _=>.no
def aaH:kO X (.builtin "abs") (rN X<|f1 XX):=kO.imp PK λvs H Q h0=>by
 kpf_c;clear h0
 cases hv<;>first|exact h.elim|exact⟨_,rfl,h _ _ _ .refl R<|.int _⟩
abbrev aaI (x y:A)(S:jF):R A:=match x,y with
 | .int i,.int j=>.ok (.int<|if j>i then j else i) S
 | _,_=>.no
abbrev aaN (x y:A)(S:jF):R A:=match x,y with
 | .int i,.int j=>.ok (.int<|if j<i then j else i) S
 | _,_=>.no
abbrev Vm (x:A)(S:jF):R A:=match x with
 | .int i=>.ok (.int i) S
 | .bl k=>.ok (.int<|if k then 1 else 0) S
 | .str y=>opt (PySem.intText? y) λn=>gd (y.length<=640) (.ok (.int n) S)
 | _=>.no
abbrev Dy (x y:A)(S:jF):R A:=match x,y with
 | .int i,.int j=>.ok (.rng i j) S
 | _,_=>.no
def OO:kO X (.type "range") (rN X<|f2 Dy):=kO.imp CO λvs H Q h0=>by
 obtain⟨w,e,rfl,ρ,S,x,y,R,hv,c,h⟩:=rn2 h0;clear h0
 cases hv with
 | int i=>
  cases c with
  | int j=>
   refine⟨i,j,rfl,λp hp=>?_⟩;obtain⟨ex,d⟩:=R.im (u:=.rng i j) hp;exact h ρ _ _ ex d<|.rng ko
  | _=>exact h.elim
 | _=>exact h.elim
abbrev BF (i j:Int):Prop:=(-(2 ^ 62)<=i/\i<2 ^ 62/\-(2 ^ 62)<=j/\j<2 ^ 62)/\(j-i).toNat<=1000
instance (i j:Int):Decidable (BF i j):=by unfold BF;infer_instance
abbrev ud (x:A)(S:jF):R A:=match x with
 | .rng i j=>gd (BF i j) (.ok (.ref S.length)<|S++[.lst<|(nN i j).map .int])
 | .tup xs=>.ok (.ref S.length) (S++[.lst xs])
 | .frz xs=>.ok (.ref S.length) (S++[.lst xs])
 | .ref n=>opt (jE S n) λxs=>.ok (.ref S.length) (S++[.lst xs])
 | _=>.no
def zF(hc:X.calm=true):kO X (.type "list") (rN X<|f1 ud):=λpins s σ H vs us Q I rx h0=>by
 kpf_c;clear h0
 cases hv with
 | @rng p i j hp=>
  obtain⟨c,h⟩:=j5 h;exact Bo hc pins s σ H _ us Q I rx ⟨p,i,j,rfl,hp,c.1,c.2,qx R (qS _) .refl h⟩
 | @tup p xs vs h1 r=>exact t7 pins s σ H _ us Q I rx ⟨p,vs,rfl,.inr<|ow.of h1,qx R r .refl h⟩
 | @frz p xs vs h1 r=>exact t7 pins s σ H _ us Q I rx ⟨p,vs,rfl,.inl h1.SK,qx R r .refl h⟩
 | @ref p n hp=>
  kj_on;obtain⟨vs,h1,r⟩:=R.lst hp<|jS hn;exact t7 pins s σ H _ us Q I rx ⟨p,vs,rfl,.inl<|pS.of h1,qx R r .refl h⟩
 | _=>exact h.elim
abbrev z7 (x:A)(S:jF):R A:=match x with
 | .rng i j=>gd (BF i j) (.ok (.tup<|(nN i j).map .int) S)
 | .tup xs=>.ok (.tup xs) S
 | .frz xs=>.ok (.tup xs) S
 | .ref n=>opt (jE S n) λxs=>.ok (.tup xs) S
 | _=>.no
def JA(hc:X.calm=true):kO X (.type "tuple") (rN X<|f1 z7):=λpins s σ H vs us Q I rx h0=>by
 kpf_c;clear h0
 cases hv with
 | @rng p i j hp=>
  obtain⟨c,h⟩:=j5 h;exact AU hc pins s σ H _ us Q I rx ⟨p,i,j,rfl,hp,c.1,c.2,wR R (qS _) .refl h⟩
 | @tup p xs vs h1 r=>exact rZ pins s σ H _ us Q I rx ⟨p,vs,rfl,.inr ⟨(ow.of h1),h _ _ _ .refl R<|.tup h1 r⟩⟩
 | @frz p xs vs h1 r=>exact rZ pins s σ H _ us Q I rx ⟨p,vs,rfl,.inl ⟨h1.SK,wR R r .refl h⟩⟩
 | @ref p n hp=>
  kj_on;obtain⟨vs,h1,r⟩:=R.lst hp<|jS hn;exact rZ pins s σ H _ us Q I rx ⟨p,vs,rfl,.inl ⟨pS.of h1,wR R r .refl h⟩⟩
 | _=>exact h.elim
abbrev A.Mj:ae->Option (List Bool)
 | []=>some []
 | .bl b::xs=>(A.Mj xs).map (b::·)
 | _=>none
theorem NN{K:au}{H:Hp}:∀{xs:ae}{vs:List V}{bs:List Bool},AVs K ρ H xs vs->A.Mj xs=some bs->vs=bs.map V.bl
 | _,_,_,.nil,e=>by cases e;rfl
 | x::xs,_,bs,.cons h t,e=>by
  cases x with
  | bl b=>
   obtain⟨cs,e1,rfl⟩:=aW.mp (show(A.Mj xs).map (b::·)=some bs from e)
   cases h
   rw[NN t e1];rfl
  | _=>cases e
abbrev NS (x:A)(S:jF):R A:=match x with
 | .ref n=>opt (jE S n) λxs=>opt (A.Mj xs) λbs=>.ok (.bl<|bs.all λb=>b) S
 | _=>.no
def aao(hc:X.calm=true):kO X (.builtin "all") (rN X<|f1 NS):=kO.imp (L_ hc) λvs H Q h0=>by
 kpf_c;clear h0
 cases hv with
 | @ref p n hp=>
  kj_on;obtain⟨bs,c,h⟩:=jP h;obtain⟨vs,h1,r⟩:=R.lst hp<|jS hn;rw[NN r c]at h1;exact⟨p,bs,rfl,pS.of h1,h _ _ _ .refl R<|.bl _⟩
 | _=>exact h.elim
abbrev insI (x:Int):ag->ag
 | []=>[x]
 | y::ys=>if x<=y then x::y::ys else y::insI x ys
abbrev sortI:ag->ag
 | []=>[]
 | x::xs=>insI x<|sortI xs
theorem insI_perm(x:Int):∀ys:ag,(insI x ys).Perm (x::ys)
 | []=>dW _
 | y::ys=>by
  unfold insI;by_cases h:x<=y
  ·rw[aS h]
  ·rw[aQ h];exact((insI_perm x ys).cons y).trans (List.Perm.swap x y ys)
theorem sortI_perm:∀xs:ag,(sortI xs).Perm xs
 | []=>dW _
 | x::xs=>(insI_perm x<|sortI xs).trans<|(sortI_perm xs).cons x
theorem J6(x:Int):∀ys:ag,ys.Pairwise (·<=·)->(insI x ys).Pairwise (·<=·)
 | [],_=>c_ _ _
 | y::ys,h=>by
  unfold insI;obtain⟨h1,h2⟩:=cB.mp h;by_cases d:x<=y
  ·rw[aS d];exact cB.mpr ⟨λz c=>(bg.mp c).elim (λe=>e ▸ d) λc=>Int.le_trans d<|h1 z c,h⟩
  ·rw[aQ d];refine cB.mpr ⟨λz c=>?_,J6 x ys h2⟩
   rcases bg.mp ((insI_perm x ys).mem_iff.mp c)with e|c
   ·subst e;lia
   ·exact h1 z c
theorem AK:∀xs:ag,(sortI xs).Pairwise (·<=·)
 | []=>List.Pairwise.nil
 | x::xs=>J6 x _<|AK xs
abbrev A.kd:A->jF->Option Kd
 | .non,_=>some .non
 | .bl _,_=>some .bl
 | .int _,_=>some .int
 | .str _,_=>some .str
 | .tup _,_=>some .tup
 | .ref n,S=>(jE S n).map λ_=>.lst
 | _,_=>none
def Ua{K:au}(k:Kd):PySem.W.kitOne K k.ty (.type "str")=some (decide<|k=.str):=by cases k<;>rfl
abbrev KZ (k:Kd)(c:String):bi:=if c = "int" then some (decide<|k=.int\/k=.bl)else if c = "bool" then some (decide<|k=.bl)else if c = "tuple" then some (decide<|k=.tup)else if c = "list" then some (decide<|k=.lst)else if c = "str" then some (decide<|k=.str)else none
def HW{K:au}{k:Kd}{c:String}{b:Bool}(h:KZ k c=some b):PySem.W.kitOne K k.ty (.type c)=some b:=by
 unfold KZ at h;split at h
 ·rename_i e;subst e;rw[<- h];exact Sj k
 ·split at h
  ·rename_i e;subst e;rw[<- h];exact NB k
  ·split at h
   ·rename_i e;subst e;rw[<- h];exact kit_tuple k
   ·split at h
    ·rename_i e;subst e;rw[<- h];exact Ov k
    ·split at h
     ·rename_i e;subst e;rw[<- h];exact Ua k
     ·cases h
abbrev yO (x y:A)(S:jF):R A:=match y with
 | .ty c=>opt (x.kd S) λk=>opt (KZ k c) λb=>.ok (.bl b) S
 | _=>.no
def Z0{K:au}{H:Hp}{x:A}{v:V}{k:Kd}(R:Rel K ρ H S)(h:AV K ρ H x v)(e:x.kd S=some k):(∃p vs,v=.ref p/\ow K H p vs/\k=.tup)\/Yj H v k:=by
 cases h with
 | non=>cases e;exact .inr rfl
 | bl b=>cases e;exact .inr ⟨b,rfl⟩
 | int i=>cases e;exact .inr ⟨i,rfl⟩
 | str i=>cases e;exact .inr ⟨i,rfl⟩
 | tup h r=>cases e;exact .inl ⟨_,_,rfl,(ow.of h),rfl⟩
 | ref h=>
  obtain⟨xs,e1,e2⟩:=aW.mp e;obtain⟨vs,h1,_⟩:=R.lst h (jS e1)
  cases e2
  exact .inr ⟨_,vs,rfl,h1⟩
 | _=>cases e
def Jy:kO X (.builtin "isinstance") (rN X<|f2 yO):=λpins s σ H vs us Q I rx h0=>by
 obtain⟨w,G,rfl,ρ,S,x,y,R,hv,e,h⟩:=rn2 h0;clear h0
 cases e with
 | ty c=>
  obtain⟨k,m,h⟩:=jP h;obtain⟨b,f,d⟩:=jP h;have d:z0 X ρ H Q (.bl b) S:=d;clear h
  rcases Z0 R hv m with⟨p,vs,rfl,j,rfl⟩|g
  ·obtain⟨B,C,rfl,r1,r2⟩:=vals2 rx;obtain⟨t,q,⟨o,h1,h2,_⟩,_⟩:=I.tuple j
   cases(show _=Value.ref p from r1)
   cases(show _=Value.type c from r2)
   exact cE PySem.W.kitx_tuple I.zA ⟨o,h1,h2⟩ (HW f) (λz=>nomatch z) λF=>⟨.bl b,H,I.tok _,rfl,d _ _ _ .refl R<|.bl _⟩
  ·exact FL (c:=c) pins s σ H _ us Q I rx ⟨w,_,b,rfl,g.ach,HW f,d _ _ _ .refl R<|.bl _⟩
 | _=>exact h.elim
end
abbrev Cw (x:ag):List (ag)->List (ag)
 | []=>[x]
 | y::ys=>if HT.lexLt y x=true then y::Cw x ys else x::y::ys
abbrev mO:List (ag)->List (ag)
 | []=>[]
 | x::xs=>Cw x<|mO xs
abbrev CL (a b:ag):Prop:=HT.lexLt b a=false
def CL.trans{a c:ag}(h1:CL a b)(h2:CL b c):CL a c:=by
 unfold CL at *
 cases e:HT.lexLt c a with
 | false=>rfl
 | true=>
  rcases Sx.Kz (b:=b) e with z|z
  ·rw[h2]at z;cases z
  ·rw[h1]at z;cases z
theorem yu(x:ag):∀ys:List<|ag,(Cw x ys).Perm (x::ys)
 | []=>dW _
 | y::ys=>by
  unfold Cw;by_cases h:HT.lexLt y x=true
  ·rw[aS h];exact((yu x ys).cons y).trans (List.Perm.swap x y ys)
  ·rw[aQ h]
theorem kC:∀xs:List<|ag,(mO xs).Perm xs
 | []=>dW _
 | x::xs=>(yu x<|mO xs).trans<|(kC xs).cons x
theorem IA(x:ag):∀ys:List<|ag,ys.Pairwise CL->(Cw x ys).Pairwise CL
 | [],_=>c_ _ _
 | y::ys,h=>by
  unfold Cw;obtain⟨h1,h2⟩:=cB.mp h;by_cases f:HT.lexLt y x=true
  ·rw[aS f];refine cB.mpr ⟨λz c=>?_,IA x ys h2⟩
   rcases bg.mp ((yu x ys).mem_iff.mp c)with e|c
   ·subst e;unfold CL
    cases e:HT.lexLt z y with
    | false=>rfl
    | true=>have:=Sx.Dm f e;rw[Sx.CG]at this;cases this
   ·exact h1 z c
  ·rw[aQ f];have d:CL x y:=by unfold CL;simpa using f
   exact cB.mpr ⟨λz c=>(bg.mp c).elim (λe=>e ▸ d) λc=>d.trans<|h1 z c,h⟩
theorem uy:∀xs:List<|ag,(mO xs).Pairwise CL
 | []=>List.Pairwise.nil
 | x::xs=>IA x _<|uy xs
def Gu{xs:List<|ag}(p:xs.Perm ys)(h:xs.Pairwise CL):xs=mO ys:=
 eG (λa b _ _ h1 h2=>(Sx.w4 h1 h2).symm) h (uy ys) (p.trans (kC ys).symm)
theorem pig:∀(N:Nat) (l:am),l.Nodup->(∀x∈l,x<N)->l.length<=N
 | 0,l,_,h=>by
  cases l with
  | nil=>exact aL _
  | cons a l=>exact absurd (h a<|aN ..)<|eo _
 | N+1,l,nd,h=>by
  have h1:=pig N (l.erase N) (nd.erase N) λx c=>by
   have:=h x<|List.mem_of_mem_erase c;have:x≠N:=λz=>by
    subst z;exact(List.Nodup.not_mem_erase nd) c
   lia
  have:=List.le_length_erase (l:=l) (a:=N)
  lia
def A2{N:Nat}{g:Nat->Nat}(h:∀i,i<N->g i<N)(inj:∀i j,i<j->j<N->g i≠g j):((List.range N).map g).Perm (List.range N):=by
 have nd:((List.range N).map g).Nodup:=by
  unfold List.Nodup;rw[fY];intro i j d k f;rw[aG,cA]at d k;rw[dQ,dQ,dX,dX];exact inj i j f k
 have lt:∀x∈(List.range N).map g,x<N:=λx c=>by
  obtain⟨i,d,rfl⟩:=br.mp c;exact h i<|c5.mp d
 refine(iU nd List.nodup_range).mpr λa=>⟨λe=>c5.mpr<|lt a e,λe=>?_⟩;refine Classical.byContradiction λhn=>?_;have:=pig N (a::(List.range N).map g) (bQ.mpr ⟨hn,nd⟩) λx c=>by
  rcases bg.mp c with rfl|c
  ·exact c5.mp e
  ·exact lt x c
 rw[bC,aG,cA]at this
 lia
def range_getD{α:Type}(l:List α)(d:α):(List.range l.length).map (λi=>l.getD i d)=l:=by
 apply g_;intro i;rw[aV];by_cases c:i<l.length
 ·rw[f7 c];show some (l.getD i d)=_;rw[aJ,aF c];rfl
 ·rw[ir<|by rw[cA];lia,ir ()];rfl
def XW{kss:List<|ag}{g:Nat->Nat}(c:Sx.Cl g 0 kss.length)(so:Sx.So (Sx.KP kss) g 0 kss.length):(List.range kss.length).map (λi=>kss.getD (g i) [])=mO kss:=by
 refine Gu ?_ ?_
 ·have p:=A2 (N:=kss.length) (g:=g) (λi f=>(c i (bM _) f).2) λi j d e z=>by
   have:=so i j (bM _) d e;rw[z]at this;exact this.Oi
  have:=p.map λi=>kss.getD i [];rw[bD,range_getD]at this;exact this
 ·rw[fY];intro i j f e d;rw[aG,cA]at f e;rw[dQ,dQ,dX,dX];exact(so i j (bM _) d e).ge
abbrev Yh:ae->Option (List<|ag)
 | []=>some []
 | .tup xs::r=>match A.ints xs with
  | some (k::ks)=>(Yh r).map λc=>(k::ks)::c
  | _=>none
 | _=>none
theorem UN{K:au}{H:Hp}:∀{xs:ae}{vs:List V}{kss:List<|ag},AVs K ρ H xs vs->Yh xs=some kss ->
  ∃rs:bb,vs=rs.map V.ref/\rs.length=kss.length/\∀(i:Nat) (r:ak) (ks:ag),rs[i]?=some r->kss[i]?=some ks->ow K H r (ks.map V.int)/\ks≠[]/\AV K ρ H (.tup<|ks.map .int) (.ref r)
 | [],_,_,.nil,e=>by cases e;exact⟨[],rfl,rfl,λi r ks h=>by simp at h⟩
 | x::xs,_,kss,.cons h t,e=>by
  cases h with
  | tup h r=>
   rename_i a ys us;unfold Yh at e
   cases e1:A.ints ys with
   | none=>rw[e1]at e;cases e
   | some ks=>
    rw[e1]at e
    cases ks with
    | nil=>cases e
    | cons k ks=>
     obtain⟨d,e2,rfl⟩:=aW.mp e;obtain⟨rs,rfl,j,f⟩:=UN t e2;have m:=rH r e1;subst m;refine⟨a::rs,rfl,by rw[bC,bC,j],λi g c h1 h2=>?_⟩
     cases i with
     | zero=>
      cases h1
      cases h2
      exact⟨ow.of h,(λz=>nomatch z),.tup h<|qS _⟩
     | succ i=>exact f i g c (by simpa using h1)<|by simpa using h2
  | _=>cases e
theorem G5{K:au}{H:Hp}{α:Type}{f:α->A}{h:α->V}:∀{l:List α},(∀a∈l,AV K ρ H (f a)<|h a)->AVs K ρ H (l.map f) (l.map h)
 | [],_=>.nil
 | a::l,e=>.cons (e a<|aN ..)<|G5 λb c=>e b<|aK _ c
abbrev RS.post (r:RS)(N:ae->jF->Prop)(T:A->jF->Prop)(B C:ae->jF->Prop)(E:Str->jF->Prop):Prop:=match r with
 | .nx τ S=>N τ S
 | .rt a S=>T a S
 | .bk τ S=>B τ S
 | .ct τ S=>C τ S
 | .ex c S=>E c S
 | .no=>False
abbrev RS.of {α:Type}(r:R α)(f:α->jF->RS):RS:=match r with
 | .ok a S=>f a S
 | .ex c S=>.ex c S
 | .no=>.no
def of_post{α:Type}{r:R α}{f:α->jF->RS}{N B C:ae->jF->Prop}{T:A->jF->Prop}{E:Str->jF->Prop}(h:(RS.of r f).post N T B C E):r.post (λa S=>(f a S).post N T B C E) E:=by
 cases r<;>exact h
def RS.mono{r:RS}{N B C N' B' C':ae->jF->Prop}{T T':A->jF->Prop}{E E':Str->jF->Prop}(h:r.post N T B C E)(hn:∀τ S,N τ S->N' τ S)(ht:∀a S,T a S->T' a S)(hb:∀τ S,B τ S->B' τ S)(hc:∀τ S,C τ S->C' τ S)(he:∀c S,E c S->E' c S):r.post N' T' B' C' E':=by
 cases r with
 | nx τ S=>exact hn _ _ h
 | rt a S=>exact ht _ _ h
 | bk τ S=>exact hb _ _ h
 | ct τ S=>exact hc _ _ h
 | ex c S=>exact he _ _ h
 | no=>exact h.elim
abbrev Ig (X:Cx)(ρ:bb)(H:Hp)(N:L2.St->Hp->Prop):ae->jF->Prop:=λd e=>∀ρ' H' c,Ext ρ ρ' H H'->Rel X.K ρ' H' e->SR X.K ρ' H' d c->N c H'
def Ig.ext{X:Cx}{H H':Hp}{N:L2.St->Hp->Prop}(h:Ig X ρ H N τ S)(e:Ext ρ ρ' H H'):Ig X ρ' H' N τ S:=λρ2 H2 c e2=>h ρ2 H2 c<|e.trans e2
abbrev zf (X:Cx)(ρ:bb)(H:Hp)(D:Ends)(r:RS):Prop:=r.post (Ig X ρ H D.nx) (z0 X ρ H D.rt) (Ig X ρ H D.bk) (Ig X ρ H D.ct)<|XE X ρ H
def zf.ext{X:Cx}{H H':Hp}{D:Ends}{r:RS}(h:zf X ρ H D r)(e:Ext ρ ρ' H H'):zf X ρ' H' D r:=RS.mono h (λ_ _ z=>z.ext e) (λ_ _ z=>z.ext e) (λ_ _ z=>z.ext e) (λ_ _ z=>z.ext e) λ_ _ z=>z.ext e
abbrev tS (X:Cx)(c:Sm):TS:=λD σ H=>∃ρ S τ,Rel X.K ρ H S/\SR X.K ρ H τ σ/\zf X ρ H D (c τ S)
abbrev AS (X:Cx)(st:aE)(c:Sm):Prop:=PS X st<|tS X c
abbrev KN (X:Cx)(sts:List aE)(c:Sm):Prop:=Bp X sts<|tS X c
abbrev tG (X:Cx)(g:Tg):TG:=λv σ H Q=>∃ρ S τ a,Rel X.K ρ H S/\SR X.K ρ H τ σ/\AV X.K ρ H a v/\(g a τ S).post (Ig X ρ H Q) (XE X ρ H)
abbrev AG (X:Cx)(e:aC)(g:Tg):Prop:=PG X e<|tG X g
meta abbrev Ri:=ae->ae->jF->R (ae)
abbrev tGs (X:Cx)(g:Ri):U8:=λvs σ H Q=>∃ρ S τ as,Rel X.K ρ H S/\SR X.K ρ H τ σ/\AVs X.K ρ H as vs/\(g as τ S).post (Ig X ρ H Q) (XE X ρ H)
abbrev AGs (X:Cx)(es:List aC)(g:Ri):Prop:=Z4 X es<|tGs X g
section
variable {X:Cx}{pos:Pos}{a b e:aC}{st:aE}{rest:List aE}{c d:Sm}
def PS.imp{t t':TS}(h:PS X st t)(i:∀D σ H,t' D σ H->t D σ H):PS X st t':=λpins s σ H D I q=>h pins s σ H D I<|i D σ H q
def Bp.imp{t t':TS}(h:Bp X rest t)(i:∀D σ H,t' D σ H->t D σ H):Bp X rest t':=λpins s σ H D I q=>h pins s σ H D I<|i D σ H q
def PG.imp{t t':TG}(h:PG X e t)(i:∀v σ H Q,t' v σ H Q->t v σ H Q):PG X e t':=λpins s σ H v u Q I r q=>h pins s σ H v u Q I r<|i _ _ _ _ q
abbrev j4 (i:Nat):Tg:=λa τ S=>.ok (τ.set i a) S
def jV{i:Nat}{x:Str}(hN:X.N.Nodup)(hi:X.N[i]?=some x<|>ε)(hx:Loc X.env.scope x:=by first|exact Or.inl rfl|exact Or.inr rfl)(hf:X.fn x=true\/X.env.scope.names.lookup x=some .local<|>γ):AG X (.Name x pos) (j4 i):=
 PG.imp (Dq hN hi hx hf) λv σ H Q ⟨ρ,S,τ,a,R,r,va,h⟩=>h ρ H _ .refl R<|r.set va
abbrev zx:Ri:=λas τ S=>match as with
 | []=>.ok τ S
 | _=>.no
abbrev rE (g:Tg)(gs:Ri):Ri:=λas τ S=>match as with
 | a::as=>(g a τ S).bind λc S1=>gs as c S1
 | []=>.no
def nu:AGs X [] zx:=λpins s σ H vs us Q I r ⟨ρ,S,τ,as,R,c,va,h⟩=>Sb pins s σ H vs us Q I r (by
 cases va with
 | nil=>exact⟨rfl,h ρ H σ .refl R c⟩
 | cons _ _=>exact h.elim)
def kg{g:Tg}{gs:Ri}(h1:AG X e g)(h2:AGs X es gs)(hs:(assignEach (e::es) X.env).map (·.2)=assign e X.env::(assignEach es X.env).map (·.2)<|>ε):AGs X (e::es) (rE g gs):=
 λpins s σ H vs us Q I r ⟨ρ,S,τ,as,R,m,va,h⟩=>MF h1 h2 hs pins s σ H vs us Q I r (by
  cases va with
  | nil=>exact h.elim
  | cons f j=>exact⟨_,_,rfl,ρ,S,τ,_,R,m,f,jJ (jQ h) .refl λc S1 h1 ρ1 H1 k e1 R1 d=>⟨ρ1,S1,c,_,R1,d,j.ext e1,jJ h1 e1 λ_ _ z=>z.ext e1⟩⟩)
abbrev zm (n:Nat)(gs:Ri):Tg:=λa τ S=>match a with
 | .tup xs | .ktu xs=>gd (xs.length=n) (gs xs τ S)
 | _=>.no
def o_{k n:Nat}{gs:Ri}(hc:X.calm=true)(h:AGs X es gs)(hn:(assignEach es X.env).length=n<|>ε)(hst:(assignEach es X.env).findIdx? (·.1)=none<|>ε):AG X (.Tuple es k pos) (zm n gs):=
 PG.imp (Yn hc h hn hst) λv σ H Q h9=>by
  obtain⟨ρ,S,τ,a,R,r,va,h⟩:=h9
  cases va with
  | tup h1 r1=>
   obtain⟨c,h⟩:=j5 h;exact⟨_,_,rfl,ow.of h1,by rw[<- r1.length];exact c,ρ,S,τ,_,R,r,r1,h⟩
  | ktu h1 r1=>
   obtain⟨c,h⟩:=j5 h;exact⟨_,_,rfl,.inr h1,by rw[<- r1.length];exact c,ρ,S,τ,_,R,r,r1,h⟩
  | _=>exact h.elim
abbrev FD (o i v:A)(S:jF):R Unit:=match o,i with
 | .ref n,.int k=>opt (jE S n) λxs=>opt (Ec xs.length k) λj=>.ok Unit.unit (S.set n<|.lst<|xs.set j v)
 | _,_=>.no
abbrev rSt (X:Cx):Hh:=λo i v H Q=>∃ρ S d c e,Rel X.K ρ H S/\AV X.K ρ H d o/\AV X.K ρ H c i/\AV X.K ρ H e v/\(FD d c e S).post (λ_ f=>∀ρ' H',Ext ρ ρ' H H'->Rel X.K ρ' H' f->Q H') (XE X ρ H)
def Rw:F4 X (rSt X):=λpins s σ H o i v c iv u Q I q m g h9=>by
 obtain⟨ρ,S,C,B,t,R,h1,h2,h3,h⟩:=h9
 cases h1 with
 | @ref p n hp=>
  cases h2 with
  | int k=>
   kj_on;obtain⟨j,f,h⟩:=jP h;obtain⟨vs,e,r⟩:=R.lst hp<|jS hn;obtain⟨ex,d⟩:=R.put hp (jS hn)<|r.set h3 j;exact set_list pins s σ H _ _ v c iv u Q I q m g ⟨p,vs,k,j,rfl,rfl,e,by rw[<- r.length];exact f,h _ _ ex d⟩
  | _=>exact h.elim
 | _=>exact h.elim
abbrev RV (co ci:Ex):Tg:=λa τ S=>(co τ S).bind λo S1=>(ci τ S1).bind λi S2=>(FD o i a S2).bind λ_ S3=>.ok τ S3
def yc{co ci:Ex}(ho:AE X o co)(hi:AE X i ci)
  (ha:(∀v,assign (.Subscript o i pos) X.env v=(do
   let ov <- holding [v] (eval o X.env)
   let iv <- holding [v,ov] (eval i X.env)
   standAt pos
   holding [v,ov,iv] (setItem ov iv v)
   release [v,ov,iv] []))<|>ζ):AG X (.Subscript o i pos) (RV co ci):=PG.imp (D6 ho hi Rw ha) λv σ H Q h9=>by
 obtain⟨ρ,S,τ,a,R,r,va,h⟩:=h9;fin2;kd_p;ksr_p
abbrev pJ:Sm:=λτ S=>.nx τ S
abbrev jX (c d:Sm):Sm:=λτ S=>match c τ S with
 | .nx e f=>d e f
 | r=>r
def kY:KN X [] pJ:=Bp.imp Uy λD σ H ⟨ρ,S,τ,R,r,h⟩=>h ρ H σ .refl R r
def Sw{D:Ends}{H:Hp}(h:tS X (jX c d) D σ H):aaX (tS X c) (tS X d) D σ H:=by
 o_rec;refine⟨ρ,S,τ,R,r,?_⟩;unfold jX at h
 cases hc:c τ S with
 | nx e S1=>
  rw[hc]at h;exact λρ1 H1 f e1 R1 r1=>⟨ρ1,S1,e,R1,r1,zf.ext h e1⟩
 | rt a S1=>rw[hc]at h;exact h
 | bk e S1=>rw[hc]at h;exact h
 | ct e S1=>rw[hc]at h;exact h
 | ex x S1=>rw[hc]at h;exact h
 | no=>rw[hc]at h;exact h
def jG(h1:AS X st c)(h2:KN X rest d):KN X (st::rest) (jX c d):=Bp.imp (PC h1 h2) λD σ H h=>Sw h
def jM(h1:AS X st c):KN X [st] c:=Si h1
abbrev Xr:Sm:=λτ S=>.bk τ S
abbrev aaF:Sm:=λτ S=>.ct τ S
abbrev mL (e:Ex):Sm:=λτ S=>.of (e τ S) λ_ S1=>.nx τ S1
def lV{f:Ex}(he:AE X e f)(hs:swapsWith e none pos.line X.env=pure false<|>ε):AS X (.Expr e pos) (mL f):=PS.imp (RN he hs) λD σ H ⟨ρ,S,τ,R,r,h⟩=>
 ⟨ρ,S,τ,R,r,jJ (of_post h) .refl λa S1 h1 ρ1 H1 x e1 R1 v1=>h1 ρ1 H1 σ e1 R1<|r.ext e1⟩
abbrev kZ (e:Ex):Sm:=λτ S=>.of (e τ S) λa S1=>.rt a S1
def j3{f:Ex}(he:AE X e f):AS X (.Return (some e) pos) (kZ f):=PS.imp (X4 he) λD σ H ⟨ρ,S,τ,R,r,h⟩=>⟨ρ,S,τ,R,r,jJ (of_post h) .refl λa S1 h1=>h1⟩
abbrev Zm:Sm:=λτ S=>.rt .non S
abbrev wD (t:Te)(c d:Sm):Sm:=λτ S=>.of (t τ S) λb S1=>match b with|true=>c τ S1|false=>d τ S1
def ng{t:Te}(ht:AT X e t)(ha:KN X ca c)(hb:KN X cb d):AS X (.If e ca cb pos) (wD t c d):=PS.imp (ZI ht ha hb) λD σ H h9=>by
 z_go;refine⟨ρ,S,τ,R,r,jJ (of_post h) .refl λb S1 h1 ρ1 H1 e1 R1=>?_⟩
 cases b with
 | true=>rw[aS rfl];exact⟨ρ1,S1,τ,R1,r.ext e1,zf.ext h1 e1⟩
 | false=>rw[aQ bG];exact⟨ρ1,S1,τ,R1,r.ext e1,zf.ext h1 e1⟩
abbrev kc (e:Ex)(g:Tg):Sm:=λτ S=>.of (e τ S) λa S1=>.of (g a τ S1) λc S2=>.nx c S2
def Sa{f:Ex}{g:Tg}{D:Ends}{H:Hp}(h:tS X (kc f g) D σ H):Og (tE X f) (tG X g) D σ H:=by
 o_rec;exact⟨ρ,S,τ,R,r,jJ (of_post h) .refl λa S1 h1 ρ1 H1 x e1 R1 v1=>⟨ρ1,S1,τ,a,R1,r.ext e1,v1,jJ (of_post h1) e1 λc S2 h2=>Ig.ext h2 e1⟩⟩
def qa{tg:aC}{f:Ex}{g:Tg}(he:AE X e f)(hg:AG X tg g)(hs:swapsWithSole [tg] e pos.line X.env=pure false<|>ε)(hw:swappedStores [tg] e X.env=pure none<|>ε)
  (h1:(assignEach [tg] X.env).map (·.2)=[assign tg X.env]<|>ε):AS X (.Assign [tg] e pos) (kc f g):=PS.imp (XA he hg hs hw h1) λD σ H h=>Sa h
def j0{i:Nat}{x:Str}{f:Ex}(hN:X.N.Nodup)(he:AE X e f)(hi:X.N[i]?=some x<|>ε)(hx:Loc X.env.scope x:=by first|exact Or.inl rfl|exact Or.inr rfl)(hs:(swapsWith e (some<|.Name x pos') pos.line X.env=pure false)<|>ε)(hf:X.fn x=true\/X.env.scope.names.lookup x=some .local<|>γ) :
  AS X (.Assign [.Name x pos'] e pos) (kc f<|j4 i):=PS.imp (Y4 hN hi hx he hs hf) λD σ H ⟨ρ,S,τ,R,r,h⟩=>
 ⟨ρ,S,τ,R,r,jJ (of_post h) .refl λa S1 h1 ρ1 H1 x e1 R1 v1=>h1 ρ1 H1 _ e1 R1<|(r.ext e1).set v1⟩
abbrev aby (i j:Nat)(c:qC):Sm:=λτ S=>.of (c τ S) λas S1=>match as with
 | [a,b]=>.nx ((τ.set i a).set j b) S1
 | _=>.no
abbrev ip (X:Cx)(f:A->A->jF->R A):ZE:=λx y H Q=>∃ρ S a b,Rel X.K ρ H S/\AV X.K ρ H a x/\AV X.K ρ H b y/\(f a b S).post (z0 X ρ H Q) (XE X ρ H)
abbrev Tv (a b:A)(S:jF):R A:=match a,b with
 | .int i,.int j=>.ok (.int<|i+j) S
 | _,_=>.no
def Jz:PIp X .Add (ip X Tv):=λpins s σ H x y v u Q I r1 r2 h9=>by
 w_up
 cases va with
 | int i=>
  cases vb with
  | int j=>exact Wf pins s σ H _ _ v u Q I r1 r2 ⟨i,j,rfl,rfl,h _ _ _ .refl R<|.int _⟩
  | _=>exact h.elim
 | _=>exact h.elim
abbrev Lk (i:Nat)(f:A->A->jF->R A)(e:Ex):Sm:=λτ S=>if (τ.getD i .unb).o8 then .no else .of (e τ S) λb S1=>.of (f (τ.getD i .unb) b S1) λc S2=>.nx (τ.set i c) S2
def PU{i:Nat}{x:Str}{c:Ex}{f:A->A->jF->R A}(hN:X.N.Nodup)(he:AE X e c)(ho:PIp X op<|ip X f)(hi:X.N[i]?=some x<|>ε)(hx:Loc X.env.scope x:=by first|exact Or.inl rfl|exact Or.inr rfl)(hf:X.fn x=true\/X.env.scope.names.lookup x=some .local<|>γ) :
  AS X (.AugAssign (.Name x pos') op e pos) (Lk i f c):=PS.imp (Yu hN hi hx he ho hf) λD σ H h9=>by
 z_go;have d:∀x,τ[i]?=some x->x.o8=false->(RS.of (c τ S) λb S1=>.of (f x b S1) λc S2=>.nx (τ.set i c) S2).post (Ig X ρ H D.nx) (z0 X ρ H D.rt) (Ig X ρ H D.bk) (Ig X ρ H D.ct) (XE X ρ H) ->
   ∃x,σ[i]?=some (some x)/\tE X c σ H λy H1=>ip X f x y H1 λz H2=>D.nx (σ.set i<|some z) H2:=by
  intro x hi hx h
  rcases r.at i x hi with z|⟨v,e,q⟩
  ·subst z;cases hx
  ·refine⟨v,e,ρ,S,τ,R,r,jJ (of_post h) .refl λb S1 h1 ρ1 H1 y e1 R1 v1=>⟨ρ1,S1,x,b,R1,q.ext e1,v1,jJ (of_post h1) e1 λw S2 h2 ρ2 H2 z e2 R2 v2=>?_⟩⟩;exact h2 ρ2 H2 _ (e1.trans e2) R2<|(r.ext<|e1.trans e2).set v2
 unfold Lk zf at h;rw[aJ]at h
 cases hi:τ[i]? with
 | none=>rw[hi]at h;exact h.elim
 | some x=>
  rw[hi]at h
  cases hx:x.o8 with
  | true=>rw[show(some x).getD .unb=x from rfl,hx]at h;exact h.elim
  | false=>rw[show(some x).getD .unb=x from rfl,hx]at h;exact d x hi hx h
abbrev RA (a b:A)(S:jF):R A:=match a,b with
 | .ref n,.int i=>opt (jE S n) λxs=>gd (0<=i) (opt (xs[i.toNat]?) λx=>.ok x S)
 | _,_=>.no
abbrev aax (co ci ce:Ex)(f:A->A->jF->R A):Sm:=λτ S=>.of (co τ S) λo S1=>.of (ci τ S1) λi S2=>.of (RA o i S2) λx S3=>.of (ce τ S3) λy c=>.of (f x y c) λz e=>.of (FD o i z e) λ_ d=>.nx τ d
abbrev lH (t:Te)(c:Sm):Nat->Sm
 | 0=>λ_ _=>.no
 | n+1=>λτ S=>.of (t τ S) λb S1=>match b with
  | false=>.nx τ S1
  | true=>match c τ S1 with
   | .nx d e=>lH t c n d e
   | .ct d e=>lH t c n d e
   | .bk d e=>.nx d e
   | r=>r
def zk(n:Nat){t:Te}(hp:PassesOwn (model X.prog X.w) X.A X.env X.xe)(ht:AT X e t)(hb:KN X body c):AS X (.While e body [] pos) (lH t c n):=PS.imp (MO hp ht hb) λD σ H h9=>by
 z_go;refine⟨λm j H'=>∃ρ' f d,Ext ρ ρ' H H'/\Rel X.K ρ' H' f/\SR X.K ρ' H' d j/\zf X ρ' H' D (lH t c m d f),⟨n,ρ,S,τ,.refl,R,r,h⟩,?_⟩;rintro m q H1 ⟨ρ1,S1,g,e1,R1,r1,h1⟩
 cases m with
 | zero=>exact h1.elim
 | succ m=>
  refine⟨ρ1,S1,g,R1,r1,jJ (of_post h1) .refl λb S2 h2 ρ2 H2 e2 R2=>?_⟩
  cases b with
  | false=>rw[aQ bG];exact h2 ρ2 H2 q e2 R2 (r1.ext e2)
  | true=>
   rw[aS rfl];refine⟨λj H'=>∃ρ' f d,Ext ρ ρ' H H'/\Rel X.K ρ' H' f/\SR X.K ρ' H' d j/\zf X ρ' H' D (lH t c m d f),λj H' z=>⟨m,eS _,z⟩,ρ2,S2,g,R2,r1.ext e2,?_⟩;have h2:zf X ρ1 H1 D (match c g S2 with
    | .nx d f=>lH t c m d f
    | .ct d f=>lH t c m d f
    | .bk d f=>.nx d f
    | r=>r):=h2
   cases hc:c g S2 with
   | nx k S3=>rw[hc]at h2;exact λρ3 H3 p e3 R3 B=>⟨ρ3,S3,k,(e1.trans e2).trans e3,R3,B,zf.ext h2<|e2.trans e3⟩
   | ct k S3=>rw[hc]at h2;exact λρ3 H3 p e3 R3 B=>⟨ρ3,S3,k,(e1.trans e2).trans e3,R3,B,zf.ext h2<|e2.trans e3⟩
   | bk k S3=>rw[hc]at h2;exact Ig.ext h2 e2
   | rt a S3=>rw[hc]at h2;exact z0.ext h2 e2
   | ex x S3=>rw[hc]at h2;exact XE.ext h2 e2
   | no=>rw[hc]at h2;exact h2
end
structure Src where
 k:Nat
 get:Nat->jF->Option A
 fin:jF->Bool
structure JR (K:au)(s:Src)(J:It)(ρ0:bb)(H0:Hp):Prop where
 go:∀(i:Nat) (S:jF) (H:Hp) (ρ:bb) (x:A),Ext0 ρ0 ρ H0 H->Rel K ρ H S->s.get i S=some x->J.go i H/\∀v H',J.yld i H v H'->Ext ρ ρ H H'/\Rel K ρ H' S/\AV K ρ H' x v
 stop:∀(S:jF) (H:Hp) (ρ:bb),Ext0 ρ0 ρ H0 H->Rel K ρ H S->s.fin S=true->J.stop s.k H
meta abbrev Ic:=ae->jF->R Src
abbrev tI (X:Cx)(c:Ic):TI:=λσ H Q=>∃ρ S τ,Rel X.K ρ H S/\SR X.K ρ H τ σ/\(c τ S).post (λs d=>∀ρ' H' J,Ext ρ ρ' H H'->Rel X.K ρ' H' d->JR X.K s J ρ' H'->Q J H') (XE X ρ H)
abbrev AI (X:Cx)(tg iter:aC)(c:Ic):Prop:=PI X tg iter<|tI X c
abbrev yj (xs:ae):Src:=⟨xs.length,λi _=>xs[i]?,λ_=>true⟩
abbrev kB (n k:Nat):Src:=⟨k,λi S=>(jE S n).bind (·[i]?),λS=>match jE S n with
 | some ys=>decide (ys.length<=k)
 | none=>false⟩
abbrev qj (lo hi:Int):Src:=⟨(hi-lo).toNat,λi _=>if i<(hi-lo).toNat then some (.int<|lo+i)else none,λ_=>true⟩
abbrev kD (c:Ex):Ic:=λτ S=>(c τ S).bind λa S1=>match a with
 | .tup xs=>.ok (yj xs) S1
 | .frz xs=>.ok (yj xs) S1
 | .ref n=>opt (jE S1 n) λxs=>.ok (kB n xs.length) S1
 | .str x=>gd (x.cps.all (· < 128)=true) (.ok (yj<|x.cps.toList.map λc=>.str ⟨#[c]⟩) S1)
 | _=>.no
section
variable {X:Cx}{pos:Pos}{tg e a b:aC}
def Xj{K:au}{H0:Hp}{p:ak}(h:ow K H0 p vs)(r:AVs K ρ0 H0 xs vs):JR K (yj xs) (Itt K p) ρ0 H0 where
 go:=λi S H ρ x e R g=>by
  obtain⟨v,c,d⟩:=(AVs.mJ e r).get g;have hs:=e.sqT h;refine⟨⟨vs,v,hs,c⟩,λw H' ⟨e1,y⟩=>?_⟩;subst e1;have:=y vs hs;rw[c]at this
  cases this
  exact⟨.refl,R,d⟩
 stop:=λS H ρ e R _=>⟨vs,e.sqT h,by rw[<- r.length];exact aL _⟩
def Xh{K:au}{H0:Hp}{p:ak}(h:Fz K H0 p vs)(r:AVs K ρ0 H0 xs vs):JR K (yj xs) (Itl K p) ρ0 H0 where
 go:=λi S H ρ x e R g=>by
  obtain⟨v,c,d⟩:=(AVs.mJ e r).get g;have hs:=(e.fz h).SK;refine⟨⟨vs,v,hs,c⟩,λw H' ⟨e1,y⟩=>?_⟩;subst e1;have:=y vs hs;rw[c]at this
  cases this
  exact⟨.refl,R,d⟩
 stop:=λS H ρ e R _=>⟨vs,(e.fz h).SK,by rw[<- r.length];exact aL _⟩
def Xs{K:au}{ρ0:bb}{H0:Hp}{p:ak}{n k:Nat}(h:ρ0[n]?=some p):JR K (kB n k) (Itl K p) ρ0 H0 where
 go:=λi S H ρ x e R g=>by
  obtain⟨ys,hn,f⟩:=bX.mp<|show(jE S n).bind (·[i]?)=some x from g;obtain⟨vs,h1,r⟩:=R.lst (e.get h)<|jS hn;obtain⟨v,c,d⟩:=r.get f;refine⟨⟨vs,v,pS.of h1,c⟩,λw H' ⟨e1,y⟩=>?_⟩;subst e1;have:=y vs<|pS.of h1;rw[c]at this
  cases this
  exact⟨.refl,R,d⟩
 stop:=λS H ρ e R g=>by
  have g:(match jE S n with
   | some ys=>decide (ys.length<=k)
   | none=>false)=true:=g
  cases hn:jE S n with
  | none=>rw[hn]at g;cases g
  | some ys=>
   rw[hn]at g;obtain⟨vs,h1,r⟩:=R.lst (e.get h)<|jS hn;exact⟨vs,pS.of h1,by rw[<- r.length];exact bK g⟩
def Gz{K:au}{H0:Hp}{lo hi:Int}:JR K (qj lo hi) (Y9 lo (hi-lo).toNat) ρ0 H0 where
 go:=λi S H ρ x e R g=>by
  have g:(if i<(hi-lo).toNat then some (A.int<|lo+i)else none)=some x:=g;by_cases c:i<(hi-lo).toNat
  ·rw[aS c]at g
   cases g
   refine⟨c,λw H' ⟨e1,y⟩=>?_⟩;subst e1 y;exact⟨.refl,R,.int _⟩
  ·rw[aQ c]at g;cases g
 stop:=λS H ρ e R _=>aL _
def YZ{K:au}{H0:Hp}{x:Str}:JR K (yj<|x.cps.toList.map λc=>A.str ⟨#[c]⟩) (Its x) ρ0 H0 where
 go:=λi S H ρ y e R g=>by
  have g:(x.cps.toList.map λc=>A.str ⟨#[c]⟩)[i]?=some y:=g;rw[aV]at g;obtain⟨c,hc,rfl⟩:=aW.mp g;rw[dZ]at hc;refine⟨(Array.getElem?_eq_some_iff.mp hc).1,λw H' ⟨e1,j,d,f⟩=>?_⟩;rw[hc]at d
  cases d
  subst e1 f;exact⟨.refl,R,.str _⟩
 stop:=λS H ρ e R _=>by
  show(x.cps.toList.map λc=>A.str ⟨#[c]⟩).length=x.cps.size;rw[aG,dI]
def kQ{c:Ex}(he:AE X e c):AI X tg e (kD c):=λpins s σ H Q I h9=>by
 z_go;have d:=jQ h
 cases hc:c τ S with
 | no=>rw[hc]at d;exact d.elim
 | ex x S1=>
  rw[hc]at d;exact QM he pins s σ H Q I ⟨ρ,S,τ,R,r,by rw[hc];exact d⟩
 | ok a S1=>
  rw[hc]at d
  cases a with
  | tup xs=>
   refine QM he pins s σ H Q I ⟨ρ,S,τ,R,r,?_⟩;rw[hc];intro ρ1 H1 x e1 R1 v1
   cases v1 with
   | tup h1 r1=>exact⟨_,rfl,⟨_,(ow.of h1)⟩,d ρ1 H1 _ e1 R1<|Xj (ow.of h1) r1⟩
  | frz xs=>
   refine JQ he pins s σ H Q I ⟨ρ,S,τ,R,r,?_⟩;rw[hc];intro ρ1 H1 x e1 R1 v1
   cases v1 with
   | frz h1 r1=>exact⟨_,rfl,⟨_,h1.SK⟩,d ρ1 H1 _ e1 R1<|Xh h1 r1⟩
  | ref n=>
   obtain⟨xs,hn,d⟩:=jP d;refine JQ he pins s σ H Q I ⟨ρ,S,τ,R,r,?_⟩;rw[hc];intro ρ1 H1 x e1 R1 v1
   cases v1 with
   | ref hp=>
    obtain⟨vs,h1,r1⟩:=R1.lst hp<|jS hn;exact⟨_,rfl,⟨_,pS.of h1⟩,d ρ1 H1 _ e1 R1<|Xs hp⟩
  | str x=>
   obtain⟨f,d⟩:=j5 d;refine XR he pins s σ H Q I ⟨ρ,S,τ,R,r,?_⟩;rw[hc];intro ρ1 H1 v e1 R1 v1
   cases v1 with
   | str=>exact⟨x,rfl,f,d ρ1 H1 _ e1 R1 YZ⟩
  | _=>exact d.elim
abbrev bnd (i:Int):Prop:=-(2 ^ 62)<=i/\i<2 ^ 62
instance (i:Int):Decidable (bnd i):=by unfold bnd;infer_instance
abbrev qk (c:Ex):Ic:=λτ S=>(c τ S).bind λa S1=>match a with
 | .int j=>gd (bnd j) (.ok (qj 0 j) S1)
 | _=>.no
abbrev uc (c d:Ex):Ic:=λτ S=>(c τ S).bind λa S1=>(d τ S1).bind λb S2=>match a,b with
 | .int i,.int j=>gd (bnd i/\bnd j) (.ok (qj i j) S2)
 | _,_=>.no
def vD{p:Pos}{c:Ex}(hm:X.mg "range" = none)(ha:AE X a c)(hg:Gl X "range"<|>ε)(hs:starEach [a] X.env=[(false,eval a X.env)]<|>ε):AI X tg (.Call (.Name "range" p) [a] [] pos) (qk c):=λpins s σ H Q I h9=>by
 z_go;refine LO hg hm (oB ha s_ hs) hs pins s σ H Q I ⟨ρ,S,τ,R,r,jJ (jQ h) .refl λx S1 h1 ρ1 H1 v e1 R1 v1=>?_⟩
 cases v1 with
 | int j=>
  obtain⟨d,h1⟩:=j5 h1;exact⟨_,rfl,d.1,d.2,by have:=h1 ρ1 H1 _ e1 R1 Gz;rwa [Int.sub_zero]at this⟩
 | _=>exact h1.elim
def xH{p:Pos}{c d:Ex}(hm:X.mg "range" = none)(ha:AE X a c)(hb:AE X b d)(hg:Gl X "range"<|>ε)(hs:starEach [a,b] X.env=[(false,eval a X.env),(false,eval b X.env)]<|>ε)(hs2:starEach [b] X.env=[(false,eval b X.env)]<|>ε):AI X tg (.Call (.Name "range" p) [a,b] [] pos) (uc c d):=λpins s σ H Q I h9=>by
 z_go;refine Lf hg hm (oB ha (oB hb s_ hs2)<|by rw[hs,hs2]) hs hs2 pins s σ H Q I ⟨ρ,S,τ,R,r,jJ (jQ h) .refl λx S1 h1 ρ1 H1 v e1 R1 v1=>⟨ρ1,S1,τ,R1,r.ext e1,jJ (jQ h1) e1 λy S2 h2 ρ2 H2 w e2 R2 v2=>?_⟩⟩
 cases v1 with
 | int i=>
  cases v2 with
  | int j=>
   obtain⟨hb,h2⟩:=j5 h2;exact⟨_,_,rfl,⟨hb.1.1,hb.1.2,hb.2.1,hb.2.2⟩,h2 ρ2 H2 _ (e1.trans e2) R2 Gz⟩
  | _=>exact h2.elim
 | _=>exact h2.elim
abbrev Eo (xs:ae):Src:=⟨xs.length,λi _=>(xs[i]?).map λx=>.tup [.int i,x],λ_=>true⟩
abbrev Ro (c:Ex):Ic:=λτ S=>(c τ S).bind λa S1=>match a with
 | .tup xs=>.ok (Eo xs) S1
 | _=>.no
def WZ{K:au}{H0:Hp}{p:ak}(h:ow K H0 p vs)(r:AVs K ρ0 H0 xs vs):JR K (Eo xs) (Ite K p) ρ0 H0 where
 go:=λi S H ρ x e R g=>by
  obtain⟨y,m,rfl⟩:=aW.mp<|show(xs[i]?).map (λx=>A.tup [.int i,x])=some x from g;obtain⟨v,d,j⟩:=(AVs.mJ e r).get m;have hs:=e.sqT h;refine⟨⟨vs,v,hs,d⟩,λw H' q=>?_⟩;obtain⟨t,hp,rfl,f⟩:=q;have c:=f vs v hs d;subst c;obtain⟨ex,k⟩:=R.im (u:=.tup [.int i,v]) hp;exact⟨ex,k,.tup ko<|.cons (.int _)<|.cons (j.ext ex) .nil⟩
 stop:=λS H ρ e R _=>⟨vs,e.sqT h,by rw[<- r.length];rfl⟩
def Ww{p:Pos}{c:Ex}(hm:X.mg "enumerate" = none)(ha:AE X a c)(hg:Gl X "enumerate"<|>ε)(hs:starEach [a] X.env=[(false,eval a X.env)]<|>ε):AI X (.Tuple elts x1 tpos) (.Call (.Name "enumerate" p) [a] [] pos) (Ro c):=λpins s σ H Q I h9=>by
 z_go;refine Nz hg hm (oB ha s_ hs) hs pins s σ H Q I ⟨ρ,S,τ,R,r,jJ (jQ h) .refl λx S1 h1 ρ1 H1 v e1 R1 v1=>?_⟩
 cases v1 with
 | tup h2 r2=>exact⟨_,_,rfl,(ow.of h2),h1 ρ1 H1 _ e1 R1<|WZ (ow.of h2) r2⟩
 | _=>exact h1.elim
abbrev rG (s:Src)(g:Tg)(c:Sm):Nat->Nat->Sm
 | 0,_=>λτ S=>if s.fin S then .nx τ S else .no
 | k+1,i=>λτ S=>match s.get i S with
  | none=>.no
  | some x=>.of (g x τ S) λf S1=>match c f S1 with
   | .nx d e=>rG s g c k (i+1) d e
   | .ct d e=>rG s g c k (i+1) d e
   | .bk d e=>.nx d e
   | r=>r
abbrev m_ (src:Ic)(g:Tg)(c:Sm):Sm:=λτ S=>.of (src τ S) λs S1=>rG s g c s.k 0 τ S1
def n5{iter:aC}{src:Ic}{g:Tg}{c:Sm}(hp:PassesOwn (model X.prog X.w) X.A X.env X.xe)(hc:X.calm=true)(hi:AI X tg iter src)(hg:AG X tg g)(hb:KN X body c)
  (hs:(∀x,foldedSetIterable iter X.env x=pure x)<|>ζ):AS X (.For tg iter body [] pos) (m_ src g c):=PS.imp (X5 hp hc hi hg hb hs) λD σ H h9=>by
 z_go;refine⟨ρ,S,τ,R,r,jJ (of_post h) .refl λs S1 h1 ρ1 H1 J e1 R1 Z=>?_⟩;refine⟨λi m t H'=>m+i=s.k/\∃ρ' p d,Ext ρ1 ρ' H1 H'/\Rel X.K ρ' H' p/\SR X.K ρ' H' d t/\zf X ρ' H' D (rG s g c m i d p),⟨s.k,rfl,ρ1,S1,τ,.refl,R1,r.ext e1,zf.ext h1 e1⟩,?_⟩;rintro i m V H2 ⟨hm,ρ2,S2,C,e2,R2,r2,h2⟩
 cases m with
 | zero=>
  left;have h2:zf X ρ2 H2 D (if s.fin S2 then .nx C S2 else .no):=h2
  cases hf:s.fin S2 with
  | false=>rw[hf]at h2;exact h2.elim
  | true=>
   rw[hf]at h2;refine⟨by rw[show i=s.k by lia];exact Z.stop S2 H2 ρ2 e2.toExt0 R2 hf,h2 ρ2 H2 V .refl R2 r2⟩
 | succ m=>
  right;have h2:zf X ρ2 H2 D (match s.get i S2 with
   | none=>.no
   | some x=>.of (g x C S2) λN S1=>match c N S1 with
    | .nx d p=>rG s g c m (i+1) d p
    | .ct d p=>rG s g c m (i+1) d p
    | .bk d p=>.nx d p
    | r=>r):=h2
  cases T:s.get i S2 with
  | none=>rw[T]at h2;exact h2.elim
  | some x=>
   rw[T]at h2;obtain⟨M,hy⟩:=Z.go i S2 H2 ρ2 x e2.toExt0 R2 T;refine⟨M,λt H'=>m+(i+1)=s.k/\∃ρ' p d,Ext ρ1 ρ' H1 H'/\Rel X.K ρ' H' p/\SR X.K ρ' H' d t/\zf X ρ' H' D (rG s g c m (i+1) d p),λt H' z=>⟨m,eS _,z⟩,λv H3 y=>?_⟩;obtain⟨e3,R3,v3⟩:=hy v H3 y;refine⟨ρ2,S2,C,x,R3,r2.ext e3,v3,jJ (of_post h2) e3 λL Y j U H4 σ4 e4 R4 r4=>⟨U,Y,L,R4,r4,?_⟩⟩;have e:=e3.trans e4
   cases f:c L Y with
   | nx q F=>rw[f]at j;exact λB H5 O G W P=>⟨(),B,F,q,(e2.trans e).trans G,W,P,zf.ext j<|e.trans G⟩
   | ct q F=>rw[f]at j;exact λB H5 O G W P=>⟨(),B,F,q,(e2.trans e).trans G,W,P,zf.ext j<|e.trans G⟩
   | bk q F=>rw[f]at j;exact Ig.ext j e
   | rt x5 F=>rw[f]at j;exact z0.ext j e
   | ex x5 F=>rw[f]at j;exact XE.ext j e
   | no=>rw[f]at j;exact j
end
abbrev R.uY {α β:Type}(r:R α)(f:α->jF->R β):R β:=match r with
 | .ok a S=>f a S
 | _=>.no
def wG{α β:Type}{r:R α}{f:α->jF->R β}{b:β}(h:r.uY f=.ok b S2):∃a S,r=.ok a S/\f a S=.ok b S2:=by
 cases r with
 | ok a S=>exact⟨a,S,rfl,h⟩
 | ex _ _=>cases h
 | no=>cases h
def GW{α β:Type}{r:R α}{f:α->jF->R β}{P:β->jF->Prop}{E:Str->jF->Prop}(h:(r.uY f).post P E):∃a S,r=.ok a S/\(f a S).post P E:=by
 cases r with
 | ok a S=>exact⟨a,S,rfl,h⟩
 | ex _ _=>exact h.elim
 | no=>exact h.elim
def WV{α β:Type}{o:Option β}{f:β->R α}{a:α}(h:opt o f=.ok a S):∃b,o=some b/\f b=.ok a S:=by
 cases o with
 | none=>cases h
 | some b=>exact⟨b,rfl,h⟩
abbrev n8 (s:Src)(g:Tg)(t:Te)(e:Ex):Nat->Nat->ae->jF->R (ae)
 | 0,_=>λ_ S=>if s.fin S then .ok [] S else .no
 | k+1,i=>λτ S=>opt (s.get i S) λx=>(g x τ S).uY λc S1=>(t c S1).uY λb S2=>match b with
  | true=>(e c S2).uY λy S3=>(n8 s g t e k (i+1) c S3).uY λys d=>.ok (y::ys) d
  | false=>n8 s g t e k (i+1) c S2
abbrev lN (cap:List<|bj)(τ:ae):ae:=cap.map λo=>match o with
 | some j=>τ.getD j .unb
 | none=>.unb
abbrev jZ (cap:List<|bj)(src:Ic)(g:Tg)(t:Te)(e:Ex):Ex:=λτ S=>(src τ S).bind λs S1=>(n8 s g t e s.k 0 (lN cap τ) S1).uY λys S2=>newL ys S2
abbrev lD:Te:=λ_ S=>.ok true S
def EN{s:Src}{g:Tg}{t:Te}{e:Ex}{k:Nat}{T:Prop}(h:n8 s g t e (k+1) i τ S=.ok zs S')
  (q:∀x τ1 S1 b S2,s.get i S=some x->g x τ S=.ok τ1 S1->t τ1 S1=.ok b S2->(b=true->∃y S3 ws,e τ1 S2=.ok y S3/\n8 s g t e k (i+1) τ1 S3=.ok ws S'/\zs=y::ws)->(b=false->n8 s g t e k (i+1) τ1 S2=.ok zs S')->T):T:=by
 obtain⟨x,f,h⟩:=WV h;obtain⟨τ1,S1,h1,h⟩:=wG h;obtain⟨b,S2,h2,h⟩:=wG h;refine q x τ1 S1 b S2 f h1 h2 (λc=>?_) λc=>?_
 ·subst c;obtain⟨y,S3,h3,h⟩:=wG h;obtain⟨ws,j,d,h⟩:=wG h
  cases h
  exact⟨y,S3,ws,h3,d,rfl⟩
 ·subst c;exact h
structure Out (ρ1:bb)(H1:Hp)(D:ak)(accV:List V)(ρ:bb)(H:Hp):Prop where
 e0:Ext0 ρ1 ρ H1 H
 fr:∀a u,a≠D->H1 a=some u->a∉ρ1->H a=some u
 nw:∀a∈ρ,a∈ρ1\/H1 a=none
 nD:D∉ρ
 hD:H D=some (.lst accV)
def Out.stay{H1 H3 H7:Hp}{D:ak}(o:Out ρ1 H1 D accV ρ3 H3)(hD1:H1 D=none)(e7:Ext ρ3 ρ7 H3 H7):Out ρ1 H1 D accV ρ7 H7:=by
 refine⟨⟨o.e0.pre.trans e7.pre,λa u i h=>e7.im a u i<|o.e0.im a u i h⟩,λa u na c e=>e7.fr a u (o.fr a u na c e) λz=>(o.nw a z).elim e λz=>by(rw[z]at c;cases c),λa f=>?_,λz=>(e7.nw D z).elim o.nD λz=>by(rw[o.hD]at z;cases z),e7.fr D _ o.hD o.nD⟩;by_cases d:a∈ρ1
 ·exact .inl d
 ·right
  cases q:H1 a with
  | none=>rfl
  | some u=>
   have g:a≠D:=jT q hD1
   rcases e7.nw a f with z|z
   ·exact((o.nw a z).elim d λz=>by(rw[z]at q;cases q)).elim
   ·rw[o.fr a u g q d]at z;cases z
def Out.put{H1 H:Hp}{D:ak}(o:Out ρ1 H1 D accV ρ H)(ex:Ext0 ρ ρ H<|upd H D<|.lst vs):Out ρ1 H1 D vs ρ (upd H D<|.lst vs):=
 ⟨⟨o.e0.pre,λa u i h=>ex.im a u i<|o.e0.im a u i h⟩,λa u na c d=>by rw[jL na];exact o.fr a u na c d,o.nw,o.nD,ko⟩
def Out.end{H1 H:Hp}{D:ak}(o:Out ρ1 H1 D accV ρ H)(hD:H1 D=none):Ext ρ1 (ρ++[D]) H1 H:=by
 refine⟨⟨o.e0.pre.trans<|dU _ _,o.e0.im⟩,λa u c na=>o.fr a u (jT c hD) c na,λa d=>?_⟩
 rcases bE.mp d with z|z
 ·exact o.nw a z
 ·have:a=D:=by simpa using z
  rw[this];exact .inr hD
abbrev Cq (K:au)(ρ1:bb)(H1:Hp)(D:ak)(ys:ae)(k:Nat)(E:bb->Hp->Prop)(P:Nat->Nat->ae->jF->ae->Prop)(i m:Nat)(σ:L2.St)(H:Hp):Prop:=
 m+i=k/\∃ρ S τ acc zs accV,Out ρ1 H1 D accV ρ H/\E ρ H/\Rel K ρ H S/\SR K ρ H τ σ/\AVs K ρ H acc accV/\P m i τ S zs/\acc++zs=ys
section
variable {K:au}{ρ1 ρ:bb}{H1 H:Hp}{D:ak}{ys acc zs:ae}{accV:List V}{k i m:Nat}{E:bb->Hp->Prop}{P:Nat->Nat->ae->jF->ae->Prop}{σ:L2.St}{S:jF}{τ:ae}
def Cq.el{T:Prop}(h:Cq K ρ1 H1 D ys k E P i m σ H)(q:∀ρ S τ acc zs accV,m+i=k->Out ρ1 H1 D accV ρ H->E ρ H->Rel K ρ H S->SR K ρ H τ σ->AVs K ρ H acc accV->P m i τ S zs->acc++zs=ys->T):T:=by
 obtain⟨f,ρ,S,τ,acc,zs,accV,h1,h2,h3,d,c,h6,e⟩:=h;exact q ρ S τ acc zs accV f h1 h2 h3 d c h6 e
def Cq.of(hm:m+i=k)(o:Out ρ1 H1 D accV ρ H)(e:E ρ H)(R:Rel K ρ H S)(r:SR K ρ H τ σ)(v:AVs K ρ H acc accV)(p:P m i τ S zs)(q:acc++zs=ys):Cq K ρ1 H1 D ys k E P i m σ H:=⟨hm,ρ,S,τ,acc,zs,accV,o,e,R,r,v,p,q⟩
end
abbrev tE0 (K:au)(c:Ex):TE:=λσ H Q=>∃ρ S τ a d,Rel K ρ H S/\SR K ρ H τ σ/\c τ S=.ok a d/\∀ρ' H' v,Ext ρ ρ' H H'->Rel K ρ' H' d->AV K ρ' H' a v->Q v H'
abbrev Zd (K:au)(c:Te):TT:=λσ H Q=>∃ρ S τ a d,Rel K ρ H S/\SR K ρ H τ σ/\c τ S=.ok a d/\∀ρ' H',Ext ρ ρ' H H'->Rel K ρ' H' d->Q a H'
abbrev ZD (K:au)(g:Tg):TG:=λv σ H Q=>∃ρ S τ a c e,Rel K ρ H S/\SR K ρ H τ σ/\AV K ρ H a v/\g a τ S=.ok c e/\∀ρ' H' d,Ext ρ ρ' H H'->Rel K ρ' H' e->SR K ρ' H' c d->Q d H'
section
variable {X:Cx}{pos:Pos}{tg iter elt e:aC}{ifs:List aC}{scope:Scope}{N:ar}{cap:List (bj)}{src:Ic}{g:Tg}{t:Te}{c:Ex}
def AE.e0{K:au}(hK:X.K=K)(h:AE X e c):PE X e (tE0 K c):=PE.imp h λσ H Q ⟨ρ,S,τ,a,g,R,r,hc,q⟩=>⟨ρ,S,τ,by rw[hK];exact R,by rw[hK];exact r,by rw[hc];exact λρ' H' v e f d=>q ρ' H' v e (by rw[<- hK];exact f)<|by rw[<- hK];exact d⟩
def AT.t0{K:au}(hK:X.K=K)(h:AT X e t):PT X e (Zd K t):=PT.imp h λσ H Q ⟨ρ,S,τ,a,d,R,r,hc,q⟩=>⟨ρ,S,τ,by rw[hK];exact R,by rw[hK];exact r,by rw[hc];exact λρ' H' e c=>q ρ' H' e<|by rw[<- hK];exact c⟩
def AG.g0{K:au}(hK:X.K=K)(h:AG X e g):PG X e (ZD K g):=by
 subst hK;refine PG.imp h λv σ H Q h9=>?_;obtain⟨ρ,S,τ,a,c,d,R,r,va,hc,q⟩:=h9;exact⟨ρ,S,τ,a,R,r,va,by rw[hc];exact q⟩
abbrev ZH (X:Cx)(ifs:List aC)(t:Te):Prop:=Vk X ifs<|Zd X.K t
def mP:ZH X [] lD:=λpins s σ H Q I ⟨ρ,S,τ,a,c,R,r,hc,q⟩=>RQ pins s σ H Q I<|by cases hc;exact q ρ H .refl R
def tB(h:AT X e t):ZH X [e] t:=Tf<|h.t0 rfl
def aak{K:au}{H:Hp}(r:SR K ρ H τ σ)(cap:List<|bj):SR K ρ H (lN cap τ) (cap.map<|XM σ):=by
 refine⟨by simp[lN],λi a h=>?_⟩;unfold lN at h;rw[aV]at h;obtain⟨o,d,e⟩:=aW.mp h
 cases o with
 | none=>exact .inl e.symm
 | some j=>
  have e:τ.getD j .unb=a:=e
  cases c:τ[j]? with
  | none=>rw[aJ,c]at e;exact .inl e.symm
  | some b=>
   rw[aJ,c]at e;have e:b=a:=e;subst e
   rcases r.at j b c with z|⟨v,h1,h2⟩
   ·exact .inl z
   ·exact .inr ⟨v,by rw[aV,d];show some ((σ[j]?).getD none)=_;rw[h1];rfl,h2⟩
def Rel.JT{K:au}{H:Hp}{p:ak}(R:Rel K ρ H S)(hp:H p=none):p∉ρ:=λf=>by
 obtain⟨n,hn,e⟩:=fP.mp f;have d:n<S.length:=by rw[<- R.len];exact hn
 have:=R.at n p S[n] (by rw[aF hn,e]) (aF d)
 cases c:S[n]with
 | lst xs=>rw[c]at this;obtain⟨vs,h,_⟩:=this;rw[hp]at h;cases h
 | dct _|qG _|dks _|vK _=>rw[c]at this;obtain⟨vs,h,_⟩:=this;rw[hp]at h;cases h
 | dcf _=>rw[c]at this;obtain⟨_,vs,h,_⟩:=this;rw[hp]at h;cases h
 | ins _ _=>rw[c]at this;obtain⟨_,_,h⟩:=this;rw[hp]at h;cases h
def z9(σ:L2.St)(H:Hp)(Q:VK)(h:tE X (jZ cap src g t c) σ H Q):Zf cap (tI X src) (ZD X.K g) (Zd X.K t) (tE0 X.K c) σ H Q:=by
 o_rec;refine⟨ρ,S,τ,R,r,jJ (jQ h) .refl λs S1 h1 ρ1 H1 J e1 R1 jr D hD=>?_⟩;obtain⟨ys,S2,U,h1⟩:=GW h1;obtain⟨C,h1⟩:=j5 h1;have h1:z0 X ρ H Q (.ref S2.length) (S2++[.lst ys]):=h1;obtain⟨eD,RD⟩:=R1.im (u:=.lst []) hD;refine⟨Cq X.K ρ1 H1 D ys s.k (λ_ _=>True) λm i τ S zs=>n8 s g t c m i τ S=.ok zs S2,⟨s.k,.of rfl ⟨eD.toExt0,λa u na hu _=>by rw[jL na];exact hu,λa ha=>.inl ha,R1.JT hD,ko⟩ trivial RD (aak ((r.ext e1).ext eD) cap) .nil U rfl⟩,?_⟩;intro i m σ3 H3 hw;refine hw.el λρ3 S3 Y acc zs accV hm p _ R3 r3 j d e=>?_;clear hw
 cases m with
 | zero=>
  left;have d:(if s.fin S3 then Am.R.ok [] S3 else .no)=.ok zs S2:=d
  cases hf:s.fin S3 with
  | false=>rw[hf]at d;cases d
  | true=>
   rw[hf]at d
   cases d
   rw[bN]at e;subst e;refine⟨by rw[show i=s.k by lia];exact jr.stop _ H3 ρ3 p.e0 R3 hf,?_⟩;obtain⟨RT,gt⟩:=R3.take p.hD p.nD j;exact h1 (ρ3++[D]) H3 _ (e1.trans<|p.end hD) RT<|.ref gt
 | succ m=>
  right;refine EN d λx B S4 b S5 hx N O hT hF=>?_;have jg:=jr.go i S3 H3 ρ3 x p.e0 R3 hx;refine⟨jg.1,λv H4 y=>?_⟩;obtain⟨e4,R4,v4⟩:=jg.2 v H4 y;refine⟨ρ3,S3,Y,x,B,S4,R4,r3.ext e4,v4,N,λP H5 σ5 e5 R5 L=>⟨P,S4,B,b,S5,R5,L,O,λZ H6 G R6=>?_⟩⟩;have f:=(e4.trans e5).trans G
  cases b with
  | false=>
   dsimp only;rw[aQ bG];exact⟨m,eS _,.of () (p.stay hD f) trivial R6 (L.ext G) (j.ext f) (hF rfl) e⟩
  | true=>
   dsimp only;rw[aS rfl];obtain⟨y,S6,ws,V,T,F⟩:=hT rfl;refine⟨Z,S5,B,y,S6,R6,L.ext G,V,λρ7 H7 w W R7 v7=>?_⟩;have M:=p.stay hD<|f.trans W;obtain⟨q,R8⟩:=R7.out (ws:=accV++[w]) M.hD M.nD;have l1:=j.length;refine⟨accV,M.hD,?_,m,eS _,.of () (M.put q) trivial R8 ((L.ext<|G.trans W).mJ q) (AVs.mJ q<|(j.ext<|f.trans W).append<|.one v7) T ?_⟩
   ·have:(acc++zs).length<=sizeLine:=by rw[e];exact C
    rw[F,bf,bC]at this
    lia
   ·rw[cH,<- e,F];rfl
def lG(hc:X.calm=true)(Sc:CpScope X scope N cap)(hi:AI X tg iter src)(hg:∀C s₀ H₀ ex,AG (nq X scope N C s₀ H₀ ex) tg g)(ht:∀C s₀ H₀ ex,ZH (nq X scope N C s₀ H₀ ex) ifs t)(he:∀C s₀ H₀ ex,AE (nq X scope N C s₀ H₀ ex) elt c)
  (hs:(∀x,foldedSetIterable iter X.env x=pure x)<|>ζ):AE X (.ListComp elt [⟨tg,iter,ifs,0⟩] scope pos) (jZ cap src g t c):=
 PE.imp (Z5 hc Sc hi (g:=ZD X.K g) (tc:=Zd X.K t) (te:=tE0 X.K c) (λC s₀ H₀ ex=>(hg C s₀ H₀ ex).g0 rfl) (λC s₀ H₀ ex=>ht C s₀ H₀ ex) (λC s₀ H₀ ex=>(he C s₀ H₀ ex).e0 rfl) hs) z9
def JL{i:Nat}{x:Str}{spos:Pos}(hN:X.N.Nodup)(hc:X.calm=true)(Sc:CpScope X scope N cap)(hi:AI X tg iter src)(hg:∀C s₀ H₀ ex,AG (nq X scope N C s₀ H₀ ex) tg g)(ht:∀C s₀ H₀ ex,ZH (nq X scope N C s₀ H₀ ex) ifs t)(he:∀C s₀ H₀ ex,AE (nq X scope N C s₀ H₀ ex) elt c)
  (hi':X.N[i]?=some x<|>ε) (hx:Loc X.env.scope x:=by first|exact Or.inl rfl|exact Or.inr rfl)
  (hsw:(swapsWith (.ListComp elt [⟨tg,iter,ifs,0⟩] scope pos) (some<|.Name x pos') spos.line X.env=pure true)<|>ε) (hf:X.fn x=true\/X.env.scope.names.lookup x=some .local<|>γ)
  (hs:(∀x,foldedSetIterable iter X.env x=pure x)<|>ζ):AS X (.Assign [.Name x pos'] (.ListComp elt [⟨tg,iter,ifs,0⟩] scope pos) spos) (kc (jZ cap src g t c)<|j4 i):=
 PS.imp (NL hN hi' hx hc Sc hi (g:=ZD X.K g) (tc:=Zd X.K t) (te:=tE0 X.K c) (λC s₀ H₀ ex=>(hg C s₀ H₀ ex).g0 rfl) (λC s₀ H₀ ex=>ht C s₀ H₀ ex) (λC s₀ H₀ ex=>(he C s₀ H₀ ex).e0 rfl) hsw hf hs) λD σ H ⟨ρ,S,τ,R,r,h⟩=>
  z9 σ H _ ⟨ρ,S,τ,R,r,jJ (of_post h) .refl λa S1 h1 ρ1 H1 x e1 R1 v1=>h1 ρ1 H1 _ e1 R1<|(r.ext e1).set v1⟩
end
abbrev A.lst? (S:jF):A->Option (ae)
 | .ref n=>jE S n
 | _=>none
abbrev yI (f:A->ae->jF->R A)(co:Ex)(d:qC):Ex:=λτ S=>(co τ S).bind λo S1=>opt (o.lst? S1) λ_=>(d τ S1).bind λas S2=>f o as S2
abbrev Th (f:A->ae->jF->R A)(co:Ex):Ex:=λτ S=>(co τ S).bind λo S1=>opt (o.lst? S1) λ_=>f o [] S1
abbrev rM (X:Cx)(f:A->ae->jF->R A):V->List V->Hp->VK->Prop:=λx vs H Q=>∃ρ S o as,Rel X.K ρ H S/\AV X.K ρ H o x/\AVs X.K ρ H as vs/\(f o as S).post (z0 X ρ H Q) (XE X ρ H)
section
variable {X:Cx}{apos cpos:Pos}{o e:aC}{es:List aC}{name:Str}{id:String}{f:A->ae->jF->R A}{co:Ex}{d:qC}
def lst?_ty{K:au}{H:Hp}{x:A}{v:V}(R:Rel K ρ H S)(h:AV K ρ H x v)(e:x.lst? S=some xs):Zb K "list" v H:=by
 cases h with
 | ref h=>
  obtain⟨vs,h1,_⟩:=R.lst h<|jS e;exact .inl ⟨rfl,vs,pS.of h1⟩
 | _=>cases e
def rL(slot:Slot "list" name id)(hty:typeOf (.builtin id)=pure (.type "method_descriptor"))(hm:Ed X id<|rM X f)(ho:AE X o co)(ha:AL X (e::es) d)
  (hbase:attributeBase o name X.env (eval o X.env)=eval o X.env<|>ε)
  (hfew:(((backTo cpos<|starEach (e::es) X.env).all (λx=>!x.1) && (backToKw cpos<|keywordEach [] X.env).all (λx=>x.1.isSome)
   && decide ((e::es).length+([]:List Keyword).length+(if ([]:List Keyword).isEmpty then 0 else 1)<30))=true)<|>ε)
  (hline:(apos.endLine == cpos.line)=true<|>ε) (hs:starEach (e::es) X.env=(false,eval e X.env)::starEach es X.env<|>ε) (hplain:((backTo cpos<|starEach es X.env).any (·.1)=false)<|>ε) :
  AE X (.Call (.Attribute o name apos) (e::es) [] cpos) (yI f co d):=PE.imp (ME PySem.F.plainAttrs_list slot hty hm ho ha hbase hfew hline hs hplain) λσ H Q h9=>by
 z_go;kcf_m;obtain⟨xs,c,h1⟩:=jP h1;refine⟨lst?_ty R1 v1 c,ρ1,S1,τ,R1,r.ext e1,jJ (jQ h1) e1 λas S2 h2 ρ2 H2 vs e2 R2 v2=>?_⟩;kcj_m
def Wm(slot:Slot "list" name id)(hty:typeOf (.builtin id)=pure (.type "method_descriptor"))(hm:Ed X id<|rM X f)(ho:AE X o co)
  (hbase:attributeBase o name X.env (eval o X.env)=eval o X.env<|>ε) (hline:(apos.endLine == cpos.line)=true<|>ε):AE X (.Call (.Attribute o name apos) [] [] cpos) (Th f co):=PE.imp (Wq PySem.F.plainAttrs_list slot hty hm ho hbase hline) λσ H Q h9=>by
 z_go;kcf_m;obtain⟨xs,c,h1⟩:=jP h1;exact⟨lst?_ty R1 v1 c,ρ1,S1,x,[],R1,v1,.nil,jJ h1 e1 λ_ _ z=>z.ext e1⟩
abbrev mE (o:A)(as:ae)(S:jF):R A:=match o,as with
 | .ref n,[x]=>opt (jE S n) λxs=>gd (xs.length<sizeLine) (.ok .non<|S.set n<|.lst<|xs++[x])
 | _,_=>.no
def oU:Ed X "list.append" (rM X mE):=λpins s σ H x vs v us Q I rx e h9=>by
 kpc_g
 cases vo with
 | @ref p n hp=>
  match as,va,h with
  | [],_,h=>exact h.elim
  | _::_::_,_,h=>exact h.elim
  | [y],va,h=>
   obtain⟨w,rfl,hw⟩:=Hx va;kj_on;obtain⟨f,h⟩:=j5 h;obtain⟨c,h1,r⟩:=R.lst hp<|jS hn;obtain⟨ex,d⟩:=R.put hp (jS hn)<|r.append<|.one hw;exact BX pins s σ H _ _ v us Q I rx e ⟨p,c,w,rfl,rfl,h1,by rw[<- r.length];exact f,h _ _ _ ex d .non⟩
 | _=>exact h.elim
abbrev GZ (o:A)(as:ae)(S:jF):R A:=match o,as with
 | .ref n,[.int i]=>opt (jE S n) λxs=>gd (-(2 ^ 63)<=i/\i<2 ^ 63) (opt (seqIndex? i xs.length) λk=>opt (xs[k]?) λx=>.ok x<|S.set n<|.lst<|xs.eraseIdx k)
 | _,_=>.no
def Ry:Ed X "list.pop" (rM X GZ):=λpins s σ H x vs v us Q I rx g h9=>by
 kpc_g
 cases vo with
 | @ref p n hp=>
  match as,va,h with
  | [],_,h=>exact h.elim
  | y::_::_,_,h=>exact(by cases y<;>exact h.elim)
  | [y],va,h=>
   obtain⟨w,rfl,hw⟩:=Hx va
   cases hw with
   | int i=>
    kj_on;obtain⟨c,h⟩:=j5 h;obtain⟨k,e,h⟩:=jP h;obtain⟨y,m,h⟩:=jP h;obtain⟨d,h1,r⟩:=R.lst hp<|jS hn;obtain⟨w,hw,j⟩:=r.get m;obtain⟨ex,f⟩:=R.put hp (jS hn)<|r.eraseIdx k;exact MX pins s σ H _ _ v us Q I rx g ⟨p,d,i,k,w,rfl,rfl,h1,c.1,c.2,by rw[<- r.length];exact e,hw,h _ _ _ ex f<|j.ext ex⟩
   | _=>exact h.elim
 | _=>exact h.elim
end
abbrev kP (N:ar)(m:Sm)(as:ae)(S:jF):R A:=match m (as++List.replicate (N.length-as.length) .unb) S with
 | .rt a d=>.ok a d
 | .nx _ d=>.ok .non d
 | .ex c d=>.ex c d
 | _=>.no
abbrev sO (K:au)(n:Nat)(F:ae->jF->R A):Sp:=λvs H Q _=>vs.length=n/\∃ρ S as a c,Rel K ρ H S/\AVs K ρ H as vs/\F as S=.ok a c/\∀ρ' H' v,Ext ρ ρ' H H'->Rel K ρ' H' c->AV K ρ' H' a v->Q v H'
def DJ{K:au}{H:Hp}{as:ae}(r:AVs K ρ H as vs)(N:ar):SR K ρ H (as++List.replicate (N.length-as.length) .unb) (L2.start N vs):=by
 have d:=r.length;refine⟨by unfold L2.start;simp[d],λi a h=>?_⟩;by_cases c:i<as.length
 ·rw[bB c]at h;obtain⟨v,hv,e⟩:=r.get h;exact .inr ⟨v,by unfold L2.start;rw[bB<|by simp;lia,aV,hv];rfl,e⟩
 ·rw[iQ (),gG]at h;split at h
  ·exact .inl (aX h).symm
  ·cases h
section
variable {P:aj}{w:ah}{K:au}{mg:Str->bd}{base:aq}
def wC{x:Str}{st:aE}{f:ak}{N ps:ar}{k:Nat}{m:Sm}(F:Fun K x qual st f fd)(Sc:FnScope N ps<|jN st)
  (body:∀(cdv:af) (A:az) (outer:List Env) (s:aA) (H:Hp) (E:XK),Room k (A.deeper<|envOfC qual (jN st) s.heap.objs.size f cdv)->KN (xy rQ P w K mg base N qual (jN st) f cdv A outer s H E).nox (nR st) m) :
  FnOk P w K mg base rQ (k+1) f fd ps (sO K ps.length<|kP N m):=by
 refine F.ok Sc (λvs H Q E h=>h.1) λcdv B outer s H vs Q E t ⟨G,ρ,S,as,a,C,R,va,d,q⟩=>⟨_,body cdv B outer s H E t,ρ,S,_,R,DJ va N,?_⟩;unfold kP at d
 cases g:m (as++List.replicate (N.length-as.length) .unb) S with
 | rt b S2=>rw[g]at d;cases d;exact q
 | nx τ S2=>rw[g]at d;cases d;exact λρ' H' j e p _=>q ρ' H' _ e p .non
 | bk τ S2=>rw[g]at d;cases d
 | ct τ S2=>rw[g]at d;cases d
 | ex c S2=>rw[g]at d;cases d
 | no=>rw[g]at d;cases d
end
meta abbrev qo (P:aj)(w:ah)(K:au)(mg:Str->bd)(base:aq)(k:Nat)(x:Str)(ps:ar)(F:ae->jF->R A):Prop:=Kn P w K mg base k x ps<|sO K ps.length F
abbrev eFn (F:ae->jF->R A)(d:qC):Ex:=λτ S=>(d τ S).bind λas S1=>match F as S1 with
 | .ok a S2=>.ok a S2
 | _=>.no
section
variable {X:Cx}{pos p:Pos}{e:aC}{es:List aC}{x:Str}{ps:ar}{k:Nat}{F:ae->jF->R A}{d:qC}
def wH(G:qo X.prog X.w X.K X.mg X.base k x ps F)(hr:Room k X.A)(ha:AL X (e::es) d)(hl:∀τ S as S',d τ S=.ok as S'->as.length=ps.length)(hg:Gl X x<|>ε)(hdb:(x == ("__debug__" : Str))=false<|>δ)
  (hs:starEach (e::es) X.env=(false,eval e X.env)::starEach es X.env<|>ε) (hplain:((backTo pos<|starEach es X.env).any (·.1)=false)<|>ε):AE X (.Call (.Name x p) (e::es) [] pos) (eFn F d):=
 PE.imp (aay G hr ha hg hdb hs hplain) λσ H Q h9=>by
  z_go;refine⟨ρ,S,τ,R,r,?_⟩;have f:=jQ h
  cases g:d τ S with
  | no=>rw[g]at f;exact f
  | ex c S1=>rw[g]at f;exact f
  | ok as S1=>
   rw[g]at f;intro ρ1 H1 vs e1 R1 v1;rw[bN];refine⟨by rw[<- v1.length];exact hl τ S as S1 g,ρ1,S1,as,?_⟩;have f:Am.R.post (match F as S1 with
    | .ok a S2=>.ok a S2
    | _=>.no) (z0 X ρ H Q) (XE X ρ H):=f
   cases j:F as S1 with
   | ok a S2=>rw[j]at f;exact⟨a,S2,R1,v1,rfl,λρ2 H2 v e2=>f ρ2 H2 v<|e1.trans e2⟩
   | ex c S2=>rw[j]at f;exact f.elim
   | no=>rw[j]at f;exact f.elim
def lE:∀τ S as S',jH τ S=.ok as S'->as.length=0:=λτ S as S' h=>by cases h;rfl
def jW{c:Ex}{d:qC}{n:Nat}(h:∀τ S as S',d τ S=.ok as S'->as.length=n):∀τ S as S',jC c d τ S=.ok as S'->as.length=n+1:=λτ S as S' e=>by
 unfold jC at e
 cases hc:c τ S with
 | ok a S1=>
  rw[hc]at e
  cases f:d τ S1 with
  | ok bs S2=>
   have e:R.bind (d τ S1) (λas S2=>.ok (a::as) S2)=.ok as S':=e;rw[f]at e;cases e;rw[bC,h τ S1 bs _ f]
  | ex _ _=>
   have e:R.bind (d τ S1) (λas S2=>.ok (a::as) S2)=.ok as S':=e;rw[f]at e;cases e
  | no=>
   have e:R.bind (d τ S1) (λas S2=>.ok (a::as) S2)=.ok as S':=e;rw[f]at e;cases e
 | ex _ _=>rw[hc]at e;cases e
 | no=>rw[hc]at e;cases e
end
section
variable {X:Cx}{pos:Pos}{a b c:aC}
abbrev kCh (f':A->A->jF->R A)(cc:Ex)(τ:ae)(b k:A)(S:jF):R A:=match k with
 | .bl true=>(cc τ S).bind λc d=>f' b c d
 | .bl false=>.ok (.bl false) S
 | _=>.no
abbrev Za (f f':A->A->jF->R A)(ca cb cc:Ex):Ex:=λτ S=>(ca τ S).bind λa S1=>(cb τ S1).bind λb S2=>(f a b S2).bind λk S3=>kCh f' cc τ b k S3
def X6{f f':A->A->jF->R A}{ca cb cc:Ex}{H:Hp}{Q:VK}(h:tE X (Za f f' ca cb cc) σ H Q):MG (r2 X f) (r2 X f') (tE X ca) (tE X cb) (tE X cc) σ H Q:=by
 o_rec;refine⟨ρ,S,τ,R,r,jJ (jQ h) .refl λa S1 h1 ρ1 H1 x e1 R1 v1=>⟨ρ1,S1,τ,R1,r.ext e1,jJ (jQ h1) e1 λb S2 h2 ρ2 H2 y e2 R2 v2=>?_⟩⟩;have e:=e1.trans e2;refine⟨ρ2,S2,a,b,R2,v1.ext e2,v2,jJ (jQ h2) e λk S3 h3 ρ3 H3 z e3 R3 m=>?_⟩;have d:=e.trans e3
 cases k with
 | bl k=>
  cases Fb m
  refine⟨k,rfl,?_⟩
  cases k with
  | true=>
   rw[aS rfl];exact⟨ρ3,S3,τ,R3,r.ext d,jJ (jQ h3) d λc j p g C w e4 t B=>⟨g,j,b,c,t,v2.ext<|e3.trans e4,B,jJ p (d.trans e4) λ_ _ q=>q.ext<|d.trans e4⟩⟩
  | false=>
   rw[aQ bG];exact h3 ρ3 H3 _ d R3<|.bl false
 | _=>exact h3.elim
def ZQ{f f':A->A->jF->R A}{ca cb cc:Ex}(ho:pK X (compareOp op)<|r2 X f)(ho':pK X (compareOp op')<|r2 X f')(ha:AE X a ca)(hb:AE X b cb)(hc:AE X c cc)(hm:lastMarks [op,op'] [b,c]=false<|>η) :
  AE X (.Compare a [op,op'] [b,c] pos) (Za f f' ca cb cc):=PE.imp (Ob ho ho' ha hb hc hm) λ_ _ _ h=>X6 h
abbrev Y_ (S:jF)(x:A):ae->bi
 | []=>some false
 | z::zs=>(oX S 12 z x).bind λp=>(Y_ S x zs).map λq=>p || q
abbrev K6 (neg:Bool)(x y:A)(S:jF):R A:=opt (y.seq S) λys=>opt (Y_ S x ys) λb=>.ok (.bl<|if neg then !b else b) S
def yR{H:Hp}{x:A}{v:af}(I:Inv X pins σ H s)(R:Rel X.K ρ H S)(hu:X.A.units+64<cLine)(hx:AV X.K ρ H x vx)(rx:RelV vx v) :
  ∀{ys:ae} {us:List V} {its:ba} {b:Bool},AVs X.K ρ H ys us->Vals us its->Y_ S x ys=some b->∃e:af->Bool,(∀w∈its,SeqAt.EqAt X.A.in1 s w v<|e w)/\its.any e=b:=by
 intro ys
 induction ys with
 | nil=>
  intro us its b h1 h2 h
  cases h1
  cases h2
  exact⟨λ_=>false,(λw hw=>by cases hw),aX h⟩
 | cons z zs m=>
  intro us its b h1 h2 h
  cases h1 with
  | cons C t=>
   rename_i u us
   cases h2 with
   | cons r G=>
    rename_i f its
    classical
    obtain⟨p,hp,h⟩:=bX.mp h;obtain⟨q,F,h⟩:=aW.mp h;obtain⟨e,g,j⟩:=m t G F;have h0:=(Ce I R 12 X.A.in1 z x u vx f v p (by rw[in1_units];omega) C hx r rx hp).2.1;subst h
    cases p with
    | true=>
     refine⟨λw=>if w=f then true else e w,λw hw=>?_,?_⟩
     ·by_cases d:w=f
      ·dsimp[d,eZ];exact h0
      ·dsimp[d,cQ]
       rcases bg.mp hw with z|z
       ·exact absurd z d
       ·exact g w z
     ·simp
    | false=>
     by_cases k:f∈its
     ·refine⟨e,λw hw=>?_,?_⟩
      ·rcases bg.mp hw with z|z
       ·rw[z];exact g f k
       ·exact g w z
      ·rw[fy,j,gf]
       cases q with
       | true=>simp
       | false=>
        have:=List.any_eq_false.mp j f k;simpa using this
     ·refine⟨λw=>if w=f then false else e w,λw hw=>?_,?_⟩
      ·by_cases d:w=f
       ·dsimp[d,eZ];exact h0
       ·dsimp[d,cQ]
        rcases bg.mp hw with z|z
        ·exact absurd z d
        ·exact g w z
      ·rw[fy,<- j];dsimp[eZ,gf];have:∀l:ba,(∀w∈l,w≠f)->l.any (λw=>if w=f then false else e w)=l.any e:=λl B=>by
        induction l with
        | nil=>rfl
        | cons c l m=>rw[fy,fy,m λw hw=>B w<|aK _ hw,aQ<|B c<|aN ..]
       exact this its λw hw z=>k<|z ▸ hw
def X7(hu:X.A.units+64<cLine):pK X (compareOp .In) (r2 X<|K6 false):=λpins s σ H x y v u Q I rx ry h9=>by
 w_up;obtain⟨ys,q,h⟩:=jP h;obtain⟨k,j,h⟩:=jP h;obtain⟨p,us,rfl,hs,r⟩:=Q5 R vb q
 cases ry
 rcases hs with hs|hs
 ·obtain⟨c,g,pl,m⟩:=I.list hs;obtain⟨e,f,d⟩:=yR I R hu va rx r g j;refine SeqAt.in_listAt e pl.isList (λw hw=>f w<|by simpa using hw) ⟨.bl _,H,I,rfl,?_⟩;rw[show c.toArray.any e=c.any e by simp,d];exact h _ _ _ .refl R (.bl _)
 ·obtain⟨c,g,pl,m⟩:=I.tuple hs;obtain⟨e,f,d⟩:=yR I R hu va rx r g j;refine SeqAt.in_tupleAt e pl (λw hw=>f w<|by simpa using hw) ⟨.bl _,H,I,rfl,?_⟩;rw[show c.toArray.any e=c.any e by simp,d];exact h _ _ _ .refl R<|.bl _
def JU(hu:X.A.units+64<cLine):pK X (compareOp .NotIn) (r2 X<|K6 true):=λpins s σ H x y v u Q I rx ry h9=>by
 w_up;obtain⟨ys,q,h⟩:=jP h;obtain⟨k,j,h⟩:=jP h;obtain⟨p,us,rfl,hs,r⟩:=Q5 R vb q
 cases ry
 rcases hs with hs|hs
 ·obtain⟨c,g,pl,m⟩:=I.list hs;obtain⟨e,f,d⟩:=yR I R hu va rx r g j;refine SeqAt.notIn_listAt e pl.isList (λw hw=>f w<|by simpa using hw) ⟨.bl _,H,I,rfl,?_⟩;rw[show c.toArray.any e=c.any e by simp,d];exact h _ _ _ .refl R (.bl _)
 ·obtain⟨c,g,pl,m⟩:=I.tuple hs;obtain⟨e,f,d⟩:=yR I R hu va rx r g j;refine SeqAt.notIn_tupleAt e pl (λw hw=>f w<|by simpa using hw) ⟨.bl _,H,I,rfl,?_⟩;rw[show c.toArray.any e=c.any e by simp,d];exact h _ _ _ .refl R<|.bl _
abbrev Dr (o:A)(as:ae)(S:jF):R A:=match o,as with
 | .ref n,[.ref m]=>opt (jE S n) λxs=>opt (jE S m) λys=>gd (xs.length+ys.length<=sizeLine) (.ok .non<|S.set n<|.lst<|xs++ys)
 | _,_=>.no
def Ni:Ed X "list.extend" (rM X Dr):=λpins s σ H x vs v us Q I rx j h9=>by
 kpc_g
 cases vo with
 | @ref p n hp=>
  match as,va,h with
  | [],_,h=>exact h.elim
  | y::_::_,_,h=>exact(by cases y<;>exact h.elim)
  | [y],va,h=>
   obtain⟨w,rfl,hw⟩:=Hx va
   cases hw with
   | @ref q m f=>
    kj_on;obtain⟨ys,e,h⟩:=jP h;obtain⟨k,h⟩:=j5 h;obtain⟨d,h1,r⟩:=R.lst hp<|jS hn;obtain⟨zs,h2,c⟩:=R.lst f<|jS e;obtain⟨ex,g⟩:=R.put hp (jS hn)<|r.append c;exact KI pins s σ H _ _ v us Q I rx j ⟨p,q,d,zs,rfl,rfl,h1,h2,by rw[<- r.length,<- c.length];exact k,h _ _ _ ex g .non⟩
   | _=>exact h.elim
 | _=>exact h.elim
end
abbrev A.isRef:A->Bool
 | .ref _=>true
 | _=>false
abbrev BO (o:A)(as:ae)(S:jF):R A:=match o,as with
 | .ref n,[x]=>opt (jE S n) λxs=>gd (xs.all A.isRef=true/\(∀z∈xs,(oX S 12 z x).isSome=true)) (opt (xs.findIdx? λz=>decide<|oX S 12 z x=some true) λk=>.ok (.int (k:Nat)) S)
 | _,_=>.no
section
variable {X:Cx}
open Classical in
def NU(hu:X.A.units+64<cLine):Ed X "list.index" (rM X BO):=λpins s σ H x vs v us Q I rx G h9=>by
 kpc_g
 cases vo with
 | @ref p n hp=>
  match as,va,h with
  | [],_,h=>exact h.elim
  | _::_::_,_,h=>exact h.elim
  | [y],va,h=>
   obtain⟨w,rfl,hw⟩:=Hx va;kj_on;obtain⟨⟨hr,hs⟩,h⟩:=j5 h;obtain⟨k,hk,h⟩:=jP h;obtain⟨ws,h1,r⟩:=R.lst hp (jS hn)
   cases rx
   obtain⟨u,rfl,ru⟩:=G.one;obtain⟨d,G,pl,hsz⟩:=I.list<|pS.of h1;obtain⟨⟨cls,dd,data,sl⟩,ho,hc,nn,hd⟩:=id pl.isList;simp only at hc hd;subst hc hd;rw[d8]at hk;obtain⟨V,W,Z⟩:=hk;have K:∀(m:Nat) (f:m<d.toArray.size),∃(z:A) (q:Nat) (a:ak),xs[m]?=some z/\z=.ref q/\ρ[q]?=some a/\d.toArray[m]=.ref a:=λm f=>by
    have l1:=r.length;have l2:=G.length;have c:m<xs.length:=by simp at f;lia
    obtain⟨vz,O,J⟩:=r.get<|aF c;obtain⟨uz,T,U⟩:=G.get O;have e1:d.toArray[m]=uz:=by
     obtain⟨_,e⟩:=aI.mp T;simpa using e
    have f1:=eU.mp hr _<|cj c;generalize P:xs[m]=z at J f1
    cases z with
    | ref q=>
     cases J with
     | @ref a _ ha=>
      cases U
      exact⟨_,q,a,by rw[aF c,P],rfl,ha,e1⟩
    | _=>cases f1
   have B:∀{q q':Nat} {a:ak},ρ[q]?=some a->ρ[q']?=some a->q=q':=λ{q q' a} e1 e2=>by
    obtain⟨l1,e1⟩:=aI.mp e1;obtain⟨l2,e2⟩:=aI.mp e2;exact(dw R.nd).mp (e1.trans e2.symm)
   have eAt:∀{q:Nat} {a:ak} {b:Bool},ρ[q]?=some a->oX S 12 (.ref q) y=some b->decide (∃m,ρ[m]?=some a/\oX S 12 (.ref m) y=some true)=b:=λ{q a b} e1 e2=>by
    cases b with
    | true=>exact aY ⟨q,e1,e2⟩
    | false=>
     refine bw λh9=>?_;obtain⟨m,g,j⟩:=h9;rw[B g e1,e2]at j;cases j
   have:=uS;have lx:=G.length;have lr:=r.length;have C:k<d.toArray.size:=by simp;lia
   have val:∀(m:Nat) (f:m<d.toArray.size) (c:m<xs.length),(match d.toArray[m]with | .ref a=>decide (∃m,ρ[m]?=some a/\oX S 12 (.ref m) y=some true)|_=>false)=decide (oX S 12 xs[m] y=some true):=λm f c=>by
    obtain⟨z,q,a,g,j,L,N⟩:=K m f;have M:xs[m]=.ref q:=by rw[aF c]at g;rw[<- j];exact aX g
    rw[N,M];have sm:=hs _<|cj c;rw[M]at sm;obtain⟨b,t⟩:=cN.mp sm;rw[t];refine(eAt L t).trans ?_
    cases b<;>rfl
   refine fL F.slot_list_index ⟨_,ho,rfl⟩ F.entry_list_index (F.args_list_index_2 _ _) (SeqAt.list_indexAt p d.toArray nn dd sl u (λw=>match w with | .ref a=>decide (∃m,ρ[m]?=some a/\oX S 12 (.ref m) y=some true)|_=>false) k C () ?_ ?_) ⟨ho,λz P=>?_,.int k,H,I.tok _,⟨_,rfl⟩,h _ _ _ .refl R<|.int _⟩
   ·rw[val k C V];exact W
   ·intro m f Y;rw[val m f ()];have:=Z m Y;simpa using this
   ·obtain⟨m,f,e⟩:=Array.mem_iff_getElem.mp P;subst e;obtain⟨z,q,a,g,j,L,N⟩:=K m f;have c:m<xs.length:=by simp at f;lia
    have M:xs[m]=.ref q:=by rw[aF c]at g;rw[<- j];exact aX g
    have sm:=hs _<|cj c;rw[M]at sm;obtain⟨b,t⟩:=cN.mp sm;rw[N];show SeqAt.EqAt _ _ _ _ (decide (∃m,ρ[m]?=some a/\oX S 12 (.ref m) y=some true));rw[eAt L t];exact(Ce I R 12 X.A.in1 (.ref q) y (.ref a) w (.ref a) u b (by rw[in1_units];lia) (.ref L) hw rfl ru t).2.1
 | _=>exact h.elim
end
abbrev ku (S:jF)(n:Nat):Option (List<|ag×A):=match S[n]? with
 | some (.dct xs)=>some xs
 | _=>none
def nJ{n:Nat}(h:ku S n=some xs):S[n]?=some (.dct xs):=by
 unfold ku at h;split at h
 ·rename_i e;cases h;exact e
 ·cases h
def xg{S:jF}{n:Nat}(h:S[n]?=some (.dct xs)):ku S n=some xs:=by
 unfold ku;rw[h]
abbrev mw (kvs:List<|ag×A)(k:ag):Option A:=(kvs.find? λkv=>decide<|kv.1=k).map (·.2)
abbrev putD (kvs:List<|ag×A)(k:ag)(v:A):List (ag×A):=
 if (mw kvs k).isSome=true then kvs.map (λkv=>if kv.1=k then(kv.1,v)else kv)else kvs++[(k,v)]
theorem DW:∀{a b:ag},a.map (Sum.inl:Int->Key)=b.map Sum.inl->a=b
 | [],[],_=>rfl
 | [],_::_,e=>by simp at e
 | _::_,[],e=>by simp at e
 | x::xs,y::ys,e=>by
  rw[bh,bh]at e
  injection e with e1 e2
  injection e1 with e1
  rw[e1,DW e2]
def IT(ns:ag):(ns.map (Sum.inl:Int->Key)).map kV=ns.map V.int:=by rw[bD];rfl
section
variable {K:au}{ρ:bb}{H:Hp}
def LV{p:ag×A}{r:List<|ag×A}{k:ag}(e:p.1=k):mw (p::r) k=some p.2:=by simp[mw,bV,e]
def Lp{p:ag×A}{r:List<|ag×A}{k:ag}(e:¬p.1=k):mw (p::r) k=mw r k:=by simp[mw,bV,e]
theorem DV.look:∀{kvs:List<|ag×A}{ks:List<|List Key×V}(k:ag),DV K ρ H kvs ks->(mw kvs k).isSome=(qJ ks<|k.map Sum.inl).isSome/\∀x,mw kvs k=some x->∃v,qJ ks (k.map Sum.inl)=some v/\AV K ρ H x v
 | [],[],k,_=>⟨rfl,λx h=>nomatch h⟩
 | p::r,q::r',k,⟨⟨e,a⟩,t⟩=>by
  by_cases c:p.1=k
  ·have d:q.1=k.map Sum.inl:=by rw[e,c]
   rw[LV c,um d];exact⟨rfl,λx h=>by cases h;exact⟨_,rfl,a⟩⟩
  ·have d:¬q.1=k.map Sum.inl:=λz=>c<|DW<|e.symm.trans z;rw[Lp c,uF d];exact DV.look k t
theorem DV.repl{x:A}{v:V}(h:AV K ρ H x v)(k:ag):∀{kvs:List<|ag×A}{ks:List<|List Key×V},DV K ρ H kvs ks->DV K ρ H (kvs.map λkv=>if kv.1=k then(kv.1,x)else kv) (ks.map λkv=>if kv.1=k.map Sum.inl then(kv.1,v)else kv)
 | [],[],_=>trivial
 | p::r,q::r',⟨⟨e,a⟩,t⟩=>by
  refine⟨?_,DV.repl h k t⟩;dsimp only;by_cases c:p.1=k
  ·rw[aS c,aS<|by rw[e,c]];exact⟨e,h⟩
  ·rw[aQ c,aQ λz=>c<|DW<|e.symm.trans z];exact⟨e,a⟩
theorem DV.snoc{x:A}{v:V}(h:AV K ρ H x v)(k:ag):∀{kvs:List<|ag×A}{ks:List<|List Key×V},DV K ρ H kvs ks->DV K ρ H (kvs++[(k,x)]) (ks++[(k.map Sum.inl,v)])
 | [],[],_=>⟨⟨rfl,h⟩,trivial⟩
 | p::r,q::r',⟨a,t⟩=>⟨a,DV.snoc h k t⟩
def DV.put{x:A}{v:V}(h:AV K ρ H x v)(k:ag){ks:List<|List Key×V}(d:DV K ρ H kvs ks):DV K ρ H (putD kvs k x) (putK ks (k.map Sum.inl) v):=by
 unfold putD putK;rw[w9,<- (d.look k).1];by_cases c:(mw kvs k).isSome=true
 ·rw[aS c,aS c];exact DV.repl h k d
 ·rw[aQ c,aQ c];exact DV.snoc h k d
def DV.length:∀{kvs:List<|ag×A}{ks:List<|List Key×V},DV K ρ H kvs ks->kvs.length=ks.length
 | [],[],_=>rfl
 | _::_,_::_,⟨_,t⟩=>c7 (·+1) t.length
def Rel.dct{n:Nat}{a:ak}(R:Rel K ρ H S)(ha:ρ[n]?=some a)(hS:S[n]?=some (.dct xs)):∃vs,H a=some (.dT vs)/\DV K ρ H xs vs:=R.at n a _ ha hS
def Rel.acE{S:jF}{p:ak}(R:Rel K ρ H S)(hp:H p=none)(r:DV K ρ H xs vs):Ext ρ (ρ++[p]) H (upd H p<|.dT vs)/\Rel K (ρ++[p]) (upd H p<|.dT vs) (S++[.dct xs])/\(ρ++[p])[S.length]?=some p:=by
 have ex:Ext ρ (ρ++[p]) H (upd H p<|.dT vs):=⟨⟨dU _ _,λa u _ h=>by rw[jL<|jT h hp];exact h⟩,λa u h _=>by rw[jL<|jT h hp];exact h,λa h=>by
  rcases bE.mp h with z|z
  ·exact .inl z
  ·have e:a=p:=by simpa using z
   rw[e];exact .inr hp⟩
 have np:p∉ρ:=R.JT hp;have c:(ρ++[p])[S.length]?=some p:=by rw[<- R.len];simp
 refine⟨ex,⟨by simp[R.len],?_,?_⟩,c⟩
 ·rw[cI];refine⟨R.nd,by simp,λa j b g e=>?_⟩;have:b=p:=by simpa using g
  exact np<|by rw[<- this,<- e];exact j
 ·intro n a o h1 h2;by_cases hn:n<S.length
  ·rw[bB<|by rw[R.len];exact hn]at h1;rw[bB hn]at h2;have na:a≠p:=λz=>np (by rw[<- z];exact bq h1);have:=R.at n a o h1 h2
   cases o with
   | lst ys=>obtain⟨d,e,q⟩:=this;exact⟨d,by rw[jL na];exact e,q.ext ex⟩
   | dct _|qG _|dks _|vK _=>obtain⟨d,e,q⟩:=this;exact⟨d,by rw[jL na];exact e,q.ext ex⟩
   | dcf _=>obtain⟨f,d,e,q⟩:=this;exact⟨f,d,by rw[jL na];exact e,q.ext ex⟩
   | ins _ _=>obtain⟨f,k,e⟩:=this;exact⟨f,k,by rw[jL na];exact e⟩
  ·have e:n=S.length:=by
    have:=(aI.mp h2).1;simp at this;omega
   subst e;rw[c]at h1
   cases h1
   simp at h2;subst h2;exact⟨vs,ko,r.ext ex⟩
def Rel.putD{S:jF}{n:Nat}{a:ak}(R:Rel K ρ H S)(ha:ρ[n]?=some a)(hS:S[n]?=some (.dct xs))(r:DV K ρ H ys ws):Ext ρ ρ H (upd H a<|.dT ws)/\Rel K ρ (upd H a<|.dT ws) (S.set n<|.dct ys):=by
 obtain⟨vs,e,_⟩:=R.at n a _ ha hS;have ex:Ext ρ ρ H (upd H a<|.dT ws):=⟨⟨dP _,λb u i h=>by
  have:b≠a:=by
   intro z;subst z;rw[e]at h;cases h;exact i
  rw[jL this];exact h⟩,λb u h n=>by
  rw[jL λz=>n<|by rw[z];exact bq ha];exact h,λ_ h=>.inl h⟩
 refine⟨ex,by rw[cu];exact R.len,R.nd,λm b o h1 h2=>?_⟩;by_cases f:m=n
 ·subst f;rw[ha]at h1;cases h1;rw[bJ (aI.mp hS).1]at h2
  cases h2
  exact⟨ws,ko,r.ext ex⟩
 ·rw[bO<|cK f]at h2;have nb:b≠a:=λz=>by
   subst z;obtain⟨k,e1⟩:=aI.mp ha;obtain⟨p,e2⟩:=aI.mp h1;exact f<|(dw R.nd).mp<|e2.trans e1.symm
  have:=R.at m b o h1 h2
  cases o with
  | lst ys=>obtain⟨c,d,q⟩:=this;exact⟨c,by rw[jL nb];exact d,q.ext ex⟩
  | dct _|qG _|dks _|vK _=>obtain⟨c,d,q⟩:=this;exact⟨c,by rw[jL nb];exact d,q.ext ex⟩
  | dcf _=>obtain⟨g,c,d,q⟩:=this;exact⟨g,c,by rw[jL nb];exact d,q.ext ex⟩
  | ins _ _=>obtain⟨g,j,d⟩:=this;exact⟨g,j,by rw[jL nb];exact d⟩
end
section
variable {X:Cx}{pos:Pos}{a b:aC}
def CK{H:Hp}{p q:ak}{n:Nat}{ns:ag}(R:Rel X.K ρ H S)(hp:ρ[n]?=some p)(hn:ku S n=some kvs)(hq:H q=some (.tup vs))(r:AVs X.K ρ H xs vs)(hi:A.ints xs=some ns) :
  ∃ks,H p=some (.dT ks)/\DV X.K ρ H kvs ks/\H q=some (.tup<|(ns.map (Sum.inl:Int->Key)).map kV)/\we H p (.ref q) (qJ ks<|ns.map Sum.inl):=by
 obtain⟨ks,e,d⟩:=R.dct hp<|nJ hn;have z:=rH r hi;subst z;rw[<- IT]at hq;exact⟨ks,e,d,hq,we.t e hq⟩
abbrev Bu (x y:A)(S:jF):R A:=match x,y with
 | .ref n,.tup xs=>opt (ku S n) λc=>opt (A.ints xs) λns=>opt (mw c ns) λv=>.ok v S
 | _,_=>.no
def Zw(hu:X.A.units+64<cLine):Vy X (r2 X Bu):=λf c pins s σ H x y v u Q I rx ry ⟨ρ,S,a,b,R,va,vb,h⟩ hs=>by
 cases va with
 | @ref p n hp=>
  cases vb with
  | @tup q xs vs m r=>
   obtain⟨C,hn,h⟩:=jP h;obtain⟨ns,B,h⟩:=jP h;obtain⟨z,j,h⟩:=jP h;obtain⟨ks,e,d,k,g⟩:=CK R hp hn m r B;obtain⟨w,hw,t⟩:=(d.look ns).2 z j;rw[hw]at g;exact J8 (by omega) f c pins s σ H _ _ v u Q I rx ry ⟨p,w,rfl,g,h _ _ _ .refl R t⟩ hs
  | _=>exact h.elim
 | _=>exact h.elim
def Hy(hu:X.A.units+64<cLine){ca cb:Ex}(ha:AE X a ca)(hb:AE X b cb)(hs:yU b<|>θ):AE X (.Subscript a b pos) (jI Bu ca cb):=PE.imp (Pq (Zw hu) ha hb hs) λσ H Q h=>vf h
abbrev Ue (neg:Bool)(x y:A)(S:jF):R A:=match x,y with
 | .tup xs,.ref n=>opt (ku S n) λc=>opt (A.ints xs) λns=>.ok (.bl<|if neg then !(mw c ns).isSome else(mw c ns).isSome) S
 | _,_=>.no
def Nj(hu:X.A.units+64<cLine):pK X (compareOp .NotIn) (r2 X<|Ue true):=λpins s σ H x y v u Q I rx ry h9=>by
 w_up
 cases va with
 | @tup q xs vs j r=>
  cases vb with
  | @ref p n hp=>
   obtain⟨k,hn,h⟩:=jP h;obtain⟨ns,f,h⟩:=jP h;obtain⟨ks,e,d,c,g⟩:=CK R hp hn j r f;exact Lh (by omega) pins s σ H _ _ v u Q I rx ry ⟨p,_,rfl,g,by rw[<- (d.look ns).1];exact h _ _ _ .refl R<|.bl _⟩
  | _=>exact h.elim
 | _=>exact h.elim
abbrev FT (o i v:A)(S:jF):R Unit:=match o,i with
 | .ref n,.tup xs=>opt (ku S n) λc=>opt (A.ints xs) λns=>gd (c.length<sizeLine) (.ok Unit.unit<|S.set n<|.dct<|putD c ns v)
 | _,_=>.no
abbrev ab6 (X:Cx):Hh:=λo i v H Q=>∃ρ S d c e,Rel X.K ρ H S/\AV X.K ρ H d o/\AV X.K ρ H c i/\AV X.K ρ H e v/\(FT d c e S).post (λ_ f=>∀ρ' H',Ext ρ ρ' H H'->Rel X.K ρ' H' f->Q H') (XE X ρ H)
def SQ(hu:X.A.units+64<cLine):F4 X (ab6 X):=λpins s σ H o i v f iv u Q I C B m h9=>by
 obtain⟨ρ,S,M,L,K,R,h1,h2,h3,h⟩:=h9
 cases h1 with
 | @ref p n hp=>
  cases h2 with
  | @tup q xs vs j r=>
   obtain⟨J,hn,h⟩:=jP h;obtain⟨ns,F,h⟩:=jP h;obtain⟨G,h⟩:=j5 h;obtain⟨ks,e,d,c,g⟩:=CK R hp hn j r F;obtain⟨ex,k⟩:=R.putD hp (nJ hn)<|d.put h3 ns;exact set_dict () pins s σ H _ _ v f iv u Q I C B m ⟨p,_,rfl,Cz.t e c<|by rw[<- d.length];exact G,h _ _ ex k⟩
  | _=>exact h.elim
 | _=>exact h.elim
abbrev PD (co ci:Ex):Tg:=λa τ S=>(co τ S).bind λo S1=>(ci τ S1).bind λi S2=>(FT o i a S2).bind λ_ S3=>.ok τ S3
def C9(hu:X.A.units+64<cLine){co ci:Ex}(ho:AE X o co)(hi:AE X i ci)
  (ha:(∀v,assign (.Subscript o i pos) X.env v=(do
   let ov <- holding [v] (eval o X.env)
   let iv <- holding [v,ov] (eval i X.env)
   standAt pos
   holding [v,ov,iv] (setItem ov iv v)
   release [v,ov,iv] []))<|>ζ):AG X (.Subscript o i pos) (PD co ci):=PG.imp (D6 ho hi (SQ hu) ha) λv σ H Q h9=>by
 obtain⟨ρ,S,τ,a,R,r,va,h⟩:=h9;fin2;kd_p;ksr_p
abbrev BW:Ex:=λ_ S=>.ok (.ref S.length)<|S++[.dct []]
def yT:AE X (.Dict [] [] pos) BW:=PE.imp NZ λσ H Q ⟨ρ,S,τ,R,r,h⟩ p hp=>by
 obtain⟨ex,d,c⟩:=R.acE (xs:=[]) (vs:=[]) hp trivial;exact h _ _ _ ex d<|.ref c
abbrev dct? (a:A)(S:jF):Option Unit:=match a with
 | .ref n=>(ku S n).map λ_=>Unit.unit
 | _=>none
abbrev Yc (f:A->ae->jF->R A)(co:Ex)(d:qC):Ex:=λτ S=>(co τ S).bind λx S1=>opt (dct? x S1) λ_=>(d τ S1).bind λas S2=>f x as S2
def dct?_ty{K:au}{H:Hp}{x:A}{v:V}(R:Rel K ρ H S)(a:AV K ρ H x v)(e:dct? x S=some u):Zb K "dict" v H:=by
 cases a with
 | @ref p n h=>
  obtain⟨xs,c,_⟩:=aW.mp e;obtain⟨vs,h1,_⟩:=R.dct h<|nJ c;exact .inr<|.inr<|.inl ⟨rfl,.inr ⟨vs,h1⟩⟩
 | _=>cases e
def YH{e:aC}{id:String}{apos cpos:Pos}{f:A->ae->jF->R A}{co:Ex}{d:qC}(slot:Slot "dict" name id)(hty:typeOf (.builtin id)=pure (.type "method_descriptor"))(hm:Ed X id<|rM X f)(ho:AE X o co)(ha:AL X (e::es) d)
  (hbase:attributeBase o name X.env (eval o X.env)=eval o X.env<|>ε)
  (hfew:(((backTo cpos<|starEach (e::es) X.env).all (λx=>!x.1) && (backToKw cpos<|keywordEach [] X.env).all (λx=>x.1.isSome)
   && decide ((e::es).length+([]:List Keyword).length+(if ([]:List Keyword).isEmpty then 0 else 1)<30))=true)<|>ε)
  (hline:(apos.endLine == cpos.line)=true<|>ε) (hs:starEach (e::es) X.env=(false,eval e X.env)::starEach es X.env<|>ε) (hplain:((backTo cpos<|starEach es X.env).any (·.1)=false)<|>ε) :
  AE X (.Call (.Attribute o name apos) (e::es) [] cpos) (Yc f co d):=PE.imp (ME gJ slot hty hm ho ha hbase hfew hline hs hplain) λσ H Q h9=>by
 z_go;kcf_m;obtain⟨xs,c,h1⟩:=jP h1;refine⟨dct?_ty R1 v1 c,ρ1,S1,τ,R1,r.ext e1,jJ (jQ h1) e1 λas S2 h2 ρ2 H2 vs e2 R2 v2=>?_⟩;kcj_m
abbrev X3 (o:A)(as:ae)(S:jF):R A:=match o,as with
 | .ref n,[.tup xs,y]=>opt (ku S n) λc=>opt (A.ints xs) λk=>.ok ((mw c k).getD y) S
 | _,_=>.no
def aal(hu:X.A.units+64<cLine):Ed X "dict.get" (rM X X3):=λpins s σ H x vs v us Q I rx k h9=>by
 kpc_g
 cases vo with
 | @ref p n hp=>
  match as,va,h with
  | [],_,h=>exact h.elim
  | [z],_,h=>exact(by cases z<;>exact h.elim)
  | z::_::_::_,_,h=>exact(by cases z<;>exact h.elim)
  | [z,y],va,h=>
   obtain⟨K,C,rfl,e,G⟩:=Qf va
   cases e with
   | @tup q xs J f m=>
    obtain⟨d,hn,h⟩:=jP h;obtain⟨ns,t,h⟩:=jP h;have z:=rH m t;subst z;obtain⟨ks,h1,B⟩:=R.dct hp<|nJ hn;refine TM (by omega) pins s σ H _ _ v us Q I rx k ⟨p,q,ns.map Sum.inl,ks,C,rfl,rfl,h1,by rw[IT];exact f,h _ _ _ .refl R ?_⟩;obtain⟨c,g⟩:=B.look ns
    cases e1:mw d ns with
    | none=>
     rw[e1]at c
     cases e2:qJ ks (ns.map Sum.inl)with
     | none=>exact G
     | some _=>rw[e2]at c;cases c
    | some j=>
     obtain⟨v1,e2,F⟩:=g j e1;rw[e2];exact F
   | _=>exact h.elim
 | _=>exact h.elim
end
section
variable {X:Cx}{pos:Pos}{a:aC}
abbrev Co (n k:Nat):Src:=⟨k,λi S=>(jE S n).bind λxs=>(xs[i]?).map λx=>.tup [.int i,x],λS=>match jE S n with
 | some ys=>decide (ys.length=k)
 | none=>false⟩
abbrev kEl (a:A)(S:jF):R Src:=match a with
 | .ref n=>opt (jE S n) λxs=>.ok (Co n xs.length) S
 | _=>.no
abbrev S_ (c:Ex):Ic:=λτ S=>(c τ S).bind λa S1=>kEl a S1
def WS{K:au}{ρ0:bb}{H0:Hp}{p:ak}{n k:Nat}(hp:ρ0[n]?=some p):JR K (Co n k) (WN K p) ρ0 H0 where
 go:=λi S H ρ x e R g=>by
  obtain⟨xs,hn,g⟩:=bX.mp g;obtain⟨y,t,rfl⟩:=aW.mp g;obtain⟨vs,h1,r1⟩:=R.lst (e.get hp)<|jS hn;obtain⟨v,f,m⟩:=r1.get t;refine⟨⟨vs,v,pS.of h1,f⟩,λw H' q=>?_⟩;obtain⟨C,c,rfl,j⟩:=q;have d:=j vs v (pS.of h1) f;subst d;obtain⟨ex,B⟩:=R.im (u:=.tup [.int i,v]) c;exact⟨ex,B,.tup ko<|.cons (.int _)<|.cons (m.ext ex) .nil⟩
 stop:=λS H ρ e R hf=>by
  have hf:(match jE S n with
   | some ys=>decide (ys.length=k)
   | none=>false)=true:=hf
  cases hn:jE S n with
  | none=>rw[hn]at hf;cases hf
  | some xs=>
   rw[hn]at hf;obtain⟨vs,h1,r1⟩:=R.lst (e.get hp)<|jS hn;exact⟨vs,pS.of h1,by rw[<- r1.length];exact bK hf⟩
def Xd{p:Pos}{c:Ex}(hm:X.mg "enumerate" = none)(ha:AE X a c)(hg:Gl X "enumerate"<|>ε)(hs:starEach [a] X.env=[(false,eval a X.env)]<|>ε):AI X (.Tuple elts x1 tpos) (.Call (.Name "enumerate" p) [a] [] pos) (S_ c):=λpins s σ H Q I h9=>by
 z_go;refine ND hg hm (oB ha s_ hs) hs pins s σ H Q I ⟨ρ,S,τ,R,r,jJ (jQ h) .refl λx S1 h1 ρ1 H1 v e1 R1 v1=>?_⟩
 cases v1 with
 | @ref p n hp=>
  obtain⟨xs,hn,h1⟩:=jP h1;obtain⟨vs,d,r1⟩:=R1.lst hp<|jS hn;exact⟨_,vs,rfl,pS.of d,h1 ρ1 H1 _ e1 R1<|WS hp⟩
 | _=>exact h1.elim
def TR{c:Ex}{n:Nat}{xs:ae}(h:c τ S=.ok (.ref n) S1)(hn:jE S1 n=some xs):S_ c τ S=.ok (Co n xs.length) S1:=by
 unfold S_;rw[h];show opt (jE S1 n) _=_;rw[hn];rfl
end
abbrev Gh (K:au)(n:Nat)(F:ae->jF->R A):Sp:=λvs H Q E=>vs.length=n/\∃ρ S as,Rel K ρ H S/\AVs K ρ H as vs/\(F as S).post (λa d=>∀ρ' H' v,Ext ρ ρ' H H'->Rel K ρ' H' d->AV K ρ' H' a v->Q v H') (λc d=>∀C ρ' H',Gg K c C->Ext ρ ρ' H H'->Rel K ρ' H' d->E (.ref C) none H')
section
variable {P:aj}{w:ah}{K:au}{mg:Str->bd}{base:aq}
def Fun.okX{x:Str}{st:aE}{f:ak}{N ps:ar}{k:Nat}{sp:Sp}(F:Fun K x qual st f fd)(S:FnScope N ps<|jN st)(len:∀vs H Q E,sp vs H Q E->vs.length=ps.length)
  (hb:∀(cdv:af) (A:az) (outer:List Env) (s:aA) (H:Hp) (vs:List V) (Q:VK) (E:XK),Room k (A.deeper<|envOfC qual (jN st) s.heap.objs.size f cdv)->sp vs H Q E->∃t,Bp (xy (zc P w) P w K mg base N qual (jN st) f cdv A outer s H E) (nR st) t/\t { nx:=λ_ H'=>Q .non H',rt:=Q } (L2.start N vs) H):FnOk P w K mg base (zc P w) (k+1) f fd ps sp:=by
 obtain⟨q,C,kV,g,p,B,cdv,ct,m,rfl,e,c⟩:=F.ex;exact VT e c S len λA outer s H vs Q E j d=>hb cdv A outer s H vs Q E j d
def fnX{x:Str}{st:aE}{f:ak}{N ps:ar}{k:Nat}{m:Sm}(F:Fun K x qual st f fd)(Sc:FnScope N ps<|jN st)
  (body:∀(cdv:af) (A:az) (outer:List Env) (s:aA) (H:Hp) (E:XK),Room k (A.deeper<|envOfC qual (jN st) s.heap.objs.size f cdv)->KN (xy (zc P w) P w K mg base N qual (jN st) f cdv A outer s H E) (nR st) m) :
  FnOk P w K mg base (zc P w) (k+1) f fd ps (Gh K ps.length<|kP N m):=by
 refine Fun.okX F Sc (λvs H Q E h=>h.1) λcdv B outer s H vs Q E p ⟨J,ρ,S,as,R,va,q⟩=>⟨_,body cdv B outer s H E p,ρ,S,_,R,DJ va N,?_⟩;unfold kP at q
 cases d:m (as++List.replicate (N.length-as.length) .unb) S with
 | rt b S2=>rw[d]at q;exact q
 | nx τ S2=>rw[d]at q;exact λρ' H' g e j _=>q ρ' H' _ e j .non
 | bk τ S2=>rw[d]at q;exact q.elim
 | ct τ S2=>rw[d]at q;exact q.elim
 | no=>rw[d]at q;exact q.elim
 | ex c S2=>
  rw[d]at q;intro C ρ' H' n e j;exact⟨rfl,λpins g s' G I t=>Ln I rfl t<|q C ρ' H' n e j⟩
end
abbrev AN (P:aj)(w:ah)(K:au)(mg:Str->bd)(base:aq)(k:Nat)(x:Str)(ps:ar)(F:ae->jF->R A):Prop:=
 ∃(f:ak) (fd:FuncData),FnOk P w K mg base (zc P w) k f fd ps (Gh K ps.length F)/\mg x=some (.ref f)/\PySem.W.keepIn K (.ref f)=true/\Binds K fd ps []
abbrev pZ (F:ae->jF->R A)(d:qC):Ex:=λτ S=>(d τ S).bind λas S1=>F as S1
section
variable {X:Cx}{pos p:Pos}{e:aC}{es:List aC}{x:Str}{ps:ar}{k:Nat}{F:ae->jF->R A}{d:qC}
def tR(G:AN X.prog X.w X.K X.mg X.base k x ps F)(hr:Room k X.A)(ha:AL X (e::es) d)(hl:∀τ S as S',d τ S=.ok as S'->as.length=ps.length)(hg:Gl X x<|>ε)(hdb:(x == ("__debug__" : Str))=false<|>δ)
  (hs:starEach (e::es) X.env=(false,eval e X.env)::starEach es X.env<|>ε) (hplain:((backTo pos<|starEach es X.env).any (·.1)=false)<|>ε):AE X (.Call (.Name x p) (e::es) [] pos) (pZ F d):=by
 obtain⟨f,fd,t,B,J,m⟩:=G;refine PE.imp (Iz t hr hg B J m .nil (Nn (X:=X) rfl rfl) ha hdb hs hplain) λσ H Q h9=>?_;z_go;refine⟨ρ,S,τ,R,r,?_⟩;have g:=jQ h
 cases j:d τ S with
 | no=>rw[j]at g;exact g
 | ex c S1=>rw[j]at g;exact g
 | ok as S1=>
  rw[j]at g;intro ρ1 H1 vs e1 R1 v1;rw[bN];refine⟨by rw[<- v1.length];exact hl τ S as S1 j,ρ1,S1,as,R1,v1,xJ g (λa S2 q ρ2 H2 v e2=>q ρ2 H2 v<|e1.trans e2) λc S2 q C ρ2 H2 n e2=>q C ρ2 H2 n<|e1.trans e2⟩
end
abbrev VV:ba:=[.type "ValueError",.type "Exception",.type "BaseException",.type "object"]
def UP{K:au}{mg:Str->bd}{base:aq}{x:Str}(M:Mod K mg base)(e:Gg K x C)(q:PySem.W.excIn K C bmB newId=true):OwnCls x C bmB newId mg base:=by
 refine⟨cV M.kin M.glob e,?_⟩;unfold PySem.W.excIn at q;split at q
 ·rename_i dd cd d F;split at q
  ·rename_i N bm k0 k1 k2 k3 L k5 f hs;rw[dz,dz,dz,dz,dz]at q;obtain⟨⟨⟨⟨⟨g,j⟩,c⟩,J⟩,t⟩,p⟩:=q;have g:=iC.mp g;have j:=iC.mp j;have c:cd.hasDel=false:=by simpa using c
   have p:=iC.mp p;subst g j;obtain⟨nm,bs,m,ns,G,B,sn,sub,ab,col,k⟩:=cd;have f:m=_:=f;have c:k=false:=c;subst f c;obtain⟨d⟩:=d;have hs:d=_:=hs;subst hs;exact⟨bm,ns,nm,G,bs,B,sn,sub,ab,col,dd,k0,k1,k2,k3,k5,_,M.kin _ _ F,.of_isNs<|PySem.W.isNs_of_in M.kin t,PySem.W.nsMap_none_of_in M.kin t p,PySem.W.tail_of_in M.kin J⟩
  ·cases q
 ·cases q
abbrev Rh:List (Str ⊕ Ex)->ae->jF->R Unit
 | [],_,S=>.ok Unit.unit S
 | .inl _::ps,τ,S=>Rh ps τ S
 | .inr e::ps,τ,S=>(e τ S).bind λv S1=>match v with
  | .int i=>gd (i.natAbs.log2<64) (Rh ps τ S1)
  | _=>.no
abbrev RZ:List (Str ⊕ Ex)->Bool
 | []=>true
 | .inl x::ps=>decide (x.length<=1000) && RZ ps
 | .inr _::ps=>RZ ps
abbrev xZ (c:Str)(ps:List<|Str ⊕ Ex):Sm:=λτ S=>.of (Rh ps τ S) λ_ S1=>.ex c S1
abbrev tPs (X:Cx):List (Str ⊕ Ex)->List (Str ⊕ TE)
 | []=>[]
 | .inl x::ps=>.inl x::tPs X ps
 | .inr e::ps=>.inr (tE X e)::tPs X ps
section
variable {X:Cx}{pos np cpos fp:Pos}{x:Str}{C:ak}{e1 e2:aC}{es:List aC}{ps:List (Str ⊕ Ex)}
theorem xN{H0:Hp}{k:Hp->Prop}(c:Str)(hk:∀ρ H S,Ext ρ0 ρ H0 H->Rel X.K ρ H S->XE X ρ0 H0 c S->k H):∀(ps:List<|Str ⊕ Ex) (ρ:bb) (H:Hp) (S:jF),RZ ps=true->Ext ρ0 ρ H0 H->Rel X.K ρ H S->SR X.K ρ H τ σ ->
  (Rh ps τ S).post (λ_ S'=>XE X ρ0 H0 c S') (XE X ρ0 H0)->Aw (tPs X ps) σ H k
 | [],ρ,H,S,_,e,R,r,h=>hk ρ H S e R h
 | .inl x::ps,ρ,H,S,ok,e,R,r,h=>by
  obtain⟨f,ok⟩:=Bool.and_eq_true_iff.mp ok;exact⟨bK f,xN c hk ps ρ H S ok e R r h⟩
 | .inr a::ps,ρ,H,S,ok,e,R,r,h=>by
  refine⟨ρ,S,τ,R,r,?_⟩;have h:=jQ h;refine xJ h (λv S1 h1 ρ1 H1 u e1 R1 v1=>?_) λg S' z=>z.ext e
  cases v with
  | int i=>
   obtain⟨d,h1⟩:=j5 h1
   cases v1
   exact⟨i,rfl,d,xN c hk ps ρ1 H1 S1 ok (e.trans e1) R1 (r.ext e1) h1⟩
  | _=>exact h1.elim
def BJ(hn:Gg X.K x C)(hq:PySem.W.excIn X.K C VV "ValueError.__new__" = true)(hh:X.A.handled=none)(hp:FParts X (e1::e2::es)<|tPs X ps)(hfs:RZ ps=true<|>ε)(hg:Gl X x<|>ε)(hl:2000 * (e1::e2::es).length<=sizeLine<|>δ)
  (hs:starEach [.JoinedStr (e1::e2::es) fp] X.env=(false,eval (.JoinedStr (e1::e2::es) fp) X.env)::starEach [] X.env<|>ε) (hpl:((backTo cpos<|starEach [] X.env).any (·.1)=false)<|>ε) (hd:(x == ("__debug__" : Str))=false<|>δ) :
  AS X (.Raise (some<|.Call (.Name x np) [.JoinedStr (e1::e2::es) fp] [] cpos) none pos) (xZ x ps):=by
 intro pins s σ H D I ⟨ρ,S,τ,R,r,h⟩;refine EM (UP I.mod hn hq) iV hh (oB (aa3 hp hl) s_ hs) hg hs hpl hd pins s σ H D I ?_;refine xN (X:=X) (ρ0:=ρ) (H0:=H) x (λρ1 H1 S1 e1 R1 z y c=>?_) ps ρ H S hfs .refl R r<|of_post h;exact⟨(show 1<=sizeLine by decide),z C ρ1 H1 hn e1 R1⟩
def Lj{t:Str}{j tp}(hn:Gg X.K x C)(hq:PySem.W.excIn X.K C VV "ValueError.__new__" = true)(hh:X.A.handled=none)(hg:Gl X x<|>ε)
  (hs:starEach [.Constant (.str t) j tp] X.env=(false,eval (.Constant (.str t) j tp) X.env)::starEach [] X.env<|>ε) (hpl:((backTo cpos<|starEach [] X.env).any (·.1)=false)<|>ε) (hd:(x == ("__debug__" : Str))=false<|>δ) :
  AS X (.Raise (some<|.Call (.Name x np) [.Constant (.str t) j tp] [] cpos) none pos) (xZ x []):=by
 intro pins s σ H D I ⟨ρ,S,τ,R,r,h⟩;refine EM (UP I.mod hn hq) iV hh (oB NP s_ hs) hg hs hpl hd pins s σ H D I ?_;exact⟨(show 1<=sizeLine by decide),h C ρ H hn .refl R⟩
end
abbrev Uc (i:Nat):RS->RS
 | .nx τ S=>.nx (τ.set i .unb) S
 | .bk τ S=>.bk (τ.set i .unb) S
 | .ct τ S=>.ct (τ.set i .unb) S
 | .rt a S=>.rt a S
 | _=>.no
abbrev Ep (i n:Nat)(cs:ar)(c d:Sm):Sm:=λτ S=>match c τ S with
 | .ex x S1=>if x∈cs then Uc i (d ((List.replicate n .unb).set i<|.exn x) S1)else .no
 | r=>r
def SR.unset{K:au}{H:Hp}{τ:ae}{σ:L2.St}(s:SR K ρ H τ σ):SR K ρ H (τ.set i .unb) (σ.set i none):=by
 refine⟨by simp[s.len],λj b e=>?_⟩;by_cases c:j=i
 ·subst c;have d:j<τ.length:=by
   have:=(aI.mp e).1;simpa using this
  rw[bJ d]at e
  cases e
  exact .inl rfl
 ·rw[bO<|cK c]at e;rw[bO<|cK c];exact s.at j b e
section
variable {X:Cx}{pos np hp:Pos}{y n:Str}{Dc:ak}{i:Nat}{body suite:List aE}{b0:aE}{c d:Sm}{cs:ar}
def Yr(hb:∀pn' xe',KN (X.A8 pn' xe') body c)(hh:∀pn' e oe C,XO C oe->KN (X.hand pn' e oe) (b0::suite) d)(hN:X.N.Nodup)(hD:Gg X.K y Dc)(mD:L2.mroIn X.K Dc=some VV)(hcs:∀x∈cs,∃C,Gg X.K x C/\L2.mroIn X.K C=some (.ref Dc::VV))
  {ln:Nat} (hln:X.N.length=ln<|>ε) (hi:X.N[i]?=some n<|>ε) (hlo:X.env.scope.names.lookup n=some .local<|>ε) (hst:X.stack=X.env::X.outer<|>ε) (hf:X.env.frame=some X.env.locals<|>ε) (hex:X.ex=[]<|>ε) (hg:Gl X y<|>ε) (hdb:(y == ("__debug__" : Str))=false<|>δ) :
  AS X (.Try body [.ExceptHandler (some<|.Name y np) (some n) (b0::suite) hp] [] [] pos) (Ep i ln cs c d):=by
 subst hln;intro pins s σ H D I ⟨ρ,S,τ,R,r,h⟩;refine wpAny_Try_except ?_;have tl:τ.length=X.N.length:=by rw[r.len];exact I.len
 have M:∀xe',(∀x S1,c τ S=.ex x S1->XE (X.A8 (X.pn++pins) xe') ρ H x S1)->zf (X.A8 (X.pn++pins) xe') ρ H D (c τ S):=λxe' G=>by
  have h:zf X ρ H D (Ep i X.N.length cs c d τ S):=h;unfold Ep at h
  cases hc:c τ S with
  | nx k p=>rw[hc]at h;exact h
  | rt a p=>rw[hc]at h;exact h
  | bk k p=>rw[hc]at h;exact h
  | ct k p=>rw[hc]at h;exact h
  | no=>rw[hc]at h;exact h
  | ex x S1=>exact G x S1 hc
 refine cZ (hb (X.pn++pins) _ [] s σ H D (I.A8 _) ⟨ρ,S,τ,R,r,M _ λx S1 hc C ρ1 H1 hn e1 R1=>?_⟩) (λf W hs=>?_) λe W z=>z
 ·refine⟨hex,λpins' g s' e T m=>?_⟩;have h:zf X ρ H D (Ep i X.N.length cs c d τ S):=h;unfold Ep at h;rw[hc]at h;have h:zf X ρ H D (if x∈cs then Uc i (d ((List.replicate X.N.length .unb).set i<|.exn x) S1)else .no):=h;by_cases G:x∈cs
  ·rw[aS G]at h;obtain⟨U,L,Y⟩:=hcs x G;have:U=C:=by
    have z:=L.symm.trans hn
    injection z with z
    injection z with z
    injection z
   subst this;have V:X.mg y=some (.ref Dc):=cV I.mod.kin I.mod.glob hD;refine Ng hst hf hex hN hi hlo hg V mD ⋯ T m Y (by simp) (λoe Z P O I6=>?_) I.ok hdb;obtain⟨ex,Rn⟩:=R1.im (u:=.frz oe xu) O;refine hh (X.pn++pins) e oe U P [] Z _ _ (unD i D) I6 ⟨ρ1,S1,(List.replicate X.N.length .unb).set i<|.exn x,Rn,SR.set ⟨?_,λj b z=>?_⟩<|.exn L ko P,?_⟩
   ·rw[List.length_replicate];exact T.len.symm
   ·rw[gG]at z;split at z
    ·exact .inl (aX z).symm
    ·cases z
   ·have e2:=e1.trans ex
    cases F:d ((List.replicate X.N.length .unb).set i<|.exn x) S1 with
    | nx k p=>rw[F]at h;exact λρ' H' g B m t=>h ρ' H' _ (e2.trans B) m t.unset
    | bk k p=>rw[F]at h;exact λρ' H' g B m t=>h ρ' H' _ (e2.trans B) m t.unset
    | ct k p=>rw[F]at h;exact λρ' H' g B m t=>h ρ' H' _ (e2.trans B) m t.unset
    | rt a p=>rw[F]at h;exact λρ' H' v B m t=>h ρ' H' v (e2.trans B) m t
    | ex _ _=>rw[F]at h;exact h.elim
    | no=>rw[F]at h;exact h.elim
  ·rw[aQ G]at h;exact h.elim
 ·cases f with
  | next=>obtain⟨g,H',J,q⟩:=hs;exact gu ⟨g,H',J.Js,q⟩
  | brk=>obtain⟨g,H',J,q⟩:=hs;exact⟨g,H',J.Js,q⟩
  | cont=>obtain⟨g,H',J,q⟩:=hs;exact⟨g,H',J.Js,q⟩
  | ret u=>obtain⟨v,g,H',J,rv,q⟩:=hs;exact⟨v,g,H',J.Js,rv,q⟩
end
abbrev yl (f:Str->bi)(c:Ex):Ex:=λτ S=>(c τ S).bind λv S1=>match v with
 | .exn x=>opt (f x) λb=>.ok (.bl b) S1
 | _=>.no
section
variable {X:Cx}{pos p py:Pos}{a:aC}{y:Str}{vy:V}{cy:af}{f:Str->bi}{c:Ex}
def Q_(ry:∀u,RelV vy u->u=cy)(hf:∀x b C,f x=some b->Gg X.K x C->XCls X.K C/\(PySem.W.clsIn X.K C).isSome=true/\PySem.W.kitOne X.K (.ref C) cy=some b) :
  kO X (.builtin "isinstance") (λxs H Q=>∃ρ S x v b,Rel X.K ρ H S/\xs=[v,vy]/\AV X.K ρ H (.exn x) v/\f x=some b/\Q (.bl b) H):=by
 intro pins s σ H xs us Q I r ⟨ρ,S,x,v,b,R,c,va,d,q⟩;subst c;obtain⟨u,p,rfl,r1,r2⟩:=vals2 r;have:=ry _ r2;subst this
 cases va with
 | exn n h g=>
  obtain⟨m,e,j⟩:=hf _ _ _ d n
  cases(show u=Value.ref _ from r1)
  exact Hr m e I h g j λk=>⟨.bl b,H,I.tok k,rfl,q⟩
def QL(hy:PE X (.Name y py)<|tC vy)(ry:∀u,RelV vy u->u=cy)(hf:∀x b C,f x=some b->Gg X.K x C->XCls X.K C/\(PySem.W.clsIn X.K C).isSome=true/\PySem.W.kitOne X.K (.ref C) cy=some b)(ha:AE X a c)(hm:X.mg "isinstance" = none)(hg:Gl X "isinstance"<|>ε)
  (he:starEach [a,.Name y py] X.env=(false,eval a X.env)::starEach [.Name y py] X.env<|>ε) (he2:starEach [.Name y py] X.env=(false,eval (.Name y py) X.env)::starEach [] X.env<|>ε) (hpl:((backTo pos<|starEach [.Name y py] X.env).any (·.1)=false)<|>ε) :
  AE X (.Call (.Name "isinstance" p) [a,.Name y py] [] pos) (yl f c):=
 PE.imp (Fe (Q_ ry hf) hg hm nH (oB ha (oB hy s_ he2) he) ⋯ ⋯ he hpl) λσ H Q h9=>by
  z_go;refine⟨ρ,S,τ,R,r,jJ (jQ h) .refl λv S1 h1 ρ1 H1 x e1 R1 v1=>?_⟩
  cases v with
  | exn n=>
   obtain⟨b,d,h1⟩:=jP h1;exact⟨ρ1,S1,n,x,b,R1,rfl,v1,d,h1 ρ1 H1 _ e1 R1<|.bl b⟩
  | _=>exact h1.elim
end
structure ExcK (K:au)(U:ak)(c:Str)(C:ak):Prop where
 n:Gg K c C
 q:PySem.W.excIn K C VV "ValueError.__new__" = true
 r:L2.mroIn K C=some (.ref U::VV)
 x:XCls K C
 cl:(PySem.W.clsIn K C).isSome=true
 v:PySem.W.kitOne K (.ref C) (.type "ValueError")=some true
def Bg:bootBuiltins "ValueError" = some (.type "ValueError"):=by decide +kernel
abbrev Lq (tb:List<|Str×Bool):Str->bi:=λx=>tb.lookup x
def Vu{K:au}{tb:List<|Str×Bool}(h:∀p∈tb,∃C,Gg K p.1 C/\XCls K C/\(PySem.W.clsIn K C).isSome=true/\PySem.W.kitOne K (.ref C) cy=some p.2):∀x b C,Lq tb x=some b->Gg K x C->XCls K C/\(PySem.W.clsIn K C).isSome=true/\PySem.W.kitOne K (.ref C) cy=some b:=λx b C e n=>by
 obtain⟨d,c,g⟩:=h (x,b)<|cD e;have:d=C:=by
  have z:=c.symm.trans n
  injection z with z
  injection z with z
  injection z
 subst this;exact g
section
variable {X:Cx}{pos p py:Pos}{a:aC}{y:Str}{Cy:ak}{tb:List (Str×Bool)}{c:Ex}
def ve(hm:X.mg y=some (.ref Cy))(h:∀p∈tb,∃C,Gg X.K p.1 C/\XCls X.K C/\(PySem.W.clsIn X.K C).isSome=true/\PySem.W.kitOne X.K (.ref C) (.ref Cy)=some p.2)(ha:AE X a c)(hi:X.mg "isinstance" = none)(hg:Gl X "isinstance"<|>ε)(hgy:Gl X y<|>ε)(hdb:(y == ("__debug__" : Str))=false<|>δ)
  (he:starEach [a,.Name y py] X.env=(false,eval a X.env)::starEach [.Name y py] X.env<|>ε) (he2:starEach [.Name y py] X.env=(false,eval (.Name y py) X.env)::starEach [] X.env<|>ε) (hpl:((backTo pos<|starEach [.Name y py] X.env).any (·.1)=false)<|>ε) :
  AE X (.Call (.Name "isinstance" p) [a,.Name y py] [] pos) (yl (Lq tb) c):=QL (vy:=.ref Cy) (cy:=.ref Cy) (Kg hgy hm rfl hdb) (λu r=>r) (Vu h) ha hi hg he he2 hpl
def Xn(hm:X.mg "ValueError" = none)(h:∀p∈tb,∃C,Gg X.K p.1 C/\XCls X.K C/\(PySem.W.clsIn X.K C).isSome=true/\PySem.W.kitOne X.K (.ref C) (.type "ValueError")=some p.2)(ha:AE X a c)(hi:X.mg "isinstance" = none)(hg:Gl X "isinstance"<|>ε)(hgy:Gl X "ValueError"<|>ε)
  (he:starEach [a,.Name "ValueError" py] X.env=(false,eval a X.env)::starEach [.Name "ValueError" py] X.env<|>ε) (he2:starEach [.Name "ValueError" py] X.env=(false,eval (.Name "ValueError" py) X.env)::starEach [] X.env<|>ε) (hpl:((backTo pos<|starEach [.Name "ValueError" py] X.env).any (·.1)=false)<|>ε) :
  AE X (.Call (.Name "isinstance" p) [a,.Name "ValueError" py] [] pos) (yl (Lq tb) c):=QL (vy:=.ty "ValueError") (cy:=.type "ValueError") (HE hgy hm Bg rfl ⋯ ⋯) (λu r=>r) (Vu h) ha hi hg he he2 hpl
end
section
variable {P:aj}{w:ah}{K:au}{mg:Str->bd}{base:aq}
def fnH{x:Str}{st:aE}{f:ak}{N ps:ar}{k:Nat}{m:Sm}(F:Fun K x qual st f fd)(Sc:FnScope N ps<|jN st)
  (body:∀(cdv:af) (A:az) (outer:List Env) (s:aA) (H:Hp) (e:ak) (oe:Obj) (C:ak),B_ k (A.deeper<|envOfC qual (jN st) s.heap.objs.size f cdv)->A.handled=some (.ref e)->H e=some (.frz oe xu)->XO C oe->KN (cxH P w K mg base N qual (jN st) f cdv A outer s H) (nR st) m) :
  FnOkH P w K mg base (k+1) f fd ps (sO K ps.length<|kP N m):=by
 refine XQ F Sc (λvs H Q E h=>h.1) λcdv B outer s H vs Q e oe C G j ⟨L,ρ,S,as,a,J,R,va,d,q⟩=>⟨_,body cdv B outer s H e oe C G j.hh j.h0 j.xo,ρ,S,_,R,DJ va N,?_⟩;unfold kP at d
 cases g:m (as++List.replicate (N.length-as.length) .unb) S with
 | rt b S2=>rw[g]at d;cases d;exact q
 | nx τ S2=>rw[g]at d;cases d;exact λρ' H' p e t _=>q ρ' H' _ e t .non
 | bk τ S2=>rw[g]at d;cases d
 | ct τ S2=>rw[g]at d;cases d
 | ex c S2=>rw[g]at d;cases d
 | no=>rw[g]at d;cases d
end
meta abbrev W5 (P:aj)(w:ah)(K:au)(mg:Str->bd)(base:aq)(k:Nat)(x:Str)(ps:ar)(F:ae->jF->R A):Prop:=KnH P w K mg base k x ps<|sO K ps.length F
def XT{X:Cx}{p:Pos}{a:aC}{x:Str}{ps:ar}{k:Nat}{F:ae->jF->R A}{d:qC}{e:ak}(G:W5 X.prog X.w X.K X.mg X.base k x ps F)(hr:B_ k X.A)(hh:X.A.handled=some (.ref e))(h0:X.H₀ e=some (.frz oe xu))(xo:XO C oe)(ha:AL X (a::es) d)(hl:∀τ S as S',d τ S=.ok as S'->as.length=ps.length)(hg:Gl X x<|>ε)(hdb:(x == ("__debug__" : Str))=false<|>δ)
  (hs:starEach (a::es) X.env=(false,eval a X.env)::starEach es X.env<|>ε) (hplain:((backTo pos<|starEach es X.env).any (·.1)=false)<|>ε):AE X (.Call (.Name x p) (a::es) [] pos) (eFn F d):=
 PE.imp (X_ G hr hh h0 xo ha hg hdb hs hplain) λσ H Q h9=>by
  z_go;refine⟨ρ,S,τ,R,r,?_⟩;have f:=jQ h
  cases g:d τ S with
  | no=>rw[g]at f;exact f
  | ex c S1=>rw[g]at f;exact f
  | ok as S1=>
   rw[g]at f;intro ρ1 H1 vs e1 R1 v1;rw[bN];refine⟨by rw[<- v1.length];exact hl τ S as S1 g,ρ1,S1,as,?_⟩;have f:Am.R.post (match F as S1 with
    | .ok a S2=>.ok a S2
    | _=>.no) (z0 X ρ H Q) (XE X ρ H):=f
   cases j:F as S1 with
   | ok a S2=>rw[j]at f;exact⟨a,S2,R1,v1,rfl,λρ2 H2 v e2=>f ρ2 H2 v<|e1.trans e2⟩
   | ex c S2=>rw[j]at f;exact f.elim
   | no=>rw[j]at f;exact f.elim
abbrev aa0 (F:ae->jF->R A)(d:qC):Ex:=λτ S=>match d τ S with
 | .ok as S1=>F as S1
 | _=>.no
section
variable {d:qC}
abbrev aat (t:Te)(c d:Sm):Sm:=λτ S=>match t τ S with
 | .ok true S1=>c τ S1
 | .ok false S1=>d τ S1
 | _=>.no
end
abbrev UQ (i:Nat)(cs:ar)(c d:Sm):Sm:=λτ S=>match c τ S with
 | .ex x S1=>if x∈cs then Uc i (d (τ.set i<|.exn x) S1)else .no
 | r=>r
end Am
namespace L2
open PySem PySem.Spec PyProof.Rows
abbrev HX (e:ak)(oe:Obj)(Y:Cx):Prop:=Y.A.handled=some (.ref e)/\Y.H₀ e=some (.frz oe xu)
end L2
namespace Am
open PySem PySem.Spec PyProof.Rows L2
def Lu{K:au}{H:Hp}{a:ak}{ns:ag}{F:ae->jF->R A}(hO:Sf H)(hS:pS K H a<|ns.map V.int)(h:∃S',F [.frz<|ns.map .int] []=.ok (.bl true) S'):sO K 1 F [.ref a] H (λv _=>v=.bl true) λ_ _ _=>False:=by
 obtain⟨S',h⟩:=h;have fz:Fz K H a (ns.map V.int):=by
  rcases hS with(h|⟨o,h⟩)|h
  ·rcases hO a with z|⟨c,xs,z⟩
   ·rw[h]at z;cases z
   ·rw[h]at z;cases z
  ·exact .inl ⟨o,h⟩
  ·exact .inr h
 exact⟨rfl,[],[],_,_,S',⟨rfl,dh,λn a o h=>by simp at h⟩,.cons (.frz fz<|qS ns) .nil,h,λρ' H' v _ _ hv=>Fb hv⟩
section
variable {P:aj}{w:ah}{K:au}{mg:Str->bd}{base:aq}{f:ak}{fd:FuncData}{ps:ar}{k n:Nat}
def Xc(h:n=ps.length):FnOk P w K mg base (zc P w) k f fd ps (Gh K n λ_ _=>.no):=
 ⟨λ_ _ _ _ z=>z.1.trans h,λ_ _ _ _ _ _ _ _ _ _ _ _ _ z=>by obtain⟨_,_,_,_,_,_,e⟩:=z;exact e.elim⟩
end
def FP{P:ba->Prop}(h:∀a0,P [a0]):∀us:ba,us.length=1->P us
 | [_],_=>h _
def BI{P:ba->Prop}(h:∀a0 a1,P [a0,a1]):∀us:ba,us.length=2->P us
 | [_,_],_=>h _ _
def GU{n:Nat}{us:ba}(h:us.length=n+1):∃a t,us=a::t/\t.length=n:=by
 cases us with
 | nil=>simp at h
 | cons a t=>exact⟨a,t,rfl,by simpa using h⟩
def us3{P:ba->Prop}(h:∀a0 a1 a2,P [a0,a1,a2]):∀us:ba,us.length=3->P us:=λus e=>by
 obtain⟨a0,t0,rfl,e0⟩:=GU e;obtain⟨a1,c,rfl,e1⟩:=GU e0;obtain⟨a2,d,rfl,e2⟩:=GU e1
 cases c8.mp e2
 exact h _ _ _
def us4{P:ba->Prop}(h:∀a0 a1 a2 a3,P [a0,a1,a2,a3]):∀us:ba,us.length=4->P us:=λus e=>by
 obtain⟨a0,t0,rfl,e0⟩:=GU e;obtain⟨a1,d,rfl,e1⟩:=GU e0;obtain⟨a2,f,rfl,e2⟩:=GU e1;obtain⟨a3,c,rfl,e3⟩:=GU e2
 cases c8.mp e3
 exact h _ _ _ _
end Am
namespace Am
open PySem L2
section
variable {α β:Type}{a b:A}{S S1:jF}{τ:ae}{x:α}
@[simp]def R.qq {f:α->jF->R β}:(R.ok x S).bind f=f x S:=rfl
@[simp]def R.Kf {f:α->jF->R β}{c:Str}:(R.ex c S:R α).bind f=.ex c S:=rfl
@[simp]def R.lJ {f:α->jF->R β}:(R.ok x S).uY f=f x S:=rfl
@[simp]def RS.of_ok {f:α->jF->RS}:RS.of (R.ok x S) f=f x S:=rfl
@[simp]def RS.UU {f:α->jF->RS}{c:Str}:RS.of (R.ex c S:R α) f=.ex c S:=rfl
@[simp]def j7 {f:β->R α}{y:β}:opt (some y) f=f y:=rfl
@[simp]def Jo {r:R α}:gd True r=r:=aS trivial
theorem oM{c:Prop}[Decidable c]{r:R α}(h:c):gd c r=r:=aS h
@[simp]def qy {i:Nat}:jB i τ S=bif (τ.getD i .unb).o8 then .no else .ok (τ.getD i .unb) S:=by unfold jB;cases(τ.getD i .unb).o8<;>rfl
@[simp]def Ku {xs:ae}:A.o8 (.tup xs)=false:=rfl
@[simp]def Jj {xs:ae}:A.o8 (.frz xs)=false:=rfl
@[simp]def J9 {i:Int}:A.o8 (.int i)=false:=rfl
@[simp]def OX {i:Bool}:A.o8 (.bl i)=false:=rfl
@[simp]def Kv {i:Str}:A.o8 (.str i)=false:=rfl
@[simp]def Iq {i:Nat}:A.o8 (.ref i)=false:=rfl
@[simp]def Ji:A.o8 .non=false:=rfl
@[simp]def Ju {i j:Int}:A.o8 (.rng i j)=false:=rfl
@[simp]def HC {c:Str}:A.o8 (.exn c)=false:=rfl
@[simp]def UY:eC a τ S=.ok a S:=rfl
abbrev ZO (f:A->A->jF->R A)(cb:Ex)(τ:ae)(a:A)(S:jF):R A:=(cb τ S).bind<|f a
@[simp]def IG {f:A->A->jF->R A}{cb:Ex}:ZO f cb τ a S=(cb τ S).bind (f a):=rfl
@[simp]def Kq {f:A->A->jF->R A}{ca cb:Ex}:jI f ca cb τ S=(ca τ S).bind (ZO f cb τ):=rfl
@[simp]def OG {f:A->jF->R A}{ca:Ex}:Zl f ca τ S=(ca τ S).bind f:=rfl
@[simp]def Jk {c:Ex}:ue c τ S=(c τ S).bind λa S1=>opt (a.W4 S1) λb=>.ok b S1:=rfl
abbrev aB (a:A)(S:jF):R Bool:=match a with
 | .bl b=>.ok b S
 | _=>.no
@[simp]def VS {b:Bool}:aB (.bl b) S=.ok b S:=rfl
@[simp]def P4 {c:Ex}:qQ c τ S=(c τ S).bind aB:=rfl
@[simp]def Ik {c:Te}:EZ c τ S=(c τ S).bind λb S1=>.ok (!b) S1:=rfl
abbrev Yi (d:Te)(τ:ae)(b:Bool)(S:jF):R Bool:=match b with|true=>d τ S|false=>.ok false S
abbrev kOr (d:Te)(τ:ae)(b:Bool)(S:jF):R Bool:=match b with|true=>.ok true S|false=>d τ S
@[simp]def OM {d:Te}:Yi d τ true S=d τ S:=rfl
@[simp]def M3 {d:Te}:Yi d τ false S=.ok false S:=rfl
@[simp]def UM {d:Te}:kOr d τ true S=.ok true S:=rfl
@[simp]def Vh {d:Te}:kOr d τ false S=d τ S:=rfl
@[simp]def HS {c d:Te}:LK c d τ S=(c τ S).bind (Yi d τ):=rfl
@[simp]def MV {c d:Te}:Up c d τ S=(c τ S).bind (kOr d τ):=rfl
@[simp]def JN:lD τ S=.ok true S:=rfl
abbrev N9 (d:Ex)(τ:ae)(a:A)(S:jF):R A:=match a with | .bl true=>d τ S | .bl false=>.ok (.bl false) S|_=>.no
abbrev V2 (d:Ex)(τ:ae)(a:A)(S:jF):R A:=match a with | .bl true=>.ok (.bl true) S | .bl false=>d τ S|_=>.no
@[simp]def IP {d:Ex}:N9 d τ (.bl true) S=d τ S:=rfl
@[simp]def Jl {d:Ex}:N9 d τ (.bl false) S=.ok (.bl false) S:=rfl
@[simp]def M8 {d:Ex}:V2 d τ (.bl true) S=.ok (.bl true) S:=rfl
@[simp]def MH {d:Ex}:V2 d τ (.bl false) S=d τ S:=rfl
@[simp]def HK {c d:Ex}:D4 c d τ S=(c τ S).bind (N9 d τ):=by
 unfold D4
 cases c τ S with
 | ok a S1=>cases a<;>first|rfl|(rename_i b;cases b<;>rfl)
 | _=>rfl
@[simp]def Qh {c d:Ex}:eOr c d τ S=(c τ S).bind (V2 d τ):=by
 unfold eOr
 cases c τ S with
 | ok a S1=>cases a<;>first|rfl|(rename_i b;cases b<;>rfl)
 | _=>rfl
abbrev Vz (a:A)(S:jF):R A:=match a with | .bl b=>.ok (.bl !b) S|_=>.no
@[simp]def Ei {b:Bool}:Vz (.bl b) S=.ok (.bl !b) S:=rfl
@[simp]def Kw {c:Ex}:Wa c τ S=(c τ S).bind Vz:=rfl
abbrev Xk (c d:Ex)(τ:ae)(b:Bool)(S:jF):R A:=match b with|true=>c τ S|false=>d τ S
@[simp]def PY {c d:Ex}:Xk c d τ true S=c τ S:=rfl
@[simp]def NH {c d:Ex}:Xk c d τ false S=d τ S:=rfl
@[simp]def PX {t:Te}{c d:Ex}:eIf t c d τ S=(t τ S).bind (Xk c d τ):=rfl
@[simp]def HN:jH τ S=.ok [] S:=rfl
abbrev Hv (a:A)(as:ae)(S:jF):R (ae):=.ok (a::as) S
abbrev Vq (d:qC)(τ:ae)(a:A)(S:jF):R (ae):=(d τ S).bind<|Hv a
@[simp]def BZ {as:ae}:Hv a as S=.ok (a::as) S:=rfl
@[simp]def ED {d:qC}:Vq d τ a S=(d τ S).bind (Hv a):=rfl
@[simp]def ET {c:Ex}{d:qC}:jC c d τ S=(c τ S).bind (Vq d τ):=rfl
@[simp]def JH {d:qC}:pD d τ S=(d τ S).bind λas S1=>gd (as.length<=sizeLine) (.ok (.tup as) S1):=rfl
@[simp]def Kx {d:qC}:nX d τ S=(d τ S).bind newL:=rfl
theorem mF{as:ae}(h:as.length<=16777216):newL as S=.ok (.ref S.length) (S++[.lst as]):=oM<|by rw[er];exact h
@[simp]def F1 {f:ae->jF->R A}{d:qC}:jY f d τ S=(d τ S).bind f:=rfl
abbrev okR (r:R A):R A:=match r with
 | .ok a S=>.ok a S
 | _=>.no
@[simp]def Qu:okR (.ok a S)=.ok a S:=rfl
abbrev kFn (f:ae->jF->R A)(as:ae)(S:jF):R A:=okR<|f as S
@[simp]def Pa {f:ae->jF->R A}{as:ae}:kFn f as S=okR (f as S):=rfl
@[simp]def P9 {f:ae->jF->R A}{d:qC}:eFn f d τ S=(d τ S).bind (kFn f):=rfl
@[simp]def VF {g:A->jF->R A}:f1 g [a] S=g a S:=rfl
@[simp]def VW {g:A->A->jF->R A}:f2 g [a,b] S=g a b S:=rfl
abbrev W_ (h:Pt)(τ:ae)(a:A)(l:Option Int)(S:jF):R A:=(h τ S).bind<|aSl a l
abbrev kSl (l h:Pt)(τ:ae)(a:A)(S:jF):R A:=(l τ S).bind<|W_ h τ a
@[simp]def Kr {h:Pt}{l:Option Int}:W_ h τ a l S=(h τ S).bind (aSl a l):=rfl
@[simp]def Pp {l h:Pt}:kSl l h τ a S=(l τ S).bind (W_ h τ a):=rfl
@[simp]def PZ {c:Ex}{l h:Pt}:eSl c l h τ S=(c τ S).bind (kSl l h τ):=rfl
@[simp]def Et:Zq τ S=.ok none S:=rfl
abbrev aPt (a:A)(S:jF):R (Option Int):=match a with
 | .int i=>.ok (some i) S
 | _=>.no
@[simp]def JJ {i:Int}:aPt (.int i) S=.ok (some i) S:=rfl
@[simp]def Eg {c:Ex}:aaL c τ S=(c τ S).bind aPt:=rfl
abbrev Wo (f:A->ae->jF->R A)(d:qC)(τ:ae)(o:A)(S:jF)(_:ae):R A:=(d τ S).bind<|f o
abbrev kMe (f:A->ae->jF->R A)(d:qC)(τ:ae)(o:A)(S:jF):R A:=opt (o.lst? S)<|Wo f d τ o S
@[simp]def IB {f:A->ae->jF->R A}{d:qC}{xs:ae}:Wo f d τ a S xs=(d τ S).bind (f a):=rfl
@[simp]def Rc {f:A->ae->jF->R A}{d:qC}:kMe f d τ a S=opt (a.lst? S) (Wo f d τ a S):=rfl
@[simp]def Ot {f:A->ae->jF->R A}{c:Ex}{d:qC}:yI f c d τ S=(c τ S).bind (kMe f d τ):=rfl
@[simp]def IF {f:A->ae->jF->R A}{c:Ex}:Th f c τ S=(c τ S).bind λo S1=>opt (o.lst? S1) λ_=>f o [] S1:=rfl
@[simp]def lst?_ref {n:Nat}:A.lst? S (.ref n)=jE S n:=rfl
abbrev RS.seq (r:RS)(d:Sm):RS:=match r with
 | .nx τ S=>d τ S
 | r=>r
@[simp]def RS.My {d:Sm}:RS.seq (.nx τ S) d=d τ S:=rfl
@[simp]def RS.Oj {d:Sm}:RS.seq (.rt a S) d=.rt a S:=rfl
@[simp]def RS.QI {d:Sm}{c:Str}:RS.seq (.ex c S) d=.ex c S:=rfl
@[simp]def RS.Qa {d:Sm}:RS.seq (.bk τ S) d=.bk τ S:=rfl
@[simp]def RS.QO {d:Sm}:RS.seq (.ct τ S) d=.ct τ S:=rfl
@[simp]def Il {c d:Sm}:jX c d τ S=RS.seq (c τ S) d:=by unfold jX RS.seq;cases c τ S<;>rfl
@[simp]def Ja:pJ τ S=.nx τ S:=rfl
@[simp]def Cs:Xr τ S=.bk τ S:=rfl
@[simp]def E7:aaF τ S=.ct τ S:=rfl
@[simp]def FA {e:Ex}:mL e τ S=RS.of (e τ S) λ_ S1=>.nx τ S1:=rfl
@[simp]def HZ {e:Ex}:kZ e τ S=RS.of (e τ S) .rt:=rfl
@[simp]def Fd:Zm τ S=.rt .non S:=rfl
abbrev kIf (c d:Sm)(τ:ae)(b:Bool)(S:jF):RS:=match b with|true=>c τ S|false=>d τ S
@[simp]def VP {c d:Sm}:kIf c d τ true S=c τ S:=rfl
@[simp]def VA {c d:Sm}:kIf c d τ false S=d τ S:=rfl
@[simp]def Ow {t:Te}{c d:Sm}:wD t c d τ S=RS.of (t τ S) (kIf c d τ):=rfl
abbrev aaE (g:Tg)(τ:ae)(a:A)(S:jF):RS:=RS.of (g a τ S) .nx
@[simp]def Ky {g:Tg}:aaE g τ a S=RS.of (g a τ S) .nx:=rfl
@[simp]def JX {e:Ex}{g:Tg}:kc e g τ S=RS.of (e τ S) (aaE g τ):=rfl
@[simp]def Xl {i:Nat}:j4 i a τ S=.ok (τ.set i a) S:=rfl
abbrev V7 (a o:A)(τ:ae)(i:A)(S:jF):R (ae):=(FD o i a S).bind λ_ S3=>.ok τ S3
abbrev kSb (ci:Ex)(τ:ae)(a o:A)(S:jF):R (ae):=(ci τ S).bind<|V7 a o τ
@[simp]def Kh {o i:A}:V7 a o τ i S=(FD o i a S).bind λ_ S3=>.ok τ S3:=rfl
@[simp]def NY {ci:Ex}{o:A}:kSb ci τ a o S=(ci τ S).bind (V7 a o τ):=rfl
@[simp]def Mw {co ci:Ex}:RV co ci a τ S=(co τ S).bind (kSb ci τ a):=rfl
@[simp]def ON {n:Nat}{gs:Ri}{xs:ae}:zm n gs (.tup xs) τ S=gd (xs.length=n) (gs xs τ S):=rfl
@[simp]def P_:zx [] τ S=.ok τ S:=rfl
@[simp]def Mv {g:Tg}{gs:Ri}{as:ae}:rE g gs (a::as) τ S=(g a τ S).bind (gs as):=rfl
abbrev sPr (i j:Nat)(τ:ae)(as:ae)(S:jF):RS:=match as with
 | [a,b]=>.nx ((τ.set i a).set j b) S
 | _=>.no
@[simp]def PO {i j:Nat}:sPr i j τ [a,b] S=.nx ((τ.set i a).set j b) S:=rfl
@[simp]def Jv {i j:Nat}{c:qC}:aby i j c τ S=RS.of (c τ S) (sPr i j τ):=rfl
abbrev Pr (i:Nat)(τ:ae)(c:A)(S:jF):RS:=.nx (τ.set i c) S
abbrev Zs (i:Nat)(f:A->A->jF->R A)(τ:ae)(b:A)(S:jF):RS:=.of (f (τ.getD i .unb) b S)<|Pr i τ
@[simp]def E_ {i:Nat}:Pr i τ a S=.nx (τ.set i a) S:=rfl
@[simp]def Jf {i:Nat}{f:A->A->jF->R A}:Zs i f τ a S=.of (f (τ.getD i .unb) a S) (Pr i τ):=rfl
@[simp]def IM {i:Nat}{f:A->A->jF->R A}{e:Ex}:Lk i f e τ S=bif (τ.getD i .unb).o8 then .no else .of (e τ S) (Zs i f τ):=by
 unfold Lk;cases(τ.getD i .unb).o8<;>rfl
abbrev kS5 (o i:A)(τ:ae)(z:A)(S:jF):RS:=.of (FD o i z S) λ_ c=>.nx τ c
abbrev kS4 (f:A->A->jF->R A)(o i x:A)(τ:ae)(y:A)(S:jF):RS:=.of (f x y S)<|kS5 o i τ
abbrev kS3 (ce:Ex)(f:A->A->jF->R A)(o i:A)(τ:ae)(x:A)(S:jF):RS:=.of (ce τ S)<|kS4 f o i x τ
abbrev kS2 (ce:Ex)(f:A->A->jF->R A)(o:A)(τ:ae)(i:A)(S:jF):RS:=.of (RA o i S)<|kS3 ce f o i τ
abbrev kS1 (ci ce:Ex)(f:A->A->jF->R A)(τ:ae)(o:A)(S:jF):RS:=.of (ci τ S)<|kS2 ce f o τ
@[simp]def Nk {o i:A}:kS5 o i τ a S=.of (FD o i a S) λ_ S6=>.nx τ S6:=rfl
@[simp]def N_ {f:A->A->jF->R A}{o i x:A}:kS4 f o i x τ a S=.of (f x a S) (kS5 o i τ):=rfl
@[simp]def M0 {ce:Ex}{f:A->A->jF->R A}{o i:A}:kS3 ce f o i τ a S=.of (ce τ S) (kS4 f o i a τ):=rfl
@[simp]def MC {ce:Ex}{f:A->A->jF->R A}{o:A}:kS2 ce f o τ a S=.of (RA o a S) (kS3 ce f o a τ):=rfl
@[simp]def OC {ci ce:Ex}{f:A->A->jF->R A}:kS1 ci ce f τ a S=.of (ci τ S) (kS2 ce f a τ):=rfl
@[simp]def FW {co ci ce:Ex}{f:A->A->jF->R A}:aax co ci ce f τ S=RS.of (co τ S) (kS1 ci ce f τ):=rfl
abbrev RS.end (r:RS):R A:=match r with
 | .rt a d=>.ok a d
 | .nx _ d=>.ok .non d
 | .ex c d=>.ex c d
 | _=>.no
@[simp]def RS.Od:RS.end (.rt a S)=.ok a S:=rfl
@[simp]def RS.Ol:RS.end (.nx τ S)=.ok .non S:=rfl
@[simp]def RS.OD {c:Str}:RS.end (.ex c S)=.ex c S:=rfl
theorem w_ {N:ar}{m:Sm}{as:ae}:kP N m as S=RS.end (m (as++List.replicate (N.length-as.length) .unb) S):=by
 unfold kP RS.end;cases m (as++List.replicate (N.length-as.length) .unb) S<;>rfl
@[simp]def OY {i j:Int}:nE (.int i) (.int j) S=.ok (.int<|i+j) S:=rfl
@[simp]def Nr {i j:Int}:aSub (.int i) (.int j) S=.ok (.int<|i-j) S:=rfl
@[simp]def QE {i j:Int}:Tv (.int i) (.int j) S=.ok (.int<|i+j) S:=rfl
theorem Oo{i j:Int}(h:-18446744073709551616<i)(h':i<18446744073709551616):A5 (.int i) (.int j) S=.ok (.int<|i * j) S:=oM<|by unfold FU;simp;left;exact⟨by omega,by omega⟩
def mul_r{i j:Int}(h:-18446744073709551616<j)(h':j<18446744073709551616):A5 (.int i) (.int j) S=.ok (.int<|i * j) S:=oM<|by unfold FU;simp;right;exact⟨(),()⟩
def Om{i j:Int}(h:0<j)(h':j<1073741824):JB (.int i) (.int j) S=.ok (.int<|i / j) S:=oM ⟨h,()⟩
def B4{i j:Int}(h:0<j):yK (.int i) (.int j) S=.ok (.int<|i % j) S:=oM h
@[simp]def U0 {i j:Int}:Vc (.int i) (.int j) S=.ok (.bl<|decide<|i<j) S:=rfl
@[simp]def U_ {i j:Int}:ZX (.int i) (.int j) S=.ok (.bl<|decide<|i<=j) S:=rfl
@[simp]def Vp {i j:Int}:OV (.int i) (.int j) S=.ok (.bl<|decide<|j<i) S:=rfl
@[simp]def UO {i j:Int}:aGe (.int i) (.int j) S=.ok (.bl<|decide<|j<=i) S:=rfl
@[simp]def U6 {i j:Bool}:Ho false (.bl i) (.bl j) S=.ok (.bl<|i == j) S:=rfl
@[simp]def Q7 {i j:Bool}:Ho true (.bl i) (.bl j) S=.ok (.bl<|i != j) S:=rfl
@[simp]def Ou {i:Int}:LQ (.int i) S=.ok (.int<|-i) S:=rfl
@[simp]def MR {xs:ae}:lZ (.tup xs) S=.ok (.int xs.length) S:=rfl
@[simp]def OI {xs:ae}:lZ (.frz xs) S=.ok (.int xs.length) S:=rfl
@[simp]def Rb {n:Nat}:lZ (.ref n) S=opt (jE S n) λxs=>.ok (.int xs.length) S:=rfl
@[simp]def MN {i:Int}:XX (.int i) S=.ok (.int<|if i<0 then -i else i) S:=rfl
@[simp]def HU {i j:Int}:aaI (.int i) (.int j) S=.ok (.int<|if j>i then j else i) S:=rfl
@[simp]def HJ {i j:Int}:aaN (.int i) (.int j) S=.ok (.int<|if j<i then j else i) S:=rfl
@[simp]def J7 {i:Int}:Vm (.int i) S=.ok (.int i) S:=rfl
@[simp]def II {i:Bool}:Vm (.bl i) S=.ok (.int<|if i then 1 else 0) S:=rfl
@[simp]def Ca {i j:Int}:Dy (.int i) (.int j) S=.ok (.rng i j) S:=rfl
@[simp]def VM {xs:ae}{i:Int}:kI (.tup xs) (.int i) S=opt (qZ xs i) λx=>.ok x S:=rfl
@[simp]def Vf {xs:ae}{i:Int}:kI (.frz xs) (.int i) S=opt (qZ xs i) λx=>.ok x S:=rfl
@[simp]def VD {n:Nat}{i:Int}:kI (.ref n) (.int i) S=opt (jE S n) λxs=>opt (qZ xs i) λx=>.ok x S:=rfl
@[simp]def N4 {n:Nat}{k:Int}:FD (.ref n) (.int k) a S=opt (jE S n) λxs=>opt (Ec xs.length k) λj=>.ok Unit.unit (S.set n<|.lst<|xs.set j a):=rfl
@[simp]def O6 {n:Nat}{i:Int}:RA (.ref n) (.int i) S=opt (jE S n) λxs=>gd (0<=i) (opt (xs[i.toNat]?) λx=>.ok x S):=rfl
theorem Lx{i j:Int}(h:BF i j):ud (.rng i j) S=.ok (.ref S.length) (S++[.lst<|(nN i j).map .int]):=oM h
@[simp]def Ij {xs:ae}:ud (.tup xs) S=.ok (.ref S.length) (S++[.lst xs]):=rfl
@[simp]def HH {xs:ae}:ud (.frz xs) S=.ok (.ref S.length) (S++[.lst xs]):=rfl
@[simp]def H_ {n:Nat}:ud (.ref n) S=opt (jE S n) λxs=>.ok (.ref S.length) (S++[.lst xs]):=rfl
@[simp]def Fj {xs:ae}:z7 (.tup xs) S=.ok (.tup xs) S:=rfl
@[simp]def F7 {n:Nat}:z7 (.ref n) S=opt (jE S n) λxs=>.ok (.tup xs) S:=rfl
@[simp]def QT {xs:ae}:Zh (.tup xs) S=.ok (.tup xs.reverse) S:=rfl
@[simp]def O2 {n:Nat}:Zh (.ref n) S=opt (jE S n) λxs=>.ok (.ref S.length) (S++[.lst xs.reverse]):=rfl
@[simp]def Vj {n:Nat}{l u:Option Int}:aSl (.ref n) l u S=opt (jE S n) λxs=>.ok (.ref S.length) (S++[.lst<|Rt xs l u]):=rfl
@[simp]def zY {n:Nat}:mE (.ref n) [a] S=opt (jE S n) λxs=>gd (xs.length<sizeLine) (.ok .non<|S.set n<|.lst<|xs++[a]):=rfl
@[simp]def P7 {b:Bool}:A.W4 (.bl b) S=some b:=rfl
@[simp]def J2 {i:Int}:A.W4 (.int i) S=some (i != 0):=rfl
theorem CZ{o:O}:(S++[o])[S.length]?=some o:=by simp
@[simp]def jR {xs:ae}:jE (S++[.lst xs]) S.length=some xs:=sV CZ
theorem j9{o:O}{n:Nat}(h:jE S n=some xs):jE (S++[o]) n=some xs:=by
 have h':=jS h;exact sV<|by rw[bB (aI.mp h').1];exact h'
def mq{n:Nat}(h:jE S n=some xs):n<S.length:=(aI.mp<|jS h).1
def qz{n:Nat}(h:n<S.length):jE (S.set n<|.lst ys) n=some ys:=sV<|bJ h
def mj{n:Nat}(h:n≠m):jE (S.set n<|.lst ys) m=jE S m:=by unfold jE;rw[bO h]
def sH{xs:ae}{i:Int}{k:Nat}{x:A}(h:i=k)(hx:xs[k]?=some x):qZ xs i=some x:=by rw[h];exact UI hx
def xU{n:Nat}{i:Int}{k:Nat}(h:i=k)(hk:k<n):Ec n i=some k:=by
 subst h;unfold Ec;rw[aS (),aS ()];simp
end
structure Kp (b:Nat->Prop)(S S':jF):Prop where
 len:S.length<=S'.length
 obj:∀(n:Nat) (o:O),¬b n->S[n]?=some o->S'[n]?=some o
meta abbrev kK:=Kp λ_=>False
def Kp.lst{b:Nat->Prop}(h:Kp b S S')(n:Nat)(xs:ae)(hb:¬b n)(e:jE S n=some xs):jE S' n=some xs:=sV<|h.obj n _ hb<|jS e
def Kp.dct{b:Nat->Prop}(h:Kp b S S')(n:Nat)(xs:List<|ag×A)(hb:¬b n)(e:ku S n=some xs):ku S' n=some xs:=xg<|h.obj n _ hb<|nJ e
def Kp.refl{b:Nat->Prop}:Kp b S S:=⟨aL _,λ_ _ _ h=>h⟩
def Kp.trans{b:Nat->Prop}(h:Kp b S S1)(h':Kp b S1 S2):Kp b S S2:=⟨bF h.len h'.len,λn xs c e=>h'.obj n xs c<|h.obj n xs c e⟩
def CN{S:jF}{n:Nat}(e:S[n]?=some o):n<S.length:=(aI.mp e).1
def Kp.lay{b:Nat->Prop}{o:O}(h:Kp b S S1):Kp b S (S1++[o]):=⟨bF h.len<|by simp,λn xs c e=>by
 have:=h.obj n xs c e;rw[bB<|CN this];exact this⟩
def Kp.ye{b:Nat->Prop}{S S1:jF}(h:Kp b S S1)(hm:b m\/S.length<=m):Kp b S (S1.set m o):=⟨by rw[cu];exact h.len,λn xs c e=>by
 have:m≠n:=λz=>by
  subst z
  rcases hm with z|z
  ·exact c z
  ·exact absurd (CN e) ()
 rw[bO this];exact h.obj n xs c e⟩
def Kp.set{b:Nat->Prop}{S S1:jF}(h:Kp b S S1)(hm:b m\/S.length<=m):Kp b S (S1.set m<|.lst ys):=h.ye hm
def Kp.mono{b c:Nat->Prop}{S:jF}(h:Kp b S S1)(hb:∀n,n<S.length->b n->c n):Kp c S S1:=⟨h.len,λn xs hc e=>h.obj n xs (λz=>hc<|hb n (CN e) z) e⟩
def Kp.of0{b:Nat->Prop}(h:kK S S1):Kp b S S1:=h.mono λ_ _ z=>z.elim
def Kp.old{b c:Nat->Prop}{S:jF}(h:Kp b S S1)(h':Kp c S1 S2)(hc:∀n,n<S.length->¬b n->¬c n):Kp b S S2:=⟨bF h.len h'.len,λn xs d e=>h'.obj n xs (hc n (CN e) d)<|h.obj n xs d e⟩
theorem xh{t:Te}{c:Sm}(Inv:ae->jF->Prop)(μ:ae->jF->Nat)(Post:RS->Prop)
  (h:∀τ S,Inv τ S->(∃S1,t τ S=.ok false S1/\Post (.nx τ S1))\/(∃S1,t τ S=.ok true S1/\((∃τ' S',c τ S1=.nx τ' S'/\Inv τ' S'/\μ τ' S'<μ τ S)\/(∃a S',c τ S1=.rt a S'/\Post (.rt a S'))))) :
  ∀n τ S,Inv τ S->μ τ S<n->Post (lH t c n τ S)
 | 0,_,_,_,hn=>absurd hn (eo _)
 | n+1,τ,S,f,hn=>by
  unfold lH
  rcases h τ S f with⟨S1,e,q⟩|⟨S1,e,⟨τ',S',e2,d,g⟩|⟨a,S',e2,q⟩⟩
  ·rw[e];exact q
  ·rw[e];show Post (match c τ S1 with
    | .nx τ' S'=>lH t c n τ' S'
    | .ct τ' S'=>lH t c n τ' S'
    | .bk τ' S'=>.nx τ' S'
    | r=>r)
   rw[e2];exact xh Inv μ Post h n τ' S' d ()
  ·rw[e];show Post (match c τ S1 with
    | .nx τ' S'=>lH t c n τ' S'
    | .ct τ' S'=>lH t c n τ' S'
    | .bk τ' S'=>.nx τ' S'
    | r=>r)
   rw[e2];exact q
theorem zW{s:Src}{g:Tg}{c:Sm}(Inv:Nat->ae->jF->Prop)(Post:RS->Prop)
  (step:∀i τ S,i<s.k->Inv i τ S->∃x τ1 S1,s.get i S=some x/\g x τ S=.ok τ1 S1/\((∃τ' S',c τ1 S1=.nx τ' S'/\Inv (i+1) τ' S')\/(∃a S',c τ1 S1=.rt a S'/\Post (.rt a S'))))
  (fin:∀τ S,Inv s.k τ S->s.fin S=true/\Post (.nx τ S)):∀k i τ S,k+i=s.k->Inv i τ S->Post (rG s g c k i τ S)
 | 0,i,τ,S,hk,hi=>by
  have:i=s.k:=()
  subst this;obtain⟨hf,q⟩:=fin τ S hi;unfold rG;rw[aS hf];exact q
 | k+1,i,τ,S,hk,hi=>by
  obtain⟨x,τ1,S1,f,hg,h⟩:=step i τ S () hi;unfold rG;rw[f];show Post (RS.of (g x τ S) λτ1 S1=>match c τ1 S1 with
   | .nx τ' S'=>rG s g c k (i+1) τ' S'
   | .ct τ' S'=>rG s g c k (i+1) τ' S'
   | .bk τ' S'=>.nx τ' S'
   | r=>r)
  rw[hg];show Post (match c τ1 S1 with
   | .nx τ' S'=>rG s g c k (i+1) τ' S'
   | .ct τ' S'=>rG s g c k (i+1) τ' S'
   | .bk τ' S'=>.nx τ' S'
   | r=>r)
  rcases h with⟨τ',S',e,d⟩|⟨a,S',e,q⟩
  ·rw[e];exact zW Inv Post step fin k (i+1) τ' S' () d
  ·rw[e];exact q
def Ie{lo hi:Int}{c:Sm}{src:Ic}{τ:ae}(hs:src τ S=.ok (qj lo hi) S1)(Inv:Nat->ae->jF->Prop)(Post:RS->Prop)(h0:Inv 0 τ S1)
  (step:∀(i:Nat) τ S,(i:Int)<hi-lo->Inv i τ S->(∃τ' S',c (τ.set j<|.int<|lo+i) S=.nx τ' S'/\Inv (i+1) τ' S')\/(∃a S',c (τ.set j<|.int<|lo+i) S=.rt a S'/\Post (.rt a S')))
  (fin:∀τ S,Inv (hi-lo).toNat τ S->Post (.nx τ S)):Post (m_ src (j4 j) c τ S):=by
 unfold m_;rw[hs];refine zW (s:=qj lo hi) Inv Post (λi τ S d h=>?_) (λτ S h=>⟨rfl,fin τ S h⟩) _ 0 τ S1 rfl h0;have d:i<(hi-lo).toNat:=d;exact⟨.int<|lo+i,_,S,aS d,rfl,step i τ S (by omega) h⟩
def YQ{xs:ae}{g:Tg}{c:Sm}{src:Ic}(hs:src τ S=.ok (Eo xs) S1)(Inv:Nat->ae->jF->Prop)(Post:RS->Prop)(h0:Inv 0 τ S1)
  (step:∀(i:Nat) x τ S,xs[i]?=some x->Inv i τ S->∃τ1 S1,g (.tup [.int i,x]) τ S=.ok τ1 S1/\((∃τ' S',c τ1 S1=.nx τ' S'/\Inv (i+1) τ' S')\/(∃a S',c τ1 S1=.rt a S'/\Post (.rt a S'))))
  (fin:∀τ S,Inv xs.length τ S->Post (.nx τ S)):Post (m_ src g c τ S):=by
 unfold m_;rw[hs];refine zW (s:=Eo xs) Inv Post (λi τ S d h=>?_) (λτ S h=>⟨rfl,fin τ S h⟩) _ 0 τ S1 rfl h0;have d:i<xs.length:=d;obtain⟨τ1,S1,e,q⟩:=step i xs[i] τ S (aF d) h;exact⟨.tup [.int i,xs[i]],τ1,S1,by show(xs[i]?).map _=_;rw[aF d];rfl,e,q⟩
def rC{n:Nat}{xs:ae}{g:Tg}{c:Sm}{src:Ic}(hs:src τ S=.ok (kB n xs.length) S1)(Inv:Nat->ae->jF->Prop)(Post:RS->Prop)(h0:Inv 0 τ S1)(hl:∀i τ S,Inv i τ S->jE S n=some xs)
  (step:∀(i:Nat) x τ S,xs[i]?=some x->Inv i τ S->∃τ1 S1,g x τ S=.ok τ1 S1/\((∃τ' S',c τ1 S1=.nx τ' S'/\Inv (i+1) τ' S')\/(∃a S',c τ1 S1=.rt a S'/\Post (.rt a S'))))
  (fin:∀τ S,Inv xs.length τ S->Post (.nx τ S)):Post (m_ src g c τ S):=by
 unfold m_;rw[hs];refine zW (s:=kB n xs.length) Inv Post (λi τ S d h=>?_) (λτ S h=>⟨?_,fin τ S h⟩) _ 0 τ S1 rfl h0
 ·have d:i<xs.length:=d;obtain⟨τ1,S1,e,q⟩:=step i xs[i] τ S (aF d) h;exact⟨xs[i],τ1,S1,by show(jE S n).bind _=_;rw[hl i τ S h];exact aF d,e,q⟩
 ·show(match jE S n with
   | some ys=>decide (ys.length<=xs.length)
   | none=>false)=true
  rw[hl _ τ S h];exact aY<|aL _
@[simp]def wQ {c:Ex}{τ:ae}{S S1:jF}{j:Int}(h:c τ S=.ok (.int j) S1)(hb:bnd j):qk c τ S=.ok (qj 0 j) S1:=by
 unfold qk;rw[h];exact oM hb
def AX{c d:Ex}{i j:Int}(h:c τ S=.ok (.int i) S1)(h':d τ S1=.ok (.int j) S2)(hb:bnd i)(hb':bnd j):uc c d τ S=.ok (qj i j) S2:=by
 unfold uc;rw[h];show(d τ S1).bind _=_;rw[h'];exact oM ⟨hb,hb'⟩
def kR{c:Ex}{n:Nat}{xs:ae}(h:c τ S=.ok (.ref n) S1)(hl:jE S1 n=some xs):kD c τ S=.ok (kB n xs.length) S1:=by
 unfold kD;rw[h];show opt (jE S1 n) _=_;rw[hl];rfl
def YG{c:Ex}(h:c τ S=.ok (.tup xs) S1):Ro c τ S=.ok (Eo xs) S1:=by unfold Ro;rw[h];rfl
theorem wV{s:Src}{g:Tg}{t:Te}{e:Ex}{P:jF->Prop}{T:ae->Prop}(it:Nat->A)(p:Nat->Bool)(f:Nat->A)
  (hget:∀i S,i<s.k->P S->s.get i S=some (it i)) (hfin:∀S,P S->s.fin S=true)
  (step:∀i τ S,i<s.k->T τ->P S->∃τ1 S1 S2,g (it i) τ S=.ok τ1 S1/\t τ1 S1=.ok (p i) S2/\T τ1/\(p i=false->P S2)/\(p i=true->∃S3,e τ1 S2=.ok (f i) S3/\P S3)) :
  ∀k i τ S,k+i=s.k->T τ->P S->∃S',n8 s g t e k i τ S=.ok (((List.range' i k).filter p).map f) S'/\P S'
 | 0,i,τ,S,hk,hT,hP=>⟨S,by unfold n8;rw[aS<|hfin S hP];rfl,hP⟩
 | k+1,i,τ,S,hk,hT,hP=>by
  obtain⟨τ1,S1,S2,hg,m,c,B,j⟩:=step i τ S (by omega) hT hP;unfold n8;rw[hget i S (by omega) hP,j7,hg,R.lJ,m,R.lJ,List.range'_succ,jb]
  cases hp:p i with
  | false=>
   obtain⟨S',h1,h2⟩:=wV it p f hget hfin step k (i+1) τ1 S2 (by omega) c<|B hp;exact⟨S',by simpa using h1,h2⟩
  | true=>
   obtain⟨S3,q,d⟩:=j hp;obtain⟨S',h1,h2⟩:=wV it p f hget hfin step k (i+1) τ1 S3 (by omega) c d;refine⟨S',?_,h2⟩
   skip
   rw[q,R.lJ,h1];rfl
def BQ{s:Src}{src:Ic}{t:Te}{e:Ex}{S1:jF}(hs:src τ S=.ok s S1)(it:Nat->A)(p:Nat->Bool)(f:Nat->A)(hget:∀i,i<s.k->s.get i S1=some (it i))(hfin:s.fin S1=true)
  (ht:∀i,i<s.k->t (it i::lN cap τ) S1=.ok (p i) S1) (he:∀i,i<s.k->p i=true->e (it i::lN cap τ) S1=.ok (f i) S1) (hl:s.k<=16777216) :
  jZ (none::cap) src (j4 0) t e τ S=.ok (.ref S1.length) (S1++[.lst<|((List.range s.k).filter p).map f]):=by
 unfold jZ;rw[hs,R.qq];obtain⟨m,h1,h2⟩:=wV (s:=s) (g:=j4 0) (t:=t) (e:=e) (P:=λS=>S=S1) (T:=λc=>∃y,c=y::lN cap τ) it p f (λi S d h=>by subst h;exact hget i d) (λS h=>by subst h;exact hfin)
  (λi c S d ⟨y,j⟩ h=>by
   subst h j;exact⟨it i::lN cap τ,S,S,rfl,ht i d,⟨_,rfl⟩,λ_=>rfl,λhp=>⟨S,he i d hp,rfl⟩⟩) s.k 0 (lN (none::cap) τ) S1 rfl ⟨_,rfl⟩ rfl
 subst h2;rw[h1,R.lJ,fM];refine mF ?_;rw[aG];refine bF (dm _ _) ?_;rw[List.length_range'];exact hl
def pB{α β:Type}(xs:List α)(p:α->Bool)(f:α->β):∀(d:α) ,(((List.range xs.length).filter λi=>p<|xs.getD i d).map λi=>f<|xs.getD i d)=(xs.filter p).map f:=by
 intro d
 induction xs with
 | nil=>rfl
 | cons x xs c=>
  rw[bC,List.range_succ_eq_map,jb,jb];have e:((List.filter (λi=>p<|(x::xs).getD i d)<|List.map Nat.succ<|List.range xs.length).map λi=>f<|(x::xs).getD i d)=(xs.filter p).map f:=by
   rw[iL,bD];rw[<- c];rfl
  show List.map _ (if p x=true then _ else _)=List.map f (if p x=true then _ else _);by_cases hp:p x=true
  ·rw[aS hp,aS hp,bh,bh,e];rfl
  ·rw[aQ hp,aQ hp,e]
def zL{lo hi:Int}{src:Ic}{t:Te}{e:Ex}{S1:jF}(hs:src τ S=.ok (qj lo hi) S1)(p:Int->Bool)(f:Int->A)
  (ht:∀k,lo<=k->k<hi->t (.int k::lN cap τ) S1=.ok (p k) S1) (he:∀k,lo<=k->k<hi->p k=true->e (.int k::lN cap τ) S1=.ok (f k) S1) (hl:(hi-lo).toNat<=16777216) :
  jZ (none::cap) src (j4 0) t e τ S=.ok (.ref S1.length) (S1++[.lst<|((nN lo hi).filter p).map f]):=by
 rw[BQ hs (λi=>.int<|lo+i) (λi=>p<|lo+i) (λi=>f<|lo+i) (λi c=>aS c) rfl (λi c=>ht _ () (by have:i<(hi-lo).toNat:=c;lia)) (λi c=>he _ () (by have:i<(hi-lo).toNat:=c;lia)) hl];unfold nN;rw[iL,bD];rfl
@[simp]def Qz {cap:List<|bj}{τ:ae}:lN (none::cap) τ=.unb::lN cap τ:=rfl
@[simp]def Pd {cap:List<|bj}{τ:ae}{j:Nat}:lN (some j::cap) τ=τ.getD j .unb::lN cap τ:=rfl
@[simp]def EG {τ:ae}:lN [] τ=[]:=rfl
theorem sP{x:A}:qZ (x::xs) 0=some x:=sH (k:=0) rfl rfl
def yE{x:A}:qZ (x::y::xs) 1=some y:=sH (k:=1) rfl rfl
def Cv{ns:ag}{i:Int}{k:Nat}{x:Int}(h:i=k)(hx:ns[k]?=some x):qZ (ns.map A.int) i=some (.int x):=sH h<|by rw[aV,hx];rfl
def sj{j:Int}(h:-4611686018427387904<=j)(h':j<4611686018427387904):bnd j:=⟨(),()⟩
def Of{i j:Int}(h1:-1000000<=i)(h2:i<=1000000)(h3:-1000000<=j)(h4:j<=1000000)(h5:j-i<=1000):BF i j:=⟨⟨(),(),(),()⟩,()⟩
theorem ints_map:∀(ns:ag),A.ints (ns.map .int)=some ns
 | []=>rfl
 | n::ns=>by show(A.ints<|ns.map .int).map (n::·)=_;rw[ints_map ns];rfl
theorem qH{n:Nat}:∀(xs ys:ag),pR (oX S<|n+1) (xs.map .int) (ys.map .int)=some (decide<|xs=ys)
 | [],[]=>rfl
 | [],_::_=>rfl
 | _::_,[]=>rfl
 | x::xs,y::ys=>by
  skip
  skip
  show Option.map _ (pR (oX S<|n+1) (xs.map .int)<|ys.map .int)=_;rw[qH xs ys]
  skip
  by_cases h1:x=y<;>by_cases h2:xs=ys<;>simp[h1,h2]
@[simp]def VE {S:jF}{x y:Bool}:sd false (.bl x) (.bl y) S=.ok (.bl<|x == y) S:=rfl
@[simp]def Vv {S:jF}{x y:Bool}:sd true (.bl x) (.bl y) S=.ok (.bl<|!(x == y)) S:=rfl
@[simp]def Va {S:jF}{x y:Int}:sd false (.int x) (.int y) S=.ok (.bl<|x == y) S:=rfl
@[simp]def VG {S:jF}{x y:Int}:sd true (.int x) (.int y) S=.ok (.bl<|!(x == y)) S:=rfl
@[simp]def Jm {S:jF}:Ho false .non .non S=.ok (.bl true) S:=rfl
@[simp]def IX {S:jF}{xs:ae}:Ho false (.tup xs) .non S=.ok (.bl false) S:=rfl
@[simp]def Ke {S:jF}{n:Nat}:Ho false (.ref n) .non S=.ok (.bl false) S:=rfl
@[simp]def Ft {S:jF}:Ho true .non .non S=.ok (.bl false) S:=rfl
@[simp]def Ff {S:jF}{xs:ae}:Ho true (.tup xs) .non S=.ok (.bl true) S:=rfl
@[simp]def FE {S:jF}{n:Nat}:Ho true (.ref n) .non S=.ok (.bl true) S:=rfl
@[simp]def HF {S:jF}{x:A}{c:String}:yO x (.ty c) S=opt (x.kd S) λk=>opt (KZ k c) λb=>.ok (.bl b) S:=rfl
@[simp]def VJ {S:jF}{b:Bool}:A.kd (.bl b) S=some .bl:=rfl
@[simp]def Mm {S:jF}{b:Int}:A.kd (.int b) S=some .int:=rfl
@[simp]def Nb {S:jF}{b:ae}:A.kd (.tup b) S=some .tup:=rfl
@[simp]def N2 {S:jF}:A.kd .non S=some .non:=rfl
@[simp]def Pg {S:jF}{b:Str}:A.kd (.str b) S=some .str:=rfl
@[simp]def MZ {S:jF}{n:Nat}:A.kd (.ref n) S=(jE S n).map λ_=>.lst:=rfl
@[simp]def Ml {S:jF}:newL [] S=.ok (.ref S.length) (S++[.lst []]):=mF<|by simp
@[simp]def Mp {S:jF}{x0:A}:newL [x0] S=.ok (.ref S.length) (S++[.lst [x0]]):=mF<|by simp
@[simp]def QZ {S:jF}{x0 x1:A}:newL [x0,x1] S=.ok (.ref S.length) (S++[.lst [x0,x1]]):=mF<|by simp
@[simp]def Nm {S:jF}{x0 x1 x2:A}:newL [x0,x1,x2] S=.ok (.ref S.length) (S++[.lst [x0,x1,x2]]):=mF<|by simp
@[simp]def QJ {S:jF}{x0 x1 x2 x3:A}:newL [x0,x1,x2,x3] S=.ok (.ref S.length) (S++[.lst [x0,x1,x2,x3]]):=mF<|by simp
@[simp]def Qy {S:jF}{x0 x1 x2 x3 x4:A}:newL [x0,x1,x2,x3,x4] S=.ok (.ref S.length) (S++[.lst [x0,x1,x2,x3,x4]]):=mF<|by simp
@[simp]def Mq {S:jF}{x0 x1 x2 x3 x4 x5:A}:newL [x0,x1,x2,x3,x4,x5] S=.ok (.ref S.length) (S++[.lst [x0,x1,x2,x3,x4,x5]]):=mF<|by simp
@[simp]def Q8 {S:jF}{x0 x1 x2 x3 x4 x5 x6:A}:newL [x0,x1,x2,x3,x4,x5,x6] S=.ok (.ref S.length) (S++[.lst [x0,x1,x2,x3,x4,x5,x6]]):=mF<|by simp
@[simp]def OS {S:jF}{x0 x1 x2 x3 x4 x5 x6 x7:A}:newL [x0,x1,x2,x3,x4,x5,x6,x7] S=.ok (.ref S.length) (S++[.lst [x0,x1,x2,x3,x4,x5,x6,x7]]):=mF<|by simp
@[simp]def QB {S:jF}{x0 x1 x2 x3 x4 x5 x6 x7 x8:A}:newL [x0,x1,x2,x3,x4,x5,x6,x7,x8] S=.ok (.ref S.length) (S++[.lst [x0,x1,x2,x3,x4,x5,x6,x7,x8]]):=mF<|by simp
@[simp]def JM {S:jF}{x0 x1 x2 x3 x4 x5 x6 x7 x8 x9:A}:newL [x0,x1,x2,x3,x4,x5,x6,x7,x8,x9] S=.ok (.ref S.length) (S++[.lst [x0,x1,x2,x3,x4,x5,x6,x7,x8,x9]]):=mF<|by simp
theorem nF{α:Type}{n:Nat}{r:R α}(h:n<=16777216):gd (n<=sizeLine) r=r:=oM<|by rw[er];exact h
def qm{α:Type}{n:Nat}{r:R α}(h:n<16777216):gd (n<sizeLine) r=r:=oM<|by rw[er];exact h
def Vs {x:A}{xs:ae}:(x::xs).getD 0 .unb=x:=rfl
def UT {x:A}{xs:ae}{n:Nat}:(x::xs).getD (n+1) .unb=xs.getD n .unb:=rfl
def aag {x y:A}{xs:ae}:(x::xs).set 0 y=y::xs:=rfl
def sets {x y:A}{xs:ae}{n:Nat}:(x::xs).set (n+1) y=x::xs.set n y:=rfl
def rep0 {x:A}:List.replicate 0 x=[]:=rfl
def reps {x:A}{n:Nat}:List.replicate (n+1) x=x::List.replicate n x:=rfl
def Zt {x:A}{xs ys:ae}:(x::xs)++ys=x::(xs++ys):=rfl
def ZF {ys:ae}:[]++ys=ys:=rfl
def Vr{S:jF}{n:Nat}{xs ys:ae}(h:jE S n=some xs)(h':jE S m=some ys)(hl:xs.length+ys.length<=16777216):nE (.ref n) (.ref m) S=.ok (.ref S.length) (S++[.lst<|xs++ys]):=by
 show opt (jE S n) _=_;rw[h,j7,h',j7];exact oM<|by rw[er];exact hl
abbrev uV (x:A)(S:jF):R A:=bif x.o8 then .no else .ok x S
def QX {xs:ae}{S:jF}:uV (.tup xs) S=.ok (.tup xs) S:=rfl
def MU {xs:ae}{S:jF}:uV (.frz xs) S=.ok (.frz xs) S:=rfl
def Pk {i:Int}{S:jF}:uV (.int i) S=.ok (.int i) S:=rfl
def Vg {b:Bool}{S:jF}:uV (.bl b) S=.ok (.bl b) S:=rfl
def ML {s:Str}{S:jF}:uV (.str s) S=.ok (.str s) S:=rfl
def Oc {n:Nat}{S:jF}:uV (.ref n) S=.ok (.ref n) S:=rfl
def MK  {S:jF}:uV (.non) S=.ok (.non) S:=rfl
def O1 {i j:Int}{S:jF}:uV (.rng i j) S=.ok (.rng i j) S:=rfl
def Ms {s:Str}{S:jF}:uV (.exn s) S=.ok (.exn s) S:=rfl
def eV0 {x0:A}{xs:ae}{S:jF}:jB 0 (x0::xs) S=uV x0 S:=qy
def eV1 {x0 x1:A}{xs:ae}{S:jF}:jB 1 (x0::x1::xs) S=uV x1 S:=qy
def eV2 {x0 x1 x2:A}{xs:ae}{S:jF}:jB 2 (x0::x1::x2::xs) S=uV x2 S:=qy
def eV3 {x0 x1 x2 x3:A}{xs:ae}{S:jF}:jB 3 (x0::x1::x2::x3::xs) S=uV x3 S:=qy
def eV4 {x0 x1 x2 x3 x4:A}{xs:ae}{S:jF}:jB 4 (x0::x1::x2::x3::x4::xs) S=uV x4 S:=qy
def eV5 {x0 x1 x2 x3 x4 x5:A}{xs:ae}{S:jF}:jB 5 (x0::x1::x2::x3::x4::x5::xs) S=uV x5 S:=qy
def eV6 {x0 x1 x2 x3 x4 x5 x6:A}{xs:ae}{S:jF}:jB 6 (x0::x1::x2::x3::x4::x5::x6::xs) S=uV x6 S:=qy
def eV7 {x0 x1 x2 x3 x4 x5 x6 x7:A}{xs:ae}{S:jF}:jB 7 (x0::x1::x2::x3::x4::x5::x6::x7::xs) S=uV x7 S:=qy
def eV8 {x0 x1 x2 x3 x4 x5 x6 x7 x8:A}{xs:ae}{S:jF}:jB 8 (x0::x1::x2::x3::x4::x5::x6::x7::x8::xs) S=uV x8 S:=qy
def gN0 {a x0:A}{xs:ae}{S:jF}:j4 0 a (x0::xs) S=.ok (a::xs) S:=rfl
def gN1 {a x0 x1:A}{xs:ae}{S:jF}:j4 1 a (x0::x1::xs) S=.ok (x0::a::xs) S:=rfl
def gN2 {a x0 x1 x2:A}{xs:ae}{S:jF}:j4 2 a (x0::x1::x2::xs) S=.ok (x0::x1::a::xs) S:=rfl
def gN3 {a x0 x1 x2 x3:A}{xs:ae}{S:jF}:j4 3 a (x0::x1::x2::x3::xs) S=.ok (x0::x1::x2::a::xs) S:=rfl
def gN4 {a x0 x1 x2 x3 x4:A}{xs:ae}{S:jF}:j4 4 a (x0::x1::x2::x3::x4::xs) S=.ok (x0::x1::x2::x3::a::xs) S:=rfl
def gN5 {a x0 x1 x2 x3 x4 x5:A}{xs:ae}{S:jF}:j4 5 a (x0::x1::x2::x3::x4::x5::xs) S=.ok (x0::x1::x2::x3::x4::a::xs) S:=rfl
def gN6 {a x0 x1 x2 x3 x4 x5 x6:A}{xs:ae}{S:jF}:j4 6 a (x0::x1::x2::x3::x4::x5::x6::xs) S=.ok (x0::x1::x2::x3::x4::x5::a::xs) S:=rfl
def gN7 {a x0 x1 x2 x3 x4 x5 x6 x7:A}{xs:ae}{S:jF}:j4 7 a (x0::x1::x2::x3::x4::x5::x6::x7::xs) S=.ok (x0::x1::x2::x3::x4::x5::x6::a::xs) S:=rfl
def gN8 {a x0 x1 x2 x3 x4 x5 x6 x7 x8:A}{xs:ae}{S:jF}:j4 8 a (x0::x1::x2::x3::x4::x5::x6::x7::x8::xs) S=.ok (x0::x1::x2::x3::x4::x5::x6::x7::a::xs) S:=rfl
def j8:type_of% (anI @R.qq<|anI @R.Kf<|anI @R.lJ<|anI @RS.of_ok<|anI @RS.UU<|anI @j7<|anI @Jo<|anI @eV0<|anI @eV1<|anI @eV2<|anI @eV3<|anI @eV4<|anI @eV5<|anI @eV6<|anI @eV7<|anI @eV8<|anI @QX<|anI @MU<|anI @Pk<|anI @Vg<|anI @ML<|anI @Oc<|anI @MK<|anI @O1<|anI @Ms<|anI @Ku<|anI @Jj<|anI @J9<|anI @OX<|anI @Kv<|anI @Iq<|anI @Ji<|anI @Ju<|anI @HC<|anI @UY<|anI @Kq<|anI @OG<|anI @Jk<|anI @VS<|anI @P4<|anI @Ik<|anI @HS<|anI @MV<|anI @JN<|anI @IP<|anI @Jl<|anI @M8<|anI @MH<|anI @HK<|anI @Qh<|anI @Ei<|anI @Kw<|anI @PX<|anI @HN<|anI @ET<|anI @JH<|anI @Kx<|anI @F1<|anI @Qu<|anI @P9<|anI @VF<|anI @VW<|anI @PZ<|anI @Et<|anI @JJ<|anI @Eg<|anI @Ot<|anI @IF<|anI @lst?_ref<|anI @RS.My<|anI @RS.Oj<|anI @RS.QI<|anI @RS.Qa<|anI @RS.QO<|anI @Il<|anI @Ja<|anI @Cs<|anI @E7<|anI @FA<|anI @HZ<|anI @Fd<|anI @Ow<|anI @JX<|anI @gN0<|anI @gN1<|anI @gN2<|anI @gN3<|anI @gN4<|anI @gN5<|anI @gN6<|anI @gN7<|anI @gN8<|anI @Mw<|anI @ON<|anI @P_<|anI @Mv<|anI @PO<|anI @Jv<|anI @IM<|anI @FW<|anI @RS.Od<|anI @RS.Ol<|anI @RS.OD<|anI @OY<|anI @Nr<|anI @QE<|anI @U0<|anI @U_<|anI @Vp<|anI @UO<|anI @U6<|anI @Q7<|anI @Ou<|anI @MR<|anI @OI<|anI @Rb<|anI @MN<|anI @HU<|anI @HJ<|anI @J7<|anI @II<|anI @Ca<|anI @VM<|anI @Vf<|anI @VD<|anI @N4<|anI @O6<|anI @Ij<|anI @HH<|anI @H_<|anI @Fj<|anI @F7<|anI @QT<|anI @O2<|anI @Vj<|anI @zY<|anI @P7<|anI @J2<|anI @jR<|anI @Qz<|anI @Pd<|anI @EG<|anI @VE<|anI @Vv<|anI @Va<|anI @VG<|anI @Jm<|anI @IX<|anI @Ke<|anI @Ft<|anI @Ff<|anI @FE<|anI @HF<|anI @VJ<|anI @Mm<|anI @Nb<|anI @N2<|anI @Pg<|anI @MZ<|anI @Ml<|anI @Mp<|anI @QZ<|anI @Nm<|anI @QJ<|anI @Qy<|anI @Mq<|anI @Q8<|anI @OS<|anI @QB<|anI @JM<|anI @Vs<|anI @UT<|anI @aag<|anI @sets<|anI @rep0<|anI @reps<|anI @Zt<|anI @ZF<|anI @w_<|anI @IG<|anI @OM<|anI @M3<|anI @UM<|anI @Vh<|anI @PY<|anI @NH<|anI @BZ<|anI @ED<|anI @Pa<|anI @Kr<|anI @Pp<|anI @IB<|anI @Rc<|anI @VP<|anI @VA<|anI @Ky<|anI @Kh<|anI @NY<|anI @E_<|anI @Jf<|anI @OC<|anI @MC<|anI @M0<|anI @N_<|@Nk):=anI @R.qq<|anI @R.Kf<|anI @R.lJ<|anI @RS.of_ok<|anI @RS.UU<|anI @j7<|anI @Jo<|anI @eV0<|anI @eV1<|anI @eV2<|anI @eV3<|anI @eV4<|anI @eV5<|anI @eV6<|anI @eV7<|anI @eV8<|anI @QX<|anI @MU<|anI @Pk<|anI @Vg<|anI @ML<|anI @Oc<|anI @MK<|anI @O1<|anI @Ms<|anI @Ku<|anI @Jj<|anI @J9<|anI @OX<|anI @Kv<|anI @Iq<|anI @Ji<|anI @Ju<|anI @HC<|anI @UY<|anI @Kq<|anI @OG<|anI @Jk<|anI @VS<|anI @P4<|anI @Ik<|anI @HS<|anI @MV<|anI @JN<|anI @IP<|anI @Jl<|anI @M8<|anI @MH<|anI @HK<|anI @Qh<|anI @Ei<|anI @Kw<|anI @PX<|anI @HN<|anI @ET<|anI @JH<|anI @Kx<|anI @F1<|anI @Qu<|anI @P9<|anI @VF<|anI @VW<|anI @PZ<|anI @Et<|anI @JJ<|anI @Eg<|anI @Ot<|anI @IF<|anI @lst?_ref<|anI @RS.My<|anI @RS.Oj<|anI @RS.QI<|anI @RS.Qa<|anI @RS.QO<|anI @Il<|anI @Ja<|anI @Cs<|anI @E7<|anI @FA<|anI @HZ<|anI @Fd<|anI @Ow<|anI @JX<|anI @gN0<|anI @gN1<|anI @gN2<|anI @gN3<|anI @gN4<|anI @gN5<|anI @gN6<|anI @gN7<|anI @gN8<|anI @Mw<|anI @ON<|anI @P_<|anI @Mv<|anI @PO<|anI @Jv<|anI @IM<|anI @FW<|anI @RS.Od<|anI @RS.Ol<|anI @RS.OD<|anI @OY<|anI @Nr<|anI @QE<|anI @U0<|anI @U_<|anI @Vp<|anI @UO<|anI @U6<|anI @Q7<|anI @Ou<|anI @MR<|anI @OI<|anI @Rb<|anI @MN<|anI @HU<|anI @HJ<|anI @J7<|anI @II<|anI @Ca<|anI @VM<|anI @Vf<|anI @VD<|anI @N4<|anI @O6<|anI @Ij<|anI @HH<|anI @H_<|anI @Fj<|anI @F7<|anI @QT<|anI @O2<|anI @Vj<|anI @zY<|anI @P7<|anI @J2<|anI @jR<|anI @Qz<|anI @Pd<|anI @EG<|anI @VE<|anI @Vv<|anI @Va<|anI @VG<|anI @Jm<|anI @IX<|anI @Ke<|anI @Ft<|anI @Ff<|anI @FE<|anI @HF<|anI @VJ<|anI @Mm<|anI @Nb<|anI @N2<|anI @Pg<|anI @MZ<|anI @Ml<|anI @Mp<|anI @QZ<|anI @Nm<|anI @QJ<|anI @Qy<|anI @Mq<|anI @Q8<|anI @OS<|anI @QB<|anI @JM<|anI @Vs<|anI @UT<|anI @aag<|anI @sets<|anI @rep0<|anI @reps<|anI @Zt<|anI @ZF<|anI @w_<|anI @IG<|anI @OM<|anI @M3<|anI @UM<|anI @Vh<|anI @PY<|anI @NH<|anI @BZ<|anI @ED<|anI @Pa<|anI @Kr<|anI @Pp<|anI @IB<|anI @Rc<|anI @VP<|anI @VA<|anI @Ky<|anI @Kh<|anI @NY<|anI @E_<|anI @Jf<|anI @OC<|anI @MC<|anI @M0<|anI @N_<|@Nk
def bools:(∀b:Bool,cond false b b=b)/\(∀(α:Type) (x y:α),cond false x y=y)/\(∀(α:Type) (x y:α),cond true x y=x):=⟨λ_=>rfl,λ_ _ _=>rfl,λ_ _ _=>rfl⟩
def lX:(∀(x:Str) (xs:ar),(x::xs).length=xs.length+1)/\([]:ar).length=0/\(∀(x:A) (xs:ae),(x::xs).length=xs.length+1)/\([]:ae).length=0:=⟨λ_ _=>rfl,rfl,λ_ _=>rfl,rfl⟩
section
variable {τ:ae}{S:jF}
def JF {f:ae->jF->R A}{d:qC}:pZ f d τ S=(d τ S).bind f:=rfl
abbrev kRz (c:Str):Unit->jF->RS:=λ_ S1=>.ex c S1
def Oe {c:Str}{u:Unit}:kRz c u S=.ex c S:=rfl
def Ci {c:Str}{ps:List<|Str ⊕ Ex}:xZ c ps τ S=RS.of (Rh ps τ S) (kRz c):=rfl
def JW:Rh [] τ S=.ok Unit.unit S:=rfl
def Ir {x:Str}{ps:List<|Str ⊕ Ex}:Rh (.inl x::ps) τ S=Rh ps τ S:=rfl
abbrev kFs (ps:List<|Str ⊕ Ex)(τ:ae):A->jF->R Unit:=λv S1=>match v with
 | .int i=>gd (i.natAbs.log2<64) (Rh ps τ S1)
 | _=>.no
def IQ {e:Ex}{ps:List<|Str ⊕ Ex}:Rh (.inr e::ps) τ S=(e τ S).bind (kFs ps τ):=rfl
abbrev RS.try (i n:Nat)(cs:ar)(d:Sm):RS->RS
 | .ex x S1=>if x∈cs then Uc i (d ((List.replicate n .unb).set i<|.exn x) S1)else .no
 | r=>r
def JO {i n:Nat}{cs:ar}{c d:Sm}:Ep i n cs c d τ S=RS.try i n cs d (c τ S):=by
 unfold Ep RS.try;cases c τ S<;>rfl
def MS {i n:Nat}{cs:ar}{d:Sm}:RS.try i n cs d (.nx τ S)=.nx τ S:=rfl
def OA {i n:Nat}{cs:ar}{d:Sm}{a:A}:RS.try i n cs d (.rt a S)=.rt a S:=rfl
def Ph {i n:Nat}{x:Str}{cs:ar}{d:Sm}:RS.try i n (x::cs) d (.ex x S)=Uc i (d ((List.replicate n .unb).set i<|.exn x) S):=aS<|.head _
def Qm {i:Nat}{a:A}:Uc i (.rt a S)=.rt a S:=rfl
def QU {i:Nat}:Uc i (.nx τ S)=.nx (τ.set i .unb) S:=rfl
abbrev ZY (f:Str->bi):A->jF->R A:=λv S1=>match v with
 | .exn x=>opt (f x) λb=>.ok (.bl b) S1
 | _=>.no
def HP {f:Str->bi}{c:Ex}:yl f c τ S=(c τ S).bind (ZY f):=rfl
def N1 {x:Str}{b:Bool}{tb:List<|Str×Bool}:ZY (Lq ((x,b)::tb)) (.exn x) S=.ok (.bl b) S:=by
 show opt (List.lookup x ((x,b)::tb)) _=_;rw[dO,cG];rfl
abbrev R.Qe {α β:Type}(r:R α)(f:α->jF->R β):R β:=match r with
 | .ok a S=>f a S
 | _=>.no
def F_ {α β:Type}{a:α}{f:α->jF->R β}:R.Qe (.ok a S) f=f a S:=rfl
def Im {f:ae->jF->R A}{d:qC}:aa0 f d τ S=R.Qe (d τ S) f:=by unfold aa0 R.Qe;cases d τ S<;>rfl
abbrev RS.ofK {α:Type}(r:R α)(f:α->jF->RS):RS:=match r with
 | .ok a S=>f a S
 | _=>.no
def OJ {α:Type}{a:α}{f:α->jF->RS}:RS.ofK (.ok a S) f=f a S:=rfl
def Ii {t:Te}{c d:Sm}:aat t c d τ S=RS.ofK (t τ S) (kIf c d τ):=by
 unfold aat RS.ofK
 cases t τ S with
 | ok b S1=>cases b<;>rfl
 | ex _ _=>rfl
 | no=>rfl
abbrev RS.N5 (i:Nat)(cs:ar)(d:Sm)(τ:ae):RS->RS
 | .ex x S1=>if x∈cs then Uc i (d (τ.set i<|.exn x) S1)else .no
 | r=>r
def ES {i:Nat}{cs:ar}{c d:Sm}:UQ i cs c d τ S=RS.N5 i cs d τ (c τ S):=by
 unfold UQ RS.N5;cases c τ S<;>rfl
def JI {i:Nat}{cs:ar}{d:Sm}{τ':ae}:RS.N5 i cs d τ (.nx τ' S)=.nx τ' S:=rfl
def JY {i:Nat}{cs:ar}{d:Sm}{a:A}:RS.N5 i cs d τ (.rt a S)=.rt a S:=rfl
def Ib {i:Nat}{x:Str}{cs:ar}{d:Sm}:RS.N5 i (x::cs) d τ (.ex x S)=Uc i (d (τ.set i<|.exn x) S):=aS<|.head _
def Fl:A.Mj []=some []:=rfl
def B3 {b:Bool}{xs:ae}:A.Mj (.bl b::xs)=(A.Mj xs).map (b::·):=rfl
end
def lY:type_of% (anI @JF<|anI @Ci<|anI @Oe<|anI @JW<|anI @Ir<|anI @IQ<|anI @JO<|anI @MS<|anI @OA<|anI @Ph<|anI @Qm<|anI @QU<|anI @HP<|anI @N1<|anI @Fl<|anI @B3<|anI @F_<|anI @Im<|anI @OJ<|anI @Ii<|anI @ES<|anI @JI<|anI @JY<|anI @Ib<|trivial):=anI @JF<|anI @Ci<|anI @Oe<|anI @JW<|anI @Ir<|anI @IQ<|anI @JO<|anI @MS<|anI @OA<|anI @Ph<|anI @Qm<|anI @QU<|anI @HP<|anI @N1<|anI @Fl<|anI @B3<|anI @F_<|anI @Im<|anI @OJ<|anI @Ii<|anI @ES<|anI @JI<|anI @JY<|anI @Ib<|trivial
end Am
namespace Am
open PySem PySem.Spec PyProof.Rows L2
abbrev Df (K:au)(x:Str)(st:aE):Prop:=∃(f:ak) (fd:FuncData),PySem.W.nsIn K mainGlobals x=some (some<|.ref f)/\Fun K x x st f fd
inductive En (P:aj) (w:ah) (K:au) (mg:Str->bd) (base:aq):Prop
 | mk (h:aq) (X:K.In h) (G:h.Ns mainGlobals mg)
section
variable {P:aj}{w:ah}{K:au}{mg:Str->bd}{base:aq}{x:Str}{st:aE}{ps:ar}{k:Nat}{F:ae->jF->R A}
def En.at(E:En P w K mg base){f:ak}(h:PySem.W.nsIn K mainGlobals x=some (some<|.ref f)):mg x=some (.ref f):=by
 obtain⟨_,X,G⟩:=E;exact cV X G h
def Df.of{f:ak}{kV pm ct:af}(a:PySem.W.nsIn K mainGlobals x=some (some<|.ref f))(l:K.lookup f=some ⟨oc,od,.func<|PySem.W.fnOf x x (vh st) (nR st) (jN st) .none kV doc pm an cdv ct,osl⟩)(c:PySem.W.codeIn K cdv x=true)(k:PySem.W.keepIn K (.ref f)=true):Df K x st:=⟨f,_,a,Yt l c k⟩
meta abbrev Bi (x:Str)(st:aE)(ps:ar):Prop:=∀us:ba,us.length=ps.length->∀(kV c f:af) (e:Option ak) (d ct:af),bindArgs (PySem.W.fnOf x x (vh st) (nR st) (jN st) .none kV c f e d ct) ⟨us,[]⟩=pure (ps.zip us)
def Df.get(d:Df K x st)(E:En P w K mg base)(b:Bi x st ps):∃f fd,Fun K x x st f fd/\mg x=some (.ref f)/\PySem.W.keepIn K (.ref f)=true/\Binds K fd ps []:=by
 obtain⟨f,fd,a,F⟩:=d;exact⟨f,fd,F,E.at a,F.kp,F.binds λkV c k j e ct us g=>b us g kV c k j e ct⟩
def Df.kA(d:Df K x st)(E:En P w K mg base)(h:∀{f fd},Fun K x x st f fd->FnOk P w K mg base rQ k f fd ps (sO K ps.length F))(b:Bi x st ps):qo P w K mg base k x ps F:=by
 obtain⟨f,fd,a,c,e,g⟩:=d.get E b;exact⟨f,fd,h a,c,e,g⟩
def Df.kX(d:Df K x st)(E:En P w K mg base)(h:∀{f fd},Fun K x x st f fd->FnOk P w K mg base (zc P w) k f fd ps (Gh K ps.length F))(b:Bi x st ps):AN P w K mg base k x ps F:=by
 obtain⟨f,fd,a,c,e,g⟩:=d.get E b;exact⟨f,fd,h a,c,e,g⟩
def Df.rX(d:Df K x st)(E:En P w K mg base)(h:∀{f fd},Fun K x x st f fd->mg x=some (.ref f)->PySem.W.keepIn K (.ref f)=true->Binds K fd ps []->FnOk P w K mg base (zc P w) k f fd ps (Gh K ps.length F))(b:Bi x st ps):AN P w K mg base k x ps F:=by
 obtain⟨f,fd,a,c,e,g⟩:=d.get E b;exact⟨f,fd,h a c e g,c,e,g⟩
def Df.kH(d:Df K x st)(E:En P w K mg base)(h:∀{f fd},Fun K x x st f fd->FnOkH P w K mg base k f fd ps (sO K ps.length F))(b:Bi x st ps):W5 P w K mg base k x ps F:=by
 obtain⟨f,fd,a,c,e,g⟩:=d.get E b;exact⟨f,fd,h a,c,e,g⟩
end
section
variable {X:Cx}{pos p:Pos}{e1 e2 e3 e4:aC}{x p1 p2 p3 p4:Str}{k K0:Nat}{F:ae->jF->R A}{c1 c2 c3 c4:Ex}
def x_(G:qo X.prog X.w X.K X.mg X.base k x [p1] F)(hr:Room K0 X.A)(h1:AE X e1 c1)(hk:k<=K0<|>δ)(hg:Gl X x<|>ε)(hdb:(x == ("__debug__" : Str))=false<|>δ)(s1:starEach [e1] X.env=(false,eval e1 X.env)::starEach [] X.env<|>ε)(hp:((backTo pos<|starEach [] X.env).any (·.1)=false)<|>ε):AE X (.Call (.Name x p) [e1] [] pos) (eFn F<|jC c1 jH):=wH G (hr.mono hk) (jD h1 jK s1) (jW lE) hg hdb s1 hp
def Eb(G:qo X.prog X.w X.K X.mg X.base k x [p1,p2] F)(hr:Room K0 X.A)(h1:AE X e1 c1)(h2:AE X e2 c2)(hk:k<=K0<|>δ)(hg:Gl X x<|>ε)(hdb:(x == ("__debug__" : Str))=false<|>δ)(s1:starEach [e1,e2] X.env=(false,eval e1 X.env)::starEach [e2] X.env<|>ε)(s2:starEach [e2] X.env=(false,eval e2 X.env)::starEach [] X.env<|>ε)(hp:((backTo pos<|starEach [e2] X.env).any (·.1)=false)<|>ε):AE X (.Call (.Name x p) [e1,e2] [] pos) (eFn F<|jC c1<|jC c2 jH):=wH G (hr.mono hk) (jD h1 (jD h2 jK s2) s1) (jW<|jW lE) hg hdb s1 hp
def Zc(G:qo X.prog X.w X.K X.mg X.base k x [p1,p2,p3] F)(hr:Room K0 X.A)(h1:AE X e1 c1)(h2:AE X e2 c2)(h3:AE X e3 c3)(hk:k<=K0<|>δ)(hg:Gl X x<|>ε)(hdb:(x == ("__debug__" : Str))=false<|>δ)(s1:starEach [e1,e2,e3] X.env=(false,eval e1 X.env)::starEach [e2,e3] X.env<|>ε)(s2:starEach [e2,e3] X.env=(false,eval e2 X.env)::starEach [e3] X.env<|>ε)(s3:starEach [e3] X.env=(false,eval e3 X.env)::starEach [] X.env<|>ε)(hp:((backTo pos<|starEach [e2,e3] X.env).any (·.1)=false)<|>ε):AE X (.Call (.Name x p) [e1,e2,e3] [] pos) (eFn F<|jC c1<|jC c2<|jC c3 jH):=wH G (hr.mono hk) (jD h1 (jD h2 (jD h3 jK s3) s2) s1) (jW<|jW<|jW lE) hg hdb s1 hp
def fn4(G:qo X.prog X.w X.K X.mg X.base k x [p1,p2,p3,p4] F)(hr:Room K0 X.A)(h1:AE X e1 c1)(h2:AE X e2 c2)(h3:AE X e3 c3)(h4:AE X e4 c4)(hk:k<=K0<|>δ)(hg:Gl X x<|>ε)(hdb:(x == ("__debug__" : Str))=false<|>δ)(s1:starEach [e1,e2,e3,e4] X.env=(false,eval e1 X.env)::starEach [e2,e3,e4] X.env<|>ε)(s2:starEach [e2,e3,e4] X.env=(false,eval e2 X.env)::starEach [e3,e4] X.env<|>ε)(s3:starEach [e3,e4] X.env=(false,eval e3 X.env)::starEach [e4] X.env<|>ε)(s4:starEach [e4] X.env=(false,eval e4 X.env)::starEach [] X.env<|>ε)(hp:((backTo pos<|starEach [e2,e3,e4] X.env).any (·.1)=false)<|>ε):AE X (.Call (.Name x p) [e1,e2,e3,e4] [] pos) (eFn F<|jC c1<|jC c2<|jC c3<|jC c4 jH):=wH G (hr.mono hk) (jD h1 (jD h2 (jD h3 (jD h4 jK s4) s3) s2) s1) (jW<|jW<|jW<|jW lE) hg hdb s1 hp
def fx1(G:AN X.prog X.w X.K X.mg X.base k x [p1] F)(hr:Room K0 X.A)(h1:AE X e1 c1)(hk:k<=K0<|>δ)(hg:Gl X x<|>ε)(hdb:(x == ("__debug__" : Str))=false<|>δ)(s1:starEach [e1] X.env=(false,eval e1 X.env)::starEach [] X.env<|>ε)(hp:((backTo pos<|starEach [] X.env).any (·.1)=false)<|>ε):AE X (.Call (.Name x p) [e1] [] pos) (pZ F<|jC c1 jH):=tR G (hr.mono hk) (jD h1 jK s1) (jW lE) hg hdb s1 hp
def Yx(G:AN X.prog X.w X.K X.mg X.base k x [p1,p2] F)(hr:Room K0 X.A)(h1:AE X e1 c1)(h2:AE X e2 c2)(hk:k<=K0<|>δ)(hg:Gl X x<|>ε)(hdb:(x == ("__debug__" : Str))=false<|>δ)(s1:starEach [e1,e2] X.env=(false,eval e1 X.env)::starEach [e2] X.env<|>ε)(s2:starEach [e2] X.env=(false,eval e2 X.env)::starEach [] X.env<|>ε)(hp:((backTo pos<|starEach [e2] X.env).any (·.1)=false)<|>ε):AE X (.Call (.Name x p) [e1,e2] [] pos) (pZ F<|jC c1<|jC c2 jH):=tR G (hr.mono hk) (jD h1 (jD h2 jK s2) s1) (jW<|jW lE) hg hdb s1 hp
def sL{N P:ar}{sc:Scope}(a:sc.kind=.function)(b:sc.isCoroutine=false)(c:sc.isGenerator=false)(h:N.Nodup/\N.take P.length=P/\(∀x∈P,sc.names.lookup x=some .local\/sc.names.lookup x=some .cell)/\∀y∈sc.names,y.2≠.free):FnScope N P sc:=⟨a,b,c,h.1,h.2.1,h.2.2.1,h.2.2.2⟩
end
abbrev mz (S:jF)(n:Nat):Option (List<|Int×A):=match S[n]? with
 | some (.qG xs)=>some xs
 | _=>none
def qw{n:Nat}(h:mz S n=some xs):S[n]?=some (.qG xs):=by
 unfold mz at h;split at h
 ·rename_i e;cases h;exact e
 ·cases h
def Dk{S:jF}{n:Nat}(h:S[n]?=some (.qG xs)):mz S n=some xs:=by
 unfold mz;rw[h]
abbrev nK (kvs:List<|Int×A)(k:Int):Option A:=(kvs.find? λkv=>decide<|kv.1=k).map (·.2)
abbrev xD (kvs:List<|Int×A)(k:Int)(v:A):List (Int×A):=
 if (nK kvs k).isSome=true then kvs.map (λkv=>if kv.1=k then(kv.1,v)else kv)else kvs++[(k,v)]
section
variable {K:au}{ρ:bb}{H:Hp}
def K9{p:Int×A}{r:List<|Int×A}{k:Int}(e:p.1=k):nK (p::r) k=some p.2:=by simp[nK,bV,e]
def LN{p:Int×A}{r:List<|Int×A}{k:Int}(e:¬p.1=k):nK (p::r) k=nK r k:=by simp[nK,bV,e]
def aaP{a b:Int}(e:(Sum.inl a:Key)=Sum.inl b):a=b:=by injection e
theorem DI.look:∀{kvs:List<|Int×A}{ks:List<|Key×V}(k:Int),DI K ρ H kvs ks->(nK kvs k).isSome=(qJ ks (Sum.inl k:Key)).isSome/\∀x,nK kvs k=some x->∃v,qJ ks (Sum.inl k:Key)=some v/\AV K ρ H x v
 | [],[],k,_=>⟨rfl,λx h=>nomatch h⟩
 | p::r,q::r',k,⟨⟨e,a⟩,t⟩=>by
  by_cases c:p.1=k
  ·have d:q.1=(Sum.inl k:Key):=by rw[e,c]
   rw[K9 c,um d];exact⟨rfl,λx h=>by cases h;exact⟨_,rfl,a⟩⟩
  ·have d:¬q.1=(Sum.inl k:Key):=λz=>c<|aaP<|e.symm.trans z;rw[LN c,uF d];exact DI.look k t
theorem DI.repl{x:A}{v:V}(h:AV K ρ H x v)(k:Int):∀{kvs:List<|Int×A}{ks:List<|Key×V},DI K ρ H kvs ks->DI K ρ H (kvs.map λkv=>if kv.1=k then(kv.1,x)else kv) (ks.map λkv=>if kv.1=(Sum.inl k:Key)then(kv.1,v)else kv)
 | [],[],_=>trivial
 | p::r,q::r',⟨⟨e,a⟩,t⟩=>by
  refine⟨?_,DI.repl h k t⟩;dsimp only;by_cases c:p.1=k
  ·rw[aS c,aS<|by rw[e,c]];exact⟨e,h⟩
  ·rw[aQ c,aQ λz=>c<|aaP<|e.symm.trans z];exact⟨e,a⟩
theorem DI.snoc{x:A}{v:V}(h:AV K ρ H x v)(k:Int):∀{kvs:List<|Int×A}{ks:List<|Key×V},DI K ρ H kvs ks->DI K ρ H (kvs++[(k,x)]) (ks++[(Sum.inl k,v)])
 | [],[],_=>⟨⟨rfl,h⟩,trivial⟩
 | p::r,q::r',⟨a,t⟩=>⟨a,DI.snoc h k t⟩
def DI.put{x:A}{v:V}(h:AV K ρ H x v)(k:Int){ks:List<|Key×V}(d:DI K ρ H kvs ks):DI K ρ H (xD kvs k x) (putK ks (Sum.inl k:Key) v):=by
 unfold xD putK;rw[w9,<- (d.look k).1];by_cases c:(nK kvs k).isSome=true
 ·rw[aS c,aS c];exact DI.repl h k d
 ·rw[aQ c,aQ c];exact DI.snoc h k d
def DI.length:∀{kvs:List<|Int×A}{ks:List<|Key×V},DI K ρ H kvs ks->kvs.length=ks.length
 | [],[],_=>rfl
 | _::_,_::_,⟨_,t⟩=>c7 (·+1) t.length
theorem DI.keys:∀{kvs:List<|Int×A}{ks:List<|Key×V},DI K ρ H kvs ks->ks.map (·.1)=kvs.map λkv=>(Sum.inl kv.1:Key)
 | [],[],_=>rfl
 | _::_,_::_,⟨⟨e,_⟩,t⟩=>by rw[bh,bh,e,DI.keys t]
def Rel.qG{n:Nat}{a:ak}(R:Rel K ρ H S)(ha:ρ[n]?=some a)(hS:S[n]?=some (.qG xs)):∃vs,H a=some (.dK vs)/\DI K ρ H xs vs:=R.at n a _ ha hS
def Rel.Zr{S:jF}{p:ak}(R:Rel K ρ H S)(hp:H p=none)(r:DI K ρ H xs vs):Ext ρ (ρ++[p]) H (upd H p<|.dK vs)/\Rel K (ρ++[p]) (upd H p<|.dK vs) (S++[.qG xs])/\(ρ++[p])[S.length]?=some p:=by
 have ex:Ext ρ (ρ++[p]) H (upd H p<|.dK vs):=⟨⟨dU _ _,λa u _ h=>by rw[jL<|jT h hp];exact h⟩,λa u h _=>by rw[jL<|jT h hp];exact h,λa h=>by
  rcases bE.mp h with z|z
  ·exact .inl z
  ·have e:a=p:=by simpa using z
   rw[e];exact .inr hp⟩
 have np:p∉ρ:=R.JT hp;have c:(ρ++[p])[S.length]?=some p:=by rw[<- R.len];simp
 refine⟨ex,⟨by simp[R.len],?_,?_⟩,c⟩
 ·rw[cI];refine⟨R.nd,by simp,λa j b g e=>?_⟩;have:b=p:=by simpa using g
  exact np<|by rw[<- this,<- e];exact j
 ·intro n a o h1 h2;by_cases hn:n<S.length
  ·rw[bB<|by rw[R.len];exact hn]at h1;rw[bB hn]at h2;have na:a≠p:=λz=>np (by rw[<- z];exact bq h1);have:=R.at n a o h1 h2
   cases o with
   | lst ys=>obtain⟨d,e,q⟩:=this;exact⟨d,by rw[jL na];exact e,q.ext ex⟩
   | dct _|qG _|dks _|vK _=>obtain⟨d,e,q⟩:=this;exact⟨d,by rw[jL na];exact e,q.ext ex⟩
   | dcf _=>obtain⟨f,d,e,q⟩:=this;exact⟨f,d,by rw[jL na];exact e,q.ext ex⟩
   | ins _ _=>obtain⟨f,k,e⟩:=this;exact⟨f,k,by rw[jL na];exact e⟩
  ·have e:n=S.length:=by
    have:=(aI.mp h2).1;simp at this
    lia
   subst e;rw[c]at h1
   cases h1
   simp at h2;subst h2;exact⟨vs,ko,r.ext ex⟩
def Rel.xD{S:jF}{n:Nat}{a:ak}(R:Rel K ρ H S)(ha:ρ[n]?=some a)(hS:S[n]?=some (.qG xs))(r:DI K ρ H ys ws):Ext ρ ρ H (upd H a<|.dK ws)/\Rel K ρ (upd H a<|.dK ws) (S.set n<|.qG ys):=by
 obtain⟨vs,e,_⟩:=R.at n a _ ha hS;have ex:Ext ρ ρ H (upd H a<|.dK ws):=⟨⟨dP _,λb u i h=>by
  have:b≠a:=by
   intro z;subst z;rw[e]at h;cases h;exact i
  rw[jL this];exact h⟩,λb u h n=>by
  rw[jL λz=>n<|by rw[z];exact bq ha];exact h,λ_ h=>.inl h⟩
 refine⟨ex,by rw[cu];exact R.len,R.nd,λm b o h1 h2=>?_⟩;by_cases f:m=n
 ·subst f;rw[ha]at h1;cases h1;rw[bJ (aI.mp hS).1]at h2
  cases h2
  exact⟨ws,ko,r.ext ex⟩
 ·rw[bO<|cK f]at h2;have nb:b≠a:=λz=>by
   subst z;obtain⟨k,e1⟩:=aI.mp ha;obtain⟨p,e2⟩:=aI.mp h1;exact f<|(dw R.nd).mp<|e2.trans e1.symm
  have:=R.at m b o h1 h2
  cases o with
  | lst ys=>obtain⟨c,d,q⟩:=this;exact⟨c,by rw[jL nb];exact d,q.ext ex⟩
  | dct _|qG _|dks _|vK _=>obtain⟨c,d,q⟩:=this;exact⟨c,by rw[jL nb];exact d,q.ext ex⟩
  | dcf _=>obtain⟨g,c,d,q⟩:=this;exact⟨g,c,by rw[jL nb];exact d,q.ext ex⟩
  | ins _ _=>obtain⟨g,j,d⟩:=this;exact⟨g,j,by rw[jL nb];exact d⟩
end
section
variable {X:Cx}{pos:Pos}{a b:aC}
abbrev Av (x y:A)(S:jF):R A:=match x,y with
 | .ref n,.int k=>opt (mz S n) λc=>opt (nK c k) λv=>.ok v S
 | _,_=>.no
def Lc{x:A}{P:A->jF->Prop}{E:Str->jF->Prop}(h:(Av x y S).post P E):∃n k kvs v,x=.ref n/\y=.int k/\mz S n=some kvs/\nK kvs k=some v/\P v S:=by
 unfold Av at h;split at h
 ·obtain⟨kvs,h1,h⟩:=jP h;obtain⟨v,h2,h⟩:=jP h;exact⟨_,_,kvs,v,rfl,rfl,h1,h2,h⟩
 ·exact h.elim
def aaz(hu:X.A.units+64<cLine):Vy X (r2 X Av):=λf c pins s σ H x y v u Q I rx ry ⟨ρ,S,a,b,R,va,vb,h⟩ hs=>by
 obtain⟨n,k,B,z,m,j,hn,q,hP⟩:=Lc h;subst m j
 cases vb
 cases va with
 | @ref p _ hp=>
  obtain⟨ks,e,d⟩:=R.qG hp<|qw hn;obtain⟨w,hw,t⟩:=(d.look k).2 z q;have g:we H p (kV<|Sum.inl k) (qJ ks<|Sum.inl k):=we.k e;rw[hw]at g;exact J8 () f c pins s σ H _ _ v u Q I rx ry ⟨p,w,rfl,g,hP _ _ _ .refl R t⟩ hs
def NX(hu:X.A.units+64<cLine){ca cb:Ex}(ha:AE X a ca)(hb:AE X b cb)(hs:yU b<|>θ):AE X (.Subscript a b pos) (jI Av ca cb):=PE.imp (Pq (aaz hu) ha hb hs) λσ H Q h=>vf h
abbrev BN (o i v:A)(S:jF):R Unit:=match o,i with
 | .ref n,.int k=>opt (mz S n) λc=>gd (c.length<sizeLine) (.ok Unit.unit<|S.set n<|.qG<|xD c k v)
 | _,_=>.no
def GG{x v:A}{S:jF}{P:Unit->jF->Prop}{E:Str->jF->Prop}(h:(BN x y v S).post P E):∃n k kvs,x=.ref n/\y=.int k/\mz S n=some kvs/\kvs.length<sizeLine/\P Unit.unit (S.set n<|.qG<|xD kvs k v):=by
 unfold BN at h;split at h
 ·obtain⟨kvs,h1,h⟩:=jP h;obtain⟨h2,h⟩:=j5 h;exact⟨_,_,kvs,rfl,rfl,h1,h2,h⟩
 ·exact h.elim
abbrev acs (X:Cx):Hh:=λo i v H Q=>∃ρ S d c e,Rel X.K ρ H S/\AV X.K ρ H d o/\AV X.K ρ H c i/\AV X.K ρ H e v/\(BN d c e S).post (λ_ f=>∀ρ' H',Ext ρ ρ' H H'->Rel X.K ρ' H' f->Q H') (XE X ρ H)
def Tn(hu:X.A.units+64<cLine):F4 X (acs X):=λpins s σ H o i v f iv u Q I t q m h9=>by
 obtain⟨ρ,S,J,G,F,R,h1,h2,h3,h⟩:=h9;obtain⟨n,k,C,g,c,hn,B,hP⟩:=GG h;subst g c
 cases h2
 cases h1 with
 | @ref p _ hp=>
  obtain⟨ks,e,d⟩:=R.qG hp<|qw hn;obtain⟨ex,j⟩:=R.xD hp (qw hn)<|d.put h3 k;exact set_dict (by omega) pins s σ H _ _ v f iv u Q I t q m ⟨p,_,rfl,Cz.k (k:=Sum.inl k) e<|by rw[<- d.length];exact B,hP _ _ ex j⟩
abbrev LA (co ci:Ex):Tg:=λa τ S=>(co τ S).bind λo S1=>(ci τ S1).bind λi S2=>(BN o i a S2).bind λ_ S3=>.ok τ S3
def Iw(hu:X.A.units+64<cLine){co ci:Ex}(ho:AE X o co)(hi:AE X i ci)
  (ha:(∀v,assign (.Subscript o i pos) X.env v=(do
   let ov <- holding [v] (eval o X.env)
   let iv <- holding [v,ov] (eval i X.env)
   standAt pos
   holding [v,ov,iv] (setItem ov iv v)
   release [v,ov,iv] []))<|>ζ):AG X (.Subscript o i pos) (LA co ci):=PG.imp (D6 ho hi (Tn hu) ha) λv σ H Q h9=>by
 obtain⟨ρ,S,τ,a,R,r,va,h⟩:=h9;fin2;kd_p;ksr_p
abbrev Gk:Ex:=λ_ S=>.ok (.ref S.length)<|S++[.qG []]
def NW:AE X (.Dict [] [] pos) Gk:=PE.imp Pw λσ H Q ⟨ρ,S,τ,R,r,h⟩ p hp=>by
 obtain⟨ex,d,c⟩:=R.Zr (xs:=[]) (vs:=[]) hp trivial;exact h _ _ _ ex d<|.ref c
abbrev dk? (a:A)(S:jF):Option Unit:=match a with
 | .ref n=>(mz S n).map λ_=>Unit.unit
 | _=>none
abbrev Hq (f:A->ae->jF->R A)(co:Ex)(d:qC):Ex:=λτ S=>(co τ S).bind λx S1=>opt (dk? x S1) λ_=>(d τ S1).bind λas S2=>f x as S2
def dk?_ty{K:au}{H:Hp}{x:A}{v:V}(R:Rel K ρ H S)(a:AV K ρ H x v)(e:dk? x S=some u):Zb K "dict" v H:=by
 cases a with
 | @ref p n h=>
  obtain⟨xs,c,_⟩:=aW.mp e;obtain⟨vs,h1,_⟩:=R.qG h<|qw c;exact .inr<|.inr<|.inl ⟨rfl,.inl ⟨vs,h1⟩⟩
 | _=>cases e
def Gr{e:aC}{id:String}{apos cpos:Pos}{f:A->ae->jF->R A}{co:Ex}{d:qC}(slot:Slot "dict" name id)(hty:typeOf (.builtin id)=pure (.type "method_descriptor"))(hm:Ed X id<|rM X f)(ho:AE X o co)(ha:AL X (e::es) d)
  (hbase:attributeBase o name X.env (eval o X.env)=eval o X.env<|>ε)
  (hfew:(((backTo cpos<|starEach (e::es) X.env).all (λx=>!x.1) && (backToKw cpos<|keywordEach [] X.env).all (λx=>x.1.isSome)
   && decide ((e::es).length+([]:List Keyword).length+(if ([]:List Keyword).isEmpty then 0 else 1)<30))=true)<|>ε)
  (hline:(apos.endLine == cpos.line)=true<|>ε) (hs:starEach (e::es) X.env=(false,eval e X.env)::starEach es X.env<|>ε) (hplain:((backTo cpos<|starEach es X.env).any (·.1)=false)<|>ε) :
  AE X (.Call (.Attribute o name apos) (e::es) [] cpos) (Hq f co d):=PE.imp (ME gJ slot hty hm ho ha hbase hfew hline hs hplain) λσ H Q h9=>by
 z_go;kcf_m;obtain⟨xs,c,h1⟩:=jP h1;refine⟨dk?_ty R1 v1 c,ρ1,S1,τ,R1,r.ext e1,jJ (jQ h1) e1 λas S2 h2 ρ2 H2 vs e2 R2 v2=>?_⟩;kcj_m
abbrev wI (o:A)(as:ae)(S:jF):R A:=match o,as with
 | .ref n,[.int k,y]=>opt (mz S n) λc=>.ok ((nK c k).getD y) S
 | _,_=>.no
def Gx{x:A}{P:A->jF->Prop}{E:Str->jF->Prop}(h:(wI x as S).post P E):∃n k y kvs,x=.ref n/\as=[.int k,y]/\mz S n=some kvs/\P ((nK kvs k).getD y) S:=by
 unfold wI at h;split at h
 ·obtain⟨kvs,h1,h⟩:=jP h;exact⟨_,_,_,kvs,rfl,rfl,h1,h⟩
 ·exact h.elim
def Gm(hu:X.A.units+64<cLine):Ed X "dict.get" (rM X wI):=λpins s σ H x vs v us Q I rx q h9=>by
 kpc_g;obtain⟨n,k,y,e,g,has,hn,hP⟩:=Gx h;subst g has;obtain⟨J,M,rfl,f,F⟩:=Qf va
 cases f
 cases vo with
 | @ref p _ hp=>
  obtain⟨ks,h1,B⟩:=R.qG hp (qw hn)
  cases rx
  obtain⟨G,K,rfl,r1,r2⟩:=vals2 q;refine Yl (by omega) I (we.k (k:=Sum.inl k) h1) r1 r2 λL s' t d=>⟨_,H,t,d,hP _ _ _ .refl R ?_⟩;obtain⟨c,j⟩:=B.look k
  cases e1:nK e k with
  | none=>
   rw[e1]at c
   cases e2:qJ ks (Sum.inl k:Key)with
   | none=>exact F
   | some _=>rw[e2]at c;cases c
  | some m=>
   obtain⟨v1,e2,C⟩:=j m e1;rw[e2];exact C
end
end Am
namespace L2
open PySem PySem.Spec PyProof.Rows
section
variable {P:aj}{w:ah}{A:az}{E:af->aA->Prop}{s:aA}{it d:ak}{i ep:Nat}{es:Array DictEntry}{o:Obj}
def X0{Q:bd->aA->Prop}(hi:s.heap.IsKeyIter it d i es.size ep)(ho:s.heap.get? d=some o)(hd:o.data=.dict es ep)(lt:i<es.size)
  (q:∀h',h'.IsKeyIter it d (i+1) es.size ep->Heap.SameBut it s.heap h'->Q (some es[i].key) { s with heap:=h' }):wpAny (model P w) A (pyNext<|.ref it) Q E s:=by
 have ty:=hi.typeIs;obtain⟨p,e,j,c⟩:=id hi;have own:Builtin.Dict_items.ownsTuple "dict_keyiterator" = false:=by decide
 have m:¬((Value.ref d == Value.none)=true):=bG;have k:¬((i:Int)<0):=by omega
 unfold pyNext;refine aH<|gh<|dG (name:=Str.ofString "__next__") ty cL<|cW cL ty gp ?_<|f9 _;refine aH (aP<|aH<|aH ?_)
 first
  | refine aH (dF ty<|aP<|aH<|iW e c ?_)
  | refine aH<|eK ty<|aP<|aH<|iW e c ?_
 dsimp[own,cQ,bH];show wpAny (model P w) _ (if (Value.ref d == Value.none)=true then _ else _) _ _ s;rw[aQ m];refine aH<|aP<|aH<|iZ ho hd ?_;rw[aQ<|show ¬_ by simp];refine aH<|aP<|aH<|wpAny_dictEpoch ho hd ?_;rw[aQ<|show ¬_ by simp];refine aP ?_;dsimp[k,cQ,fF,Array.getElem?_eq_getElem lt];refine aH ?_
 first
  | refine aH (dF ty<|aP<|aH<|iu ty ?_)
  | refine aH<|eK ty<|aP<|aH<|iu ty ?_
 show wpAny (model P w) _ (setField (.ref it) 1 (rawInt<|(i:Int)+1) >>= _) _ _ s;refine aH (gR e c (show _ by simp) ?_);have f:(s.heap.update it<|Obj.mapFields λfs=>fs.setIfInBounds 1<|rawInt<|(i:Int)+1).IsKeyIter it d (i+1) es.size ep:=
  ⟨_,dY _ e<|fB<|dS c _,(iY ..).trans j,by
   rw[dS c];simp[rawInt]⟩
 have g:Shared.TypeIs { s with heap:=s.heap.update it<|Obj.mapFields λfs=>fs.setIfInBounds 1<|rawInt<|(i:Int)+1} (.ref it) "dict_keyiterator" := Heap.IsKeyIter.typeIs (s:={ s with heap:=_ }) f;refine aH (cU<|aH<|iu g ?_)
 skip
 exact aP<|aP ⟨_,rfl,aP<|q _ f<|f6 ..⟩
def Ss{Q:bd->aA->Prop}(hh:A.handled=none)(hi:s.heap.IsKeyIter it d i es.size ep)(ho:s.heap.get? d=some o)(hd:o.data=.dict es ep)(ge:es.size<=i)
  (q:∀h',Heap.ExtBut it s.heap h'->Q none { s with heap:=h' }):wpAny (model P w) A (pyNext<|.ref it) Q E s:=by
 have ty:=hi.typeIs;obtain⟨k,c,g,e⟩:=id hi;have own:Builtin.Dict_items.ownsTuple "dict_keyiterator" = false:=by decide
 have j:¬((Value.ref d == Value.none)=true):=bG;have f:¬((i:Int)<0):=by omega
 unfold pyNext;refine aH<|gh<|dG (name:=Str.ofString "__next__") ty cL<|cW cL ty gp ?_<|f9 _;refine aH (aP<|aH<|aH ?_)
 first
  | refine aH (dF ty<|aP<|aH<|iW c e ?_)
  | refine aH<|eK ty<|aP<|aH<|iW c e ?_
 dsimp[own,cQ,bH];show wpAny (model P w) _ (if (Value.ref d == Value.none)=true then _ else _) _ _ s;rw[aQ j];refine aH<|aP<|aH<|iZ ho hd ?_;rw[aQ<|show ¬_ by simp];refine aH<|aP<|aH<|wpAny_dictEpoch ho hd ?_;rw[aQ<|show ¬_ by simp];refine aP ?_;dsimp[f,cQ,fF,gZ ge];refine aH ?_
 first
  | refine aH (dF ty<|aP ?_)
  | refine aH<|eK ty<|aP ?_
 show wpAny (model P w) _ (setField (.ref it) 0 .none >>= _) _ _ s;refine aH (gR c e (show _ by simp) ?_)
 skip
 refine aH ?_;dsimp[newExc,newTuple];refine aH (cR (aH (m:=firstArgMember _ _)<|wpAny_of_eq (a:=Value.none) (by first|rfl|(dsimp[firstArgMember];rfl))<|cR ?_<|by size_fits)<|by size_fits);dsimp[raiseNew];have hn:A.in1.handled=none:=hh;refine aH<|wpAny_handled<|?_;rw[hn];refine aH<|aP<|wpAny_throw<|?_;refine aH<|fS (b:=true) (T := "StopIteration") ⟨_,bu _ rfl,rfl⟩ isSubtype_stop<|aP<|q _<|((f6 ..).extBut.push _).push _
def Hj{Q:af->aA->Prop}(ty:s.TypeIs (.ref d) "dict")(hs:(d == sysModules)=false)(ho:s.heap.get? d=some o)(hd:o.data=.dict es ep)
  (q:Q (.ref s.heap.objs.size) { s with heap:=s.heap.push { cls:=.type "dict_keyiterator",data:=.fields #[.ref d,.int 0 0,.int es.size 0,.int ep 0]}}):wpAny (model P w) A (pyIter<|.ref d) Q E s:=by
 refine wpAny_pyIter_slot ty PySem.F.slot_dict_iter<|cW PySem.F.slot_dict_iter ty PySem.F.entry_dict_iter ?_<|PySem.F.args_dict_iter_1 _;delta Builtin.«dict.__iter__»;refine aH ?_;delta Builtin.Dict.dictSlotNone;refine aH (wpAny_notOrdered_dict ty ?_)
 skip
 refine aP ?_;show wpAny (model P w) _ (Builtin.Dict.showsAll d >>= _) _ _ s;delta Builtin.Dict.showsAll;have nd:¬((d == sysModules)=true):=by rw[hs];exact bG
 rw[aQ nd];refine aH<|aP<|aH<|iZ ho hd<|aH<|wpAny_dictEpoch ho hd ?_;refine aH<|cR<|aP ⟨_,rfl, "dict_keyiterator",_,⟨_,bu _ rfl,rfl⟩,cL.lookup,?_⟩;simpa[rawInt]using q
end
section
variable {P:aj}{w:ah}
def KQ{A:az}(hh:A.handled=none)(it d:ak)(ne:d≠it){es:Array DictEntry}{o:Obj}(hd:o.data=.dict es ep) :
  Walks P w A it [it,d] [it] es.size (λi v=>(es[i]?).map (λe=>e.key)=some v) (λi h=>h.IsKeyIter it d i es.size ep/\h.get? d=some o) where
 sub:=λb f=>by
  rw[aM.mp f];exact aN ..
 frame:=λ_ _ _ st c=>⟨st.1.at λx e=>c it (aN ..) x e,c d (aK _<|aN ..) o st.2⟩
 item:=λi s Q E lt st q=>X0 st.1 st.2 hd lt λh' k1 k2=>q _ h' s.toks (by rw[Array.getElem?_eq_getElem lt];rfl) ⟨k1,k2.extBut d o ne st.2⟩ λb x nb e=>k2.extBut b x (λz=>nb<|aM.mpr z) e
 done:=λs Q E st q=>Ss hh st.1 st.2 hd (aL _) λh' k=>q h' s.toks λb x nb e=>k b x (λz=>nb<|aM.mpr z) e
 self:=λ_ _ _ _ st q=>wpAny_pyIter_keyiter st.1 q
def TH{d:ak}{es:Array DictEntry}{o:Obj}(hs:(d == sysModules)=false)(hc:o.cls=.type "dict")(hd:o.data=.dict es ep) :
  PySem.W.KdlSrc P w "dict" d d es.size (λi v=>(es[i]?).map (λe=>e.key)=some v) (λh=>h.get? d=some o) where
 type:=λ_ c=>⟨o,c,hc⟩
 there:=λ_ c=>⟨a_ c,a_ c⟩
 keep:=λ_ _ c g=>g d (.inl rfl) o c
 notList:=by decide
 notTuple:=by decide
 hint:=λ_ _ _ _ c f=>PySem.W.kdl_hint_dict ⟨o,c,hc⟩ f
 iter:=λ_ s j c=>⟨_,_,(λ_ _ f=>Hj ⟨o,c,hc⟩ hs c hd f),KQ j _ d (bA<|a_ c) hd,⟨⟨_,bu _ rfl,rfl,rfl⟩,aR _ c⟩⟩
end
section
variable {X:Cx}
def W8{H:Hp}{s:aA}{d:ak}{kvs:List<|List Key×V}(I:Inv X pins σ H s)(ed:H d=some (.dT kvs)) :
  ∃(ob:Obj) (es:Array DictEntry) (ep:Nat) (rs:bb),s.heap.get? d=some ob/\ob.cls=.type "dict" /\ ob.data=.dict es ep/\(d == sysModules)=false/\kvs.length<=sizeLine/\rs.length=kvs.length/\es.size=kvs.length /\
   (∀i:Nat,(es[i]?).map (λe:DictEntry=>e.key)=(rs[i]?).map Value.ref)/\∀(i:Nat) r p,rs[i]?=some r->kvs[i]?=some p->H r=some (.tup<|p.1.map kV):=by
 obtain⟨z,k,xs,f,dd⟩:=Qx I.hok ed;obtain⟨ob,es,ep,B,q,t,g,F,C⟩:=id dd;obtain⟨j,m⟩:=kt_at f;have c:es.size=xs.length:=by have:=c7 List.length g;simpa using this
 refine⟨ob,es,ep,xs.map λy=>y.2.1,B,q.1,t,k,z,by rw[aG,j],by rw[c,j],λi=>?_,λi r p e1 e2=>?_⟩
 ·rw[<- dZ,g,aV,aV,fQ,fQ]
  cases xs[i]?<;>rfl
 ·obtain⟨y,h1,h2,h3,G⟩:=m i p e2;rw[aV,h1]at e1
  cases e1
  exact h3
def DT(hc:X.calm=true):kO X (.builtin "sorted") (λxs H Q=>∃(d:ak) (kvs:List<|List Key×V) (kss:List<|ag),xs=[.ref d]/\H d=some (.dT kvs)/\kvs.map (λp=>p.1)=kss.map (λks=>ks.map Sum.inl)/\(∀ks∈kss,ks≠[])/\Sx.RO kss.length /\
  ∀(rs:bb) l g,rs.length=kss.length->(∀(i:Nat) (r:ak) (ks:ag),rs[i]?=some r->kss[i]?=some ks->H r=some (.tup<|ks.map V.int))->H l=none->Sx.Cl g 0 kss.length->Sx.So (Sx.KP kss) g 0 kss.length ->
   Q (.ref l) (upd H l<|.lst<|((List.range kss.length).map λi=>rs.getD (g i) 0).map V.ref)):=by
 gp_on;obtain⟨d,kvs,kss,rfl,L,B,f,U,q⟩:=h;cb_eq
 cases rx
 obtain⟨ob,es,ep,rs,Y,K,N,G,C,k,T,M,Z⟩:=W8 I L;have t:kvs.length=kss.length:=by have:=c7 List.length B;simpa using this
 have F:∀(i:Nat) (r:ak) (ks:ag),rs[i]?=some r->kss[i]?=some ks->H r=some (.tup<|ks.map V.int):=λi r ks e1 e2=>by
  have lt:i<kvs.length:=by rw[t];exact(aI.mp e2).1
  have h1:=Z i r kvs[i] e1 (aF lt);have h2:(kvs.map λp=>p.1)[i]?=(kss.map λks=>ks.map Sum.inl)[i]?:=by rw[B]
  rw[aV,aV,e2,aF lt]at h2;have h3:kvs[i].1=ks.map Sum.inl:=aX h2;rw[h3,bD]at h1;exact h1
 refine Calls.call_function_entry kind_sorted plain_sorted entry_sorted (args_sorted1 _) ?_;unfold Builtin.«sorted»;refine aH (m:=checkCount "sorted" 1 1 _)<|aP ?_;refine aH (PySem.W.kdu_collect (TH G K N) (show X.A.in1.handled=none from I.ok.hd hc) Y (by rw[T];exact C) λh' P acc O c=>?_);have J:acc.toList=rs.map Value.ref:=by
  refine g_ λj=>?_;rw[dZ,aV,<- M j]
  cases e:acc[j]? with
  | some v=>exact(c.2 j v e).symm
  | none=>
   have:acc.size<=j:=Array.getElem?_eq_none_iff.mp e;rw[gZ<|by rw[<- c.1];exact this];rfl
 rw[J];exact Ll (s:=s) (I.kept (t':=P) O) U (by rw[k,t]) (by rw[k];exact C) (λi r ks e1 e2=>⟨ow.of<|F i r ks e1 e2,f ks<|bq e2⟩) λl g h1 h2 h3=>q rs l g (by rw[k,t]) F h1 h2 h3
end
section
variable {P:aj}{w:ah}{A:az}{E:af->aA->Prop}{s:aA}
def KJ:typeLookup (.type "list") "keys" = pure none:=am_miss_of_fast<|by kernel_rfl
def Le{a:ak}{o:Obj}{k:Nat}{Q:bd->aA->Prop}(hx:s.heap.get? a=some o)(hc:o.cls=.type "list")(hdat:o.data=.seq xs k)(hd:o.dict=none)(hA:A.handled=none)
  (h:∀h' tk,(∀b ob,s.heap.get? b=some ob->h'.get? b=some ob)->Q none { s with heap:=h',toks:=tk }):wpAny (model P w) A (getAttr? (.ref a) "keys") Q E s:=by
 obtain⟨c,dct,q,p⟩:=o;simp only at hc hdat hd;subst hc hdat hd;obtain⟨hp,g,d,tk,os⟩:=s;have m:∀j,(⟨hp,g,d,j,os⟩:aA).TypeIs (.ref a) "list" := λ_=>⟨_,hx,rfl⟩;have f1:=sub_AttributeError;have f3:=gq.lookup;have f4:=gq.bind<|.ref a;have f5:=am_list_getattr_none;unfold getAttr? getAttrBy? getAttrBy
 repeat (any_goals (first|assumption|exact m _|((with_reducible show wpAny _ _ (call (Value.builtin "list.__getattribute__") _ _) _ _ _);refine fL gq (m _) am_entry_list_getattribute (F.args_list_getattribute_2 _ _) (meets_getattribute_miss_list a xs k p "keys" _ KJ ⋯ (by size_fits)) ⟨hx,hA,λh' j e f=>?_⟩)|wp_step))
 obtain⟨t,C,B⟩:=f.there
 skip
 unfold getattributeRaised
 repeat (any_goals (first|assumption|wp_step))
 exact h _ _ f.keeps
def BD:entryFor table "dict.update.loop" = some Builtin.«dict.update.loop»:=entryFor_of_tree<|by kernel_rfl
def vB:plainId "dict.update.loop" = true:=by decide +kernel
abbrev P6 (h:aq)(d I:ak)(its:ba)(ps:List<|Int×af):Prop:=∀(i:Nat) (v:af),its[i]?=some v->∃(b:ak) (p:Int×af) (t:Tok),v=.ref b/\b≠d/\b≠I/\ps[i]?=some p/\IsTup h b #[.int p.1 t,p.2]
def P6.mono{h h':aq}{d:ak}(x:P6 h d I its ps)(k:∀b o,b≠d->b≠I->h.get? b=some o->h'.get? b=some o):P6 h' d I its ps:=λi v hv=>by
 obtain⟨b,p,t,h1,h2,h3,e,o,c,h6⟩:=x i v hv;exact⟨b,p,t,h1,h2,h3,e,o,k b o h2 h3 c,h6⟩
abbrev WR (ps:List<|Int×af):List (Key×af):=ps.foldl (λacc p=>stored acc (Sum.inl p.1) p.2) []
def OQ(ps:List<|Int×af)(i:Nat)(p:Int×af)(h:ps[i]?=some p):WR (ps.take<|i+1)=stored (WR<|ps.take i) (Sum.inl p.1) p.2:=by
 unfold WR;rw[bY,h,eF];rfl
theorem HR:∀(ps:List<|Int×af) (acc:List<|Key×af),(ps.foldl (λacc p=>stored acc (Sum.inl p.1) p.2) acc).length<=acc.length+ps.length
 | [],acc=>aL _
 | p::ps,acc=>by
  have:=HR ps<|stored acc (Sum.inl p.1) p.2;have h:(stored acc (Sum.inl p.1) p.2).length<=acc.length+1:=by
   unfold stored;split
   ·rw[aG];lia
   ·rw[bf];exact aL _
  rw[d_,bC]
  lia
def PL{R:Result->aA->Prop}{I l d:ak}{St:Nat->aq->Prop}{its:ba}{ps:List<|Int×af}(W:Walks P w A.in1 I [I,l] [I] its.length (λi v=>its[i]?=some v) St)(hdI:d≠I)(hdl:d≠l)(hl:ps.length=its.length)(hz:ps.length<=sizeLine) :
  ∀(k i:Nat) (s:aA),its.length-i=k->i<=its.length->St i s.heap->s.heap.DictOf (kL P w) d (WR<|ps.take i)->P6 s.heap d I its ps ->
   (∀h' tk,h'.DictOf (kL P w) d (WR ps)->(∀b o,b≠d->b≠I->s.heap.get? b=some o->h'.get? b=some o)->R (.ok<|.ret .none) { s with heap:=h',toks:=tk }) ->
   codeAny (model P w) A (.builtin "dict.update.loop" ⟨[.ref d,.ref I,rawInt i,.none],[]⟩) R s:=by
 intro k
 induction k with
 | zero=>
  intro i s hk hi f G hP L;have N:i=its.length:=()
  subst N;refine gv BD ?_;rw[fN vB _]
  skip
  refine aH (W.done s _ _ f λh' tk j=>?_)
  skip
  refine aH (aP<|aP<|L h' tk ?_ λb o _ h2 e=>j b o (by simpa using h2) e);rw[<- hl,bU]at G;obtain⟨o,es,ep,m,rest⟩:=G;exact⟨o,es,ep,j d o (by simpa using hdI) m,rest⟩
 | succ k ih=>
  intro i s hk hi f G hP L;have B:i<its.length:=()
  refine gv BD ?_;rw[fN vB _]
  skip
  refine aH<|W.item i s _ _ B f λv h' tk hv C j=>?_;have M:P6 h' d I its ps:=hP.mono λb o h1 h2 e=>j b o (by simpa using h2) e;obtain⟨b,p,t,rfl,hbd,hbI,hp,o,m,hc,n,hd⟩:=M i v hv;have T:h'.DictOf (kL P w) d (WR<|ps.take i):=by
   obtain⟨o,es,ep,m,rest⟩:=G;exact⟨o,es,ep,j d o (by simpa using hdI) m,rest⟩
  have hT:Shared.TypeIs { s with heap:=h',toks:=tk } (.ref b) "tuple" := ⟨o,m,hc⟩;have g:∀(A:az) (E:af->aA->Prop) (Q:ba->aA->Prop),Q [.int p.1 t,p.2] { s with heap:=h',toks:=tk }->wpAny (model P w) A (Builtin.Dict.pairItems<|.ref b) Q E { s with heap:=h',toks:=tk }:=λA E Q q=>by
   unfold Builtin.Dict.pairItems;refine aH<|jj hT ?_;rw[aS ⋯];refine aH<|gQ m hd<|aP q
  have F:(WR<|ps.take i).length<=sizeLine:=by
   refine bF (HR (ps.take i) []) ?_;rw[cO,eg]
   lia
  refine aH (cU<|aH<|wpAny_tryCatch<|g _ _ _ ?_)
  skip
  refine cU (wpAny_dictSet_pairs (hsz:=F) (knd:=kL P w) (k:=Sum.inl p.1) (s:={ s with heap:=h',toks:=tk }) (show Value.isInt p.1 (.int p.1 t)=true by simp[Value.isInt]) T λh2 Y hs=>?_);refine aP ⟨plainId_quiet vB _,?_⟩;have c:∀b o,b≠d->b≠I->s.heap.get? b=some o->h2.get? b=some o:=λb o h3 J e=>by rw[hs.2 b h3];exact j b o (by simpa using J) e
  refine ih (i+1) _ () B (W.frame _ _ _ C λb hb o e=>?_) (by rw[OQ ps i p hp];exact Y) (hP.mono c) λh3 V U O=>L h3 V U λb o J Z e=>O b o J Z<|c b o J Z e;have K:b≠d:=by
   intro z;subst z
   rcases bg.mp hb with z|z
   ·exact hdI z
   ·exact hdl<|by simpa using z
  skip
  rw[hs.2 b K];exact e
theorem BK{H:Hp}{X:Cx}(I:Inv X pins σ H s):∀(rs:bb) (ps:List<|Int×V),rs.length=ps.length->(∀(i:Nat) (r:ak) (q:Int×V),rs[i]?=some r->ps[i]?=some q->ow X.K H r [.int q.1,q.2]) ->
  ∃qs:List<|Int×af,KV ps qs/\∀(i:Nat) (r:ak),rs[i]?=some r->∃q t,qs[i]?=some q/\IsTup s.heap r #[.int q.1 t,q.2]
 | [],[],_,_=>⟨[],.nil,λi r h=>by simp at h⟩
 | [],_::_,h,_=>nomatch h
 | _::_,[],h,_=>nomatch h
 | r::rs,p::ps,hl,hh=>by
  obtain⟨qs,h1,h2⟩:=BK I rs ps (by simpa using hl) λi r q e1 e2=>hh (i+1) r q (by simpa using e1) (by simpa using e2);obtain⟨j,f,k,_⟩:=I.tuple<|hh 0 r p rfl rfl;obtain⟨d,c,rfl,r1,r2⟩:=vals2 f;obtain⟨t,rfl⟩:∃t,d=Value.int p.1 t:=r1;refine⟨(p.1,c)::qs,.cons ⟨rfl,r2⟩ h1,λi g e=>?_⟩
  cases i with
  | zero=>cases e;exact⟨(p.1,c),t,rfl,k⟩
  | succ i=>exact h2 i g<|by simpa using e
abbrev ptP (ps:List<|Int×V):List (Key×V):=ps.foldl (λacc p=>putK acc (Sum.inl p.1) p.2) []
def Z3:∀{ps:List<|Int×V}{qs:List<|Int×af},KV ps qs->∀{as:List<|Key×V}{bs:List<|Key×af},KV as bs->KV (ps.foldl (λacc p=>putK acc (Sum.inl p.1) p.2) as) (qs.foldl (λacc p=>stored acc (Sum.inl p.1) p.2) bs):=by
 intro ps qs h;unfold KV at h
 induction h with
 | nil=>exact λh=>h
 | @cons p q ps qs h t c=>
  intro as bs h2;rw[d_,d_];obtain⟨e,r⟩:=h;rw[e];exact c<|h2.put _ r
theorem Ka:∀(ps:List<|Int×V) (acc:List<|Key×V),(ps.foldl (λacc p=>putK acc (Sum.inl p.1) p.2) acc).length<=acc.length+ps.length
 | [],acc=>aL _
 | p::ps,acc=>by
  have:=Ka ps<|putK acc (Sum.inl p.1) p.2;have:=uG acc (Sum.inl p.1) p.2;rw[d_,bC]
  lia
end
section
variable {X:Cx}
def G9(hc:X.calm=true):kO X (.type "dict") (λxs H Q=>∃(p:ak) (rs:bb) (ps:List<|Int×V),xs=[.ref p]/\pS X.K H p (rs.map V.ref)/\rs.length=ps.length /\
  (∀(i:Nat) (r:ak) (q:Int×V),rs[i]?=some r->ps[i]?=some q->ow X.K H r [.int q.1,q.2])/\∀l,H l=none->Q (.ref l) (upd H l<|.dK<|ptP ps)):=by
 gp_on;obtain⟨p,rs,ps,rfl,hq,C,hT,q⟩:=h;cb_eq
 cases rx
 obtain⟨its,rv,pl,Y⟩:=I.list hq;have ei:=BY rv;subst ei;rw[aG]at Y;obtain⟨O,kv,tp⟩:=BK I rs ps C hT;have ql:ps.length=O.length:=kv.length;obtain⟨o,n,N,j,L,hd⟩:=pl;have lp:p<s.heap.objs.size:=a_ N;refine callType_codes (Q₁:=λm g=>m=.ref s.heap.objs.size/\g={ s with heap:=s.heap.push { cls:=.type "dict",data:=.dict #[]}}) F.kt_called_dict (F.kt_typeCall_dict_1 _) F.entry_dict_init (kt_code_dict_new _ ⟨rfl,rfl⟩) ?_;rintro m g ⟨rfl,rfl⟩;have c:(s.heap.push { cls:=.type "dict",data:=.dict #[]}).DictOf (kL X.prog X.w) s.heap.objs.size []:=Heap.DictOf.new s.heap;have f:(s.heap.push { cls:=.type "dict",data:=.dict #[]}).get? p=some o:=aR _ N;have G:Shared.TypeIs { s with heap:=s.heap.push { cls:=.type "dict",data:=.dict #[]}} (.ref p) "list" := ⟨o,f,j⟩;refine⟨c.typeIs,F.args_dict_init_2 _ _,?_⟩;unfold Builtin.«dict.__init__»;refine aH ?_;unfold Builtin.Dict.selfAndRest;refine aH (wpAny_notOrdered_dict c.typeIs ?_)
 skip
 refine aP ?_;show wpAny _ _ (Builtin.Dict.updateFrom "dict.__init__" s.heap.objs.size (.ref p) [] .none) _ _ _;unfold Builtin.Dict.updateFrom;refine aH<|jj G ?_;rw[aS ⋯];refine aH<|Le f j hd L (show X.A.in1.in1.handled=none from I.ok.hd hc) λh' tk k=>?_;rw[aS<|by rfl];refine aH<|gD ?_;have B:h'.IsList p (rs.map Value.ref).toArray:=⟨o,k p o f,j,n,hd⟩;refine aH<|iX (s:={ s with heap:=h',toks:=tk }) B ?_;refine aP ⟨plainId_quiet vB _,?_⟩;have sz:s.heap.objs.size<h'.objs.size:=a_<|k _ _<|bu _ rfl;have W:Walks X.prog X.w X.A.in1.in1 h'.objs.size [h'.objs.size,p] [h'.objs.size] (rs.map Value.ref).length (λi v=>(rs.map Value.ref)[i]?=some v) (λi h=>h.IsListIter h'.objs.size p i/\h.IsList p (rs.map Value.ref).toArray):=by
  have W:=Walks.list (prog:=X.prog) (w:=X.w) (A:=X.A.in1.in1) (I.ok.hd hc) h'.objs.size p (bA<|a_<|k p o f) (rs.map Value.ref).toArray;rw[aZ]at W;dsimp[fC]at W;exact W
 refine PL (d:=s.heap.objs.size) (its:=rs.map Value.ref) (ps:=O) W (bA sz) (cK<|bA lp) (by rw[aG];lia) () (rs.map Value.ref).length 0 _ () (bM _)
  ⟨⟨_,bu _ rfl,rfl,rfl⟩,B.push _⟩ ?_ (λi v hv=>?_) λh2 J Z hs=>⟨rfl,.ref s.heap.objs.size,_,I.laid (t':=J) (o:=.dK<|ptP ps) (λb U T=>?_) (aL _) ?_,rfl,q _<|I.hok.fresh<|aL _⟩
 ·obtain⟨o,es,ep,e,rest⟩:=c;exact⟨o,es,ep,aR _<|k _ _ e,rest⟩
 ·rw[aV]at hv;obtain⟨r,hr,rfl⟩:=aW.mp hv;obtain⟨q,t,h1,o2,h2,h3⟩:=tp i r hr;have P:=a_ h2;exact⟨r,q,t,rfl,bA P,bA<|ji P sz,h1,o2,aR _<|k _ _<|aR _ h2,h3⟩
 ·have M:=a_ T;exact hs b U (bA M) (bA<|ji M sz) (aR _<|k _ _<|aR _ T)
 ·refine M5 (bF (Ka ps [])<|by rw[eg];lia) ?_ (Z3 kv .nil) Z;exact b8.mpr<|cK<|bA I.big
abbrev RW (ns:ag):Sx.Ord where
 lt i j:=decide (ns.getD i 0<ns.getD j 0)
 Oi i:=bw (by omega)
 tr i j k h1 h2:=aY (by have:=bK h1;have:=bK h2;omega)
 neg i j k h:=by
  have:=bK h;by_cases c:ns.getD i 0<ns.getD j 0
  ·exact .inl (aY c)
  ·exact .inr<|aY<|by omega
theorem JE:∀{vs:ba}{ns:ag},IntsAre vs ns->vs.length=ns.length/\∀i,i<vs.length->∃t,vs.getD i .none=.int (ns.getD i 0) t
 | _,_,.nil=>⟨rfl,λi h=>absurd h<|eo _⟩
 | _,_,.cons n t h=>by
  obtain⟨h1,h2⟩:=JE h;refine⟨c7 (·+1) h1,λi c=>?_⟩
  cases i with
  | zero=>exact⟨t,rfl⟩
  | succ i=>exact h2 i<|by simpa using c
theorem Ah{f:Nat->Int}{h:Nat->af}:∀(l:am),(∀i∈l,∃t,h i=.int (f i) t)->Vals (l.map λi=>V.int<|f i) (l.map h)
 | [],_=>.nil
 | i::l,e=>.cons (e i<|aN ..)<|Ah l λj c=>e j<|aK _ c
def GF{s:aA}{H:Hp}{Q:VK}{h':aq}{tk:Nat}{vs:ba}{ns:ag}(I1:Inv X pins σ H { s with heap:=h',toks:=tk })(ro:Sx.RO ns.length)(hi:IntsAre vs ns)(hz:vs.length<=sizeLine)
  (q:∀l g,H l=none->Sx.Cl g 0 ns.length->Sx.So (RW ns) g 0 ns.length->Q (.ref l) (upd H l<|.lst<|(List.range ns.length).map λi=>V.int<|ns.getD (g i) 0)) :
  wpAny (model X.prog X.w) X.A.in1 (do
   let l <- newList vs
   let _ <- holding [l] (call (Value.builtin "list.sort") [l] [])
   ret l) (λfin s'=>∃v,fin=Fin.done (Flow.ret v)/\EP X pins σ Q v s') X.xe { s with heap:=h',toks:=tk }:=by
 obtain⟨p,c⟩:=JE hi;refine aH<|wpAny_newList ?_;have d:(h'.push<|seqObj "list" vs.toArray 0).get? h'.objs.size=some (seqObj "list" vs.toArray 0):=bu _ rfl
 skip
 refine aH (cU<|cW slot_list_sort ⟨_,d,rfl⟩ entry_list_sort (Sx.Bw (o:=RW ns) (kd:=oneType') d hz (by rw[p];exact ro) (λh2 B q'=>?_) (λh2 i j k C F B q'=>?_) λg hc hs=>⟨_,rfl,?_⟩)<|args_list_sort _)
 ·obtain⟨a,b,r,rfl⟩:∃a b r,vs=a::b::r:=by
   cases vs with
   | nil=>simp at h2
   | cons a vs=>cases vs with
    | nil=>simp at h2
    | cons b r=>exact⟨a,b,r,rfl⟩
  exact wpAny_of_eq (keyKind_ints hi) q'
 ·obtain⟨t,e1⟩:=c i k;obtain⟨u,e2⟩:=c j C;show wpAny _ _ (keyLt' oneType' (vs.getD i .none)<|vs.getD j .none) B F _;rw[e1,e2,keyLt'_oneType];exact Sx.JG true q'
 ·rw[p]at hc hs ⊢;obtain⟨e,G⟩:=sortedHeap_at (out:=((List.range ns.length).map λi=>vs.getD (g i) .none).toArray) d;have old:∀b f,h'.get? b=some f->(sortedHeap (h'.push<|seqObj "list" vs.toArray 0) h'.objs.size vs ((List.range ns.length).map λi=>vs.getD (g i) .none).toArray).get? b=some f:=λb f m=>by
   rw[sortedHeap_old (bA<|a_ m)<|by rw[c6];exact fH<|a_ m];exact aR _ m
  refine aP ⟨_,rfl,.ref h'.objs.size,_,I1.laid (t':=tk) (o:=.lst<|(List.range ns.length).map λi=>V.int<|ns.getD (g i) 0) old (aL _) ?_,rfl,q _ g (I1.hok.fresh<|aL _) hc hs⟩;refine⟨by rw[aG,cA];omega,(List.range ns.length).map λi=>vs.getD (g i) .none,e,Ah _ λi hi=>c _ (by have:=(hc i (bM _)<|c5.mp hi).2;omega),G⟩
def LW{P:aj}{w:ah}{vs:List<|Key×af}:∀{acc:ba}{ns:ag},vs.map (·.1)=ns.map Sum.inl->acc.length=vs.length->(∀(j:Nat) v,acc[j]?=some v->∃k x,vs[j]?=some (k,x)/\(kL P w).is k v=true)->IntsAre acc ns:=by
 intro acc ns c d h
 induction acc generalizing vs ns with
 | nil=>cases vs with
  | nil=>cases ns with
   | nil=>exact .nil
   | cons=>cases c
  | cons=>cases d
 | cons a acc f=>cases vs with
  | nil=>cases d
  | cons v vs=>cases ns with
   | nil=>cases c
   | cons n ns=>
    rw[bh,bh,List.cons.injEq]at c;obtain⟨k,x,e1,e2⟩:=h 0 a rfl
    cases e1
    obtain⟨e3,e4⟩:=c;have e3:k=Sum.inl n:=e3;subst e3;obtain⟨t,rfl⟩:=Value.isInt_shape (k:=n) (v:=a) e2;exact .cons n t<|f e4 (by simpa using d) λj v e=>h (j+1) v<|by simpa using e
def DG(hc:X.calm=true):kO X (.builtin "sorted") (λxs H Q=>∃(d:ak) (kvs:List<|Key×V) (ns:ag),xs=[.ref d]/\H d=some (.dK kvs)/\kvs.map (λp=>p.1)=ns.map Sum.inl/\Sx.RO ns.length /\
  ∀l g,H l=none->Sx.Cl g 0 ns.length->Sx.So (RW ns) g 0 ns.length->Q (.ref l) (upd H l<|.lst<|(List.range ns.length).map λi=>V.int<|ns.getD (g i) 0)):=by
 gp_on;obtain⟨d,kvs,ns,rfl,B,t,G,q⟩:=h;cb_eq
 cases rx
 obtain⟨z,hd,vs,f,dd⟩:=VN I.hok B;obtain⟨ep,k⟩:=dd.dictAt;have K:kvs.length=vs.length:=f.length;have C:vs.map (·.1)=kvs.map (·.1):=by
  clear t z dd k K B;unfold KV at f
  induction f with
  | nil=>rfl
  | cons h _ J=>rw[bh,bh,J,h.1]
 refine Calls.call_function_entry kind_sorted plain_sorted entry_sorted (args_sorted1 _) ?_;unfold Builtin.«sorted»;refine aH (m:=checkCount "sorted" 1 1 _)<|aP ?_;refine aH<|PySem.W.kdu_collect (PySem.W.kdl_dict hd) (show X.A.in1.handled=none from I.ok.hd hc) k () λh' F acc L c=>?_;have al:acc.toList.length=vs.length:=by rw[dI];exact c.1
 exact GF (s:=s) (I.kept (t':=F) L) G (LW (P:=X.prog) (w:=X.w) (C.trans t) al λj v e=>c.2 j v<|by rw[dZ]at e;exact e) () q
end
end L2
namespace Am
open PySem PySem.Spec PyProof.Rows L2
abbrev TX:ae->Option (List<|Int×A)
 | []=>some []
 | .tup [.int k,x]::r=>(TX r).map λps=>(k,x)::ps
 | _=>none
abbrev RY (ps:List<|Int×A):List (Int×A):=ps.foldl (λacc p=>xD acc p.1 p.2) []
section
variable {K:au}{ρ:bb}{H:Hp}
def Sk{x:A}(r:AVs K ρ H [x,y] vs):∃v w,vs=[v,w]/\AV K ρ H x v/\AV K ρ H y w:=by
 cases r with
 | cons h t=>cases t with
  | cons h' c=>cases c;exact⟨_,_,rfl,h,h'⟩
def P0{x:A}(e:TX (x::xs)=some ps):∃k y ps',x=.tup [.int k,y]/\TX xs=some ps'/\ps=(k,y)::ps':=by
 unfold TX at e;split at e
 ·rename_i e2;cases e2
 ·rename_i k y r e2
  cases e2
  obtain⟨ps',h1,h2⟩:=aW.mp e;exact⟨_,_,_,rfl,h1,h2.symm⟩
 ·cases e
def aaU:∀{xs:ae}{vs:List V}{ps:List<|Int×A},AVs K ρ H xs vs->TX xs=some ps ->
  ∃(rs:bb) (qs:List<|Int×V),vs=rs.map V.ref/\rs.length=qs.length/\(∀(i:Nat) (r:ak) (q:Int×V),rs[i]?=some r->qs[i]?=some q->ow K H r [.int q.1,q.2]) /\
   ∀as bs,DI K ρ H as bs->DI K ρ H (ps.foldl (λacc p=>xD acc p.1 p.2) as) (qs.foldl (λacc p=>putK acc (Sum.inl p.1) p.2) bs):=by
 intro xs
 induction xs with
 | nil=>intro vs ps r e;cases r;cases e;exact⟨[],[],rfl,rfl,λi r q h=>by simp at h,λas bs h=>h⟩
 | cons x xs j=>
  intro vs ps r e;obtain⟨k,y,c,rfl,e1,rfl⟩:=P0 e
  cases r with
  | cons h t=>
   obtain⟨rs,qs,rfl,m,g,f⟩:=j t e1
   cases h with
   | @tup a _ us h r=>
    obtain⟨v,w,rfl,h1,h2⟩:=Sk r
    cases h1
    refine⟨a::rs,(k,w)::qs,rfl,by rw[bC,bC,m],λi r q e1 e2=>?_,λas bs d=>f _ _<|d.put h2 k⟩
    cases i with
    | zero=>cases e1;cases e2;exact ow.of h
    | succ i=>exact g i r q (by simpa using e1)<|by simpa using e2
end
section
variable {X:Cx}
abbrev C2 (x:A)(S:jF):R A:=match x with
 | .ref n=>opt (jE S n) λxs=>opt (TX xs) λps=>.ok (.ref S.length) (S++[.qG<|RY ps])
 | _=>.no
def Jg(hc:X.calm=true):kO X (.type "dict") (rN X<|f1 C2):=kO.imp (G9 hc) λvs H Q h0=>by
 kpf_c;clear h0
 cases hv with
 | ref hp=>
  rename_i p n;kj_on;obtain⟨ps,f,h⟩:=jP h;obtain⟨us,h1,r⟩:=R.lst hp<|jS hn;obtain⟨m,e,rfl,d,j,g⟩:=aaU r f;refine⟨p,m,e,rfl,pS.of h1,d,j,λl c=>?_⟩;obtain⟨ex,k,d⟩:=R.Zr (xs:=RY ps) (vs:=ptP e) c<|g [] [] trivial;exact h _ _ _ ex k<|.ref d
 | _=>exact h.elim
def Tj{ns:ag}{g:Nat->Nat}(c:Sx.Cl g 0 ns.length)(so:Sx.So (RW ns) g 0 ns.length):(List.range ns.length).map (λi=>ns.getD (g i) 0)=sortI ns:=by
 refine Uz ?_ ?_ (AK ns)
 ·refine List.Perm.trans ?_ (sortI_perm ns).symm;have p:=A2 (N:=ns.length) (g:=g) (λi f=>(c i (bM _) f).2) λi j d e z=>by
   have:=so i j (bM _) d e;rw[z]at this;exact this.Oi
  have:=p.map λi=>ns.getD i 0;rw[bD,range_getD]at this;exact this
 ·rw[fY];intro i j f e d;rw[aG,cA]at f e;rw[dQ,dQ,dX,dX];have:=dB (so i j (bM _) d e).ge
  lia
@[irreducible] noncomputable def big:Nat:=2 ^ 4096
theorem yX:big=2 ^ 4096:=by unfold big;rfl
def FZ{i:Int}(h:i.natAbs<big):Builtin.Int.intBits i<=2 ^ 20:=by
 rw[yX]at h;exact bF (intBits_le h) ⋯
abbrev JC (a b:A)(S:jF):R A:=match a,b with
 | .int i,.int j=>gd (i.natAbs<big/\j.natAbs<big) (.ok (.int<|i * j) S)
 | _,_=>.no
def Wc:pK X (binaryOp .Mult) (r2 X JC):=λpins s σ H x y v u Q I rx ry h9=>by
 w_up
 cases va with
 | int i=>cases vb with
  | int j=>
   obtain⟨⟨h1,h2⟩,h⟩:=j5 h;obtain⟨t,rfl⟩:∃t,v=Value.int i t:=rx;obtain⟨c,rfl⟩:∃t,u=Value.int j t:=ry;exact mul_int ⟨.int _,H,I.tok _,⟨_,rfl⟩,h _ _ _ .refl R<|.int _⟩<|IntMulOk.of_bits (FZ h1)<|FZ h2
  | _=>exact h.elim
 | _=>exact h.elim
end
def IU:bootBuiltins "dict" = some (.type "dict"):=by decide +kernel
abbrev kA (p:Int×Int):A:=.ktu [.int p.1,.int p.2]
abbrev QH (K:au):af->Option (Int×Int)
 | .ref b=>match K.lookup b with
  | some ⟨.type "tuple",none,.seq its _,_⟩=>match its.toList with
   | [.int i _,.int j _]=>some (i,j)
   | _=>none
  | _=>none
 | _=>none
abbrev HA (K:au):ba->Option (List<|Int×Int)
 | []=>some []
 | v::vs=>(QH K v).bind λp=>(HA K vs).map λps=>p::ps
abbrev Zg (K:au)(a:ak):Option (List<|Int×Int):=match K.lookup a with
 | some ⟨.type "list",none,.seq its _,_⟩=>if its.size<=sizeLine then HA K its.toList else none
 | _=>none
def Q6{K:au}{v:af}{p:Int×Int}(h:QH K v=some p):∃b,v=.ref b/\KTp K b [.int p.1,.int p.2]:=by
 unfold QH at h;split at h
 ·rename_i b;refine⟨b,rfl,?_⟩;split at h
  ·rename_i c n d e;split at h
   ·rename_i i t j u e2
    cases h
    refine⟨_,c,n,e,rfl,rfl,rfl,?_,?_⟩
    ·rw[<- dI,e2];show 2<=sizeLine;decide
    ·rw[e2];exact .cons ⟨t,rfl⟩<|.cons ⟨u,rfl⟩ .nil
   ·cases h
  ·cases h
 ·cases h
def Mf{K:au}{H:Hp}:∀{vs:ba}{ps:List<|Int×Int},HA K vs=some ps->∃us:List V,Vals us vs/\AVs K ρ H (ps.map kA) us:=by
 intro vs
 induction vs with
 | nil=>intro ps h;cases h;exact⟨[],.nil,.nil⟩
 | cons v vs e=>
  intro ps h;obtain⟨p,h1,h⟩:=bX.mp h;obtain⟨f,h2,rfl⟩:=aW.mp h;obtain⟨us,h3,c⟩:=e h2;obtain⟨b,rfl,d⟩:=Q6 h1;exact⟨.ref b::us,.cons rfl h3,.cons (.ktu d<|.cons (.int _)<|.cons (.int _) .nil) c⟩
def XY{K:au}{H:Hp}{a:ak}{ps:List<|Int×Int}(h:Zg K a=some ps):AV K ρ H (.frz<|ps.map kA) (.ref a):=by
 unfold Zg at h;split at h
 ·rename_i c n f e;split at h
  ·rename_i d;obtain⟨us,h1,h2⟩:=Mf (ρ:=ρ) (H:=H) h;exact .frz (.inr ⟨_,c,n,e,rfl,rfl,rfl,d,h1⟩) h2
  ·cases h
 ·cases h
def Q4{X:Cx}{x:Str}{a:ak}{ps:List<|Int×Int}(hm:X.mg x=some (.ref a))(hk:Zg X.K a=some ps)(hg:Gl X x<|>ε)(hd:(x == ("__debug__" : Str))=false<|>δ):AE X (.Name x pos) (eC<|.frz<|ps.map kA):=
 PE.imp (Kg (v:=.ref a) hg hm rfl hd) λσ H Q h9=>by
  z_go;exact h ρ H _ .refl R<|XY hk
section
theorem Jc{K:au}{H:Hp}:∀{kvs:List<|ag×A}{ks:List<|List Key×V},DV K ρ H kvs ks->ks.map (λp=>p.1)=(kvs.map Prod.fst).map (λks=>ks.map Sum.inl)
 | [],[],_=>rfl
 | a::kvs,b::ks,⟨z,t⟩=>by
  have:=Jc t;show b.1::ks.map _=a.1.map Sum.inl::_;rw[this,z.1]
end
structure DKind (K:au)(o:O)(ob:HO)(st:A->A->A->jF->R Unit):Prop where
 obj:∀{P:aj} {w:ah} {H:Hp} (h:aq),sysModules<h.objs.size->kW P w H (h.push { cls:=.type "dict",data:=.dict #[]}) h.objs.size ob
 new:∀{ρ:bb} {H:Hp} {S:jF} {p:ak},Rel K ρ H S->H p=none->Ext ρ (ρ++[p]) H (upd H p ob)/\Rel K (ρ++[p]) (upd H p ob) (S++[o])/\(ρ++[p])[S.length]?=some p
 put:∀{ρ:bb} {H:Hp} {S S':jF} {n:Nat} {p:ak} {y z:A} {vy vz:V} {u:Unit},Rel K ρ H S->ρ[n]?=some p->AV K ρ H y vy->AV K ρ H z vz->st (.ref n) y z S=.ok u S'->∃H',Cz H p vy vz H'/\Ext ρ ρ H H'/\Rel K ρ H' S'
end Am
namespace L2
open PySem PySem.Spec PyProof.Rows
section
variable {X:Cx}{pins:bo}{σ:St}{H:Hp}{s:aA}{a:ak}{xs:List (m9×ak×af)}
def VB{r:ak}{x:ag}(I:Inv X pins σ H s)(h:H r=some (.tup<|x.map V.int)):TK s.heap x r:=by
 obtain⟨_,c,d,o,h1,h2,_,n,h3⟩:=(show kW _ _ H s.heap r (.tup<|x.map V.int)from I.hok r _ h);exact⟨o,c.toArray,n,h1,h2,h3,by simpa using intsAre_of d⟩
def C8{k:m9}(I:Inv X pins σ H s)(h:sQ H b k):vI s.heap k b:=by
 obtain⟨r1,r2,h1,h2,h3⟩:=h;obtain⟨_,f,d,o,e1,e2,_,n,e3⟩:=(show kW _ _ H s.heap b (.tup [.ref r1,.ref r2])from I.hok b _ h1);obtain⟨g,j,rfl,e,c⟩:=vals2 d
 cases e
 cases c
 exact⟨o,n,r1,r2,e1,e2,e3,VB I h2,VB I h3⟩
def Ve(I:Inv X pins σ H s)(e:H a=some (.ext<|uB a xs))(hk:∀x∈xs,sQ H x.2.1 x.1):(a == sysModules)=false/\xs.length<=sizeLine/\s.heap.DictOfH (AJ X.prog X.w) a xs:=by
 obtain⟨⟨h1,h2,o,es,ep,h3,d,c,h6,f⟩,_⟩:=(show kW _ _ H s.heap a (.ext<|uB a xs)from I.hok a _ e);exact⟨h1,h2,o,es,ep,h3,d,c,h6,λx g=>C8 I<|hk x g,f⟩
def Px{P:aj}{w:ah}{H':Hp}{h':aq}(h1:(a == sysModules)=false)(h2:xs.length<=sizeLine)(dd:h'.DictOfH (AJ P w) a xs):kW P w H' h' a (.ext<|uB a xs):=by
 obtain⟨o,es,ep,h3,e,d,h6,_,j⟩:=dd;refine⟨⟨h1,h2,o,es,ep,h3,e,d,h6,j⟩,⟨o,h3⟩,λm p f k=>?_⟩;obtain⟨g,c,o,es,ep,h3,q⟩:=f;exact⟨g,c,o,es,ep,k o h3,q⟩
structure DPg (H:Hp)(a b:ak)(xs:List (m9×ak×af))(k:m9):Prop where
 d:H a=some (.ext<|uB a xs)
 ks:∀x∈xs,sQ H x.2.1 x.1
 k:sQ H b k
def FO{xs:List<|m9×ak×af}{k:m9}:(storedH xs k b u).length<=xs.length+1:=by
 unfold storedH;split
 ·rw[aG];lia
 ·rw[bf];exact aL _
def Yo(hu:X.A.units+32<cLine):F4 X (λo i v H Q=>∃a b xs k,o=.ref a/\i=.ref b/\DPg H a b xs k/\xs.length<sizeLine/\∀u,RelV v u->Q (upd H a<|.ext<|uB a<|storedH xs k b u)):=by
 intro pins s σ H o i v p iv u Q I j f e h;obtain⟨a,b,xs,k,rfl,rfl,g,m,q⟩:=h
 cases j
 cases f
 obtain⟨h1,h2,dd⟩:=Ve I g.d g.ks;refine wpAny_setItem_heap (hsz:=h2) (show X.A.in1.units+16<cLine by simp;omega) (C8 I g.k) dd λh' dd' hs=>⟨_,?_,q u e⟩;have c:∃q,h'.get? a=some q:=let⟨q,_,_,hq,_⟩:=dd';⟨q,hq⟩
 exact CW I (by rw[g.d];exact True.intro) hs c<|Px h1 (bF FO m) dd'
abbrev YK:TE:=λ_ H Q=>∀p,H p=none->Q (.ref p) (upd H p<|.ext<|uB p [])
def Pf:PE X (.Dict [] [] pos) YK:=λpins s σ H Q I h=>
 wpAny_Dict_empty ⟨.ref s.heap.objs.size,_,I.laid (a:=s.heap.objs.size) (o:=.ext<|uB s.heap.objs.size []) (t':=s.toks) (λ_ _ q=>aR _ q) (aL _)
  (Px (b8.mpr<|cK<|bA I.big) (bM _) ⟨_,#[],0,bu _ rfl,⟨rfl,rfl,rfl⟩,rfl,rfl,(nofun),dh⟩),rfl,h _<|I.hok.fresh<|aL _⟩
end
end L2
namespace Am
open PySem PySem.Spec PyProof.Rows L2
abbrev oY (S:jF)(n:Nat):Option (List<|m9×A):=match S[n]? with
 | some (.vK xs)=>some xs
 | _=>none
def pQ{n:Nat}(h:oY S n=some xs):S[n]?=some (.vK xs):=by
 unfold oY at h;split at h
 ·rename_i e;cases h;exact e
 ·cases h
def zD{S:jF}{n:Nat}(h:S[n]?=some (.vK xs)):oY S n=some xs:=by
 unfold oY;rw[h]
abbrev pN (kvs:List<|m9×A)(k:m9):Option A:=(kvs.find? λkv=>decide<|kv.1=k).map (·.2)
abbrev yp (kvs:List<|m9×A)(k:m9)(v:A):List (m9×A):=
 if (pN kvs k).isSome=true then kvs.map (λkv=>if kv.1=k then(kv.1,v)else kv)else kvs++[(k,v)]
abbrev Ea (x:A):Option m9:=match x with
 | .tup [.tup xs,.tup ys]=>(A.ints xs).bind λns=>(A.ints ys).map λc=>(ns,c)
 | _=>none
section
variable {K:au}{ρ:bb}{H:Hp}
def KS{p:m9×A}{r:List<|m9×A}{k:m9}(e:p.1=k):pN (p::r) k=some p.2:=by simp[pN,bV,e]
def KL{p:m9×A}{r:List<|m9×A}{k:m9}(e:¬p.1=k):pN (p::r) k=pN r k:=by simp[pN,bV,e]
theorem DP.look:∀{kvs:List<|m9×A}{ks:List<|m9×ak×af}(k:m9),DP K ρ H kvs ks->(pN kvs k).isSome=(atKey ks k).isSome/\∀x,pN kvs k=some x->∃p v,atKey ks k=some p/\RelV v p.2/\AV K ρ H x v
 | [],[],k,_=>⟨rfl,λx h=>nomatch h⟩
 | p::r,q::r',k,⟨⟨e,_,v,rv,a⟩,t⟩=>by
  by_cases c:p.1=k
  ·have d:q.1=k:=by rw[e,c]
   have b:atKey (q::r') k=some q.2:=by simp[atKey,bV,d]
   rw[KS c,b];exact⟨rfl,λx h=>by cases h;exact⟨_,v,rfl,rv,a⟩⟩
  ·have d:¬q.1=k:=λz=>c<|e.symm.trans z;have b:atKey (q::r') k=atKey r' k:=by simp[atKey,bV,d]
   rw[KL c,b];exact DP.look k t
theorem DP.repl{x:A}{v:V}(h:AV K ρ H x v)(rv:RelV v u)(k:m9):∀{kvs:List<|m9×A}{ks:List<|m9×ak×af},DP K ρ H kvs ks->DP K ρ H (kvs.map λkv=>if kv.1=k then(kv.1,x)else kv) (ks.map<|putAt k u)
 | [],[],_=>trivial
 | p::r,q::r',⟨⟨e,ka,z⟩,t⟩=>by
  refine⟨?_,DP.repl h rv k t⟩;dsimp only;unfold putAt;by_cases c:p.1=k
  ·rw[aS c,aS<|by rw[e,c]];exact⟨e,ka,v,rv,h⟩
  ·rw[aQ c,aQ λz=>c<|e.symm.trans z];exact⟨e,ka,z⟩
theorem DP.snoc{x:A}{v:V}(h:AV K ρ H x v)(rv:RelV v u)(k:m9)(hk:sQ H b k):∀{kvs:List<|m9×A}{ks:List<|m9×ak×af},DP K ρ H kvs ks->DP K ρ H (kvs++[(k,x)]) (ks++[(k,b,u)])
 | [],[],_=>⟨⟨rfl,hk,v,rv,h⟩,trivial⟩
 | p::r,q::r',⟨a,t⟩=>⟨a,DP.snoc h rv k hk t⟩
def DP.put{x:A}{v:V}(h:AV K ρ H x v)(rv:RelV v u)(k:m9)(hk:sQ H b k){ks:List<|m9×ak×af}(d:DP K ρ H kvs ks):DP K ρ H (yp kvs k x) (storedH ks k b u):=by
 unfold yp storedH;rw[<- (d.look k).1];by_cases c:(pN kvs k).isSome=true
 ·rw[aS c,aS c];exact DP.repl h rv k d
 ·rw[aQ c,aQ c];exact DP.snoc h rv k hk d
def DP.length:∀{kvs:List<|m9×A}{ks:List<|m9×ak×af},DP K ρ H kvs ks->kvs.length=ks.length
 | [],[],_=>rfl
 | _::_,_::_,⟨_,t⟩=>c7 (·+1) t.length
def DP.keys:∀{kvs:List<|m9×A}{ks:List<|m9×ak×af},DP K ρ H kvs ks->∀x∈ks,sQ H x.2.1 x.1
 | [],[],_,x,h=>nomatch h
 | _::_,q::_,⟨⟨_,ka,_⟩,t⟩,x,h=>by
  rcases bg.mp h with z|z
  ·rw[z];exact ka
  ·exact t.keys x z
def Rel.vK{n:Nat}{a:ak}(R:Rel K ρ H S)(ha:ρ[n]?=some a)(hS:S[n]?=some (.vK xs)):∃vs,H a=some (.ext<|uB a vs)/\DP K ρ H xs vs:=R.at n a _ ha hS
def Rel.acw{S:jF}{p:ak}(R:Rel K ρ H S)(hp:H p=none):Ext ρ (ρ++[p]) H (upd H p<|.ext<|uB p [])/\Rel K (ρ++[p]) (upd H p<|.ext<|uB p []) (S++[.vK []])/\(ρ++[p])[S.length]?=some p:=by
 have ex:Ext ρ (ρ++[p]) H (upd H p<|.ext<|uB p []):=⟨⟨dU _ _,λa u _ h=>by rw[jL<|jT h hp];exact h⟩,λa u h _=>by rw[jL<|jT h hp];exact h,λa h=>by
  rcases bE.mp h with z|z
  ·exact .inl z
  ·have e:a=p:=by simpa using z
   rw[e];exact .inr hp⟩
 have np:p∉ρ:=R.JT hp;have c:(ρ++[p])[S.length]?=some p:=by rw[<- R.len];simp
 refine⟨ex,⟨by simp[R.len],?_,?_⟩,c⟩
 ·rw[cI];refine⟨R.nd,by simp,λa j b g e=>?_⟩;have:b=p:=by simpa using g
  exact np<|by rw[<- this,<- e];exact j
 ·intro n a o h1 h2;by_cases hn:n<S.length
  ·rw[bB<|by rw[R.len];exact hn]at h1;rw[bB hn]at h2;have na:a≠p:=λz=>np (by rw[<- z];exact bq h1);have:=R.at n a o h1 h2
   cases o with
   | lst ys=>obtain⟨d,e,q⟩:=this;exact⟨d,by rw[jL na];exact e,q.ext ex⟩
   | dct _|qG _|dks _|vK _=>obtain⟨d,e,q⟩:=this;exact⟨d,by rw[jL na];exact e,q.ext ex⟩
   | dcf _=>obtain⟨f,d,e,q⟩:=this;exact⟨f,d,by rw[jL na];exact e,q.ext ex⟩
   | ins _ _=>obtain⟨f,k,e⟩:=this;exact⟨f,k,by rw[jL na];exact e⟩
  ·have e:n=S.length:=by
    have:=(aI.mp h2).1;simp at this
    lia
   subst e;rw[c]at h1
   cases h1
   simp at h2;subst h2;exact⟨[],ko,trivial⟩
def Rel.yp{S:jF}{n:Nat}{a:ak}(R:Rel K ρ H S)(ha:ρ[n]?=some a)(hS:S[n]?=some (.vK xs))(r:DP K ρ H ys ws):Ext ρ ρ H (upd H a<|.ext<|uB a ws)/\Rel K ρ (upd H a<|.ext<|uB a ws) (S.set n<|.vK ys):=by
 obtain⟨vs,e,_⟩:=R.at n a _ ha hS;have ex:Ext ρ ρ H (upd H a<|.ext<|uB a ws):=⟨⟨dP _,λb u i h=>by
  have:b≠a:=by
   intro z;subst z;rw[e]at h;cases h;exact i
  rw[jL this];exact h⟩,λb u h n=>by
  rw[jL λz=>n<|by rw[z];exact bq ha];exact h,λ_ h=>.inl h⟩
 refine⟨ex,by rw[cu];exact R.len,R.nd,λm b o h1 h2=>?_⟩;by_cases f:m=n
 ·subst f;rw[ha]at h1;cases h1;rw[bJ (aI.mp hS).1]at h2
  cases h2
  exact⟨ws,ko,r.ext ex⟩
 ·rw[bO<|cK f]at h2;have nb:b≠a:=λz=>by
   subst z;obtain⟨k,e1⟩:=aI.mp ha;obtain⟨p,e2⟩:=aI.mp h1;exact f<|(dw R.nd).mp<|e2.trans e1.symm
  have:=R.at m b o h1 h2
  cases o with
  | lst ys=>obtain⟨c,d,q⟩:=this;exact⟨c,by rw[jL nb];exact d,q.ext ex⟩
  | dct _|qG _|dks _|vK _=>obtain⟨c,d,q⟩:=this;exact⟨c,by rw[jL nb];exact d,q.ext ex⟩
  | dcf _=>obtain⟨g,c,d,q⟩:=this;exact⟨g,c,by rw[jL nb];exact d,q.ext ex⟩
  | ins _ _=>obtain⟨g,j,d⟩:=this;exact⟨g,j,by rw[jL nb];exact d⟩
def ID{x:A}{v:V}{k:m9}(a:AV K ρ H x v)(h:Ea x=some k):∃b,v=.ref b/\sQ H b k:=by
 unfold Ea at h;split at h
 ·rename_i xs ys;obtain⟨ns,h1,h⟩:=bX.mp h;obtain⟨t,h2,e⟩:=aW.mp h;subst e
  cases a with
  | @tup b _ vs c r=>
   obtain⟨q,B,rfl,p,j⟩:=Qf r
   cases p with
   | @tup c1 _ d m r1=>
    cases j with
    | @tup c2 _ g f r2=>
     have e1:=rH r1 h1;have e2:=rH r2 h2;subst e1 e2;exact⟨b,rfl,c1,c2,c,m,f⟩
 ·cases h
end
section
variable {X:Cx}{pos:Pos}{a:aC}
abbrev E9 (o i v:A)(S:jF):R Unit:=match o with
 | .ref n=>opt (oY S n) λc=>opt (Ea i) λk=>gd (c.length<sizeLine) (.ok Unit.unit<|S.set n<|.vK<|yp c k v)
 | _=>.no
abbrev ab3 (X:Cx):Hh:=λo i v H Q=>∃ρ S d c e,Rel X.K ρ H S/\AV X.K ρ H d o/\AV X.K ρ H c i/\AV X.K ρ H e v/\(E9 d c e S).post (λ_ f=>∀ρ' H',Ext ρ ρ' H H'->Rel X.K ρ' H' f->Q H') (XE X ρ H)
def Rx(hu:X.A.units+64<cLine):F4 X (ab3 X):=λpins s σ H o i v f iv u Q I B t m h9=>by
 obtain⟨ρ,S,M,L,J,R,h1,h2,h3,h⟩:=h9
 cases h1 with
 | @ref p n hp=>
  obtain⟨G,hn,h⟩:=jP h;obtain⟨k,g,h⟩:=jP h;obtain⟨F,h⟩:=j5 h;obtain⟨ks,e,d⟩:=R.vK hp<|pQ hn;obtain⟨q,rfl,c⟩:=ID h2 g;refine Yo (by omega) pins s σ H _ _ v f iv u Q I B t m ⟨p,q,ks,k,rfl,rfl,⟨e,d.keys,c⟩,by rw[<- d.length];exact F,λK C=>?_⟩;obtain⟨ex,j⟩:=R.yp hp (pQ hn)<|d.put h3 C k c;exact h _ _ ex j
 | _=>exact h.elim
abbrev Um (co ci:Ex):Tg:=λa τ S=>(co τ S).bind λo S1=>(ci τ S1).bind λi S2=>(E9 o i a S2).bind λ_ S3=>.ok τ S3
def JS(hu:X.A.units+64<cLine){co ci:Ex}(ho:AE X o co)(hi:AE X i ci)
  (ha:(∀v,assign (.Subscript o i pos) X.env v=(do
   let ov <- holding [v] (eval o X.env)
   let iv <- holding [v,ov] (eval i X.env)
   standAt pos
   holding [v,ov,iv] (setItem ov iv v)
   release [v,ov,iv] []))<|>ζ):AG X (.Subscript o i pos) (Um co ci):=PG.imp (D6 ho hi (Rx hu) ha) λv σ H Q h9=>by
 obtain⟨ρ,S,τ,a,R,r,va,h⟩:=h9;fin2;kd_p;ksr_p
abbrev GV:Ex:=λ_ S=>.ok (.ref S.length)<|S++[.vK []]
def N3:AE X (.Dict [] [] pos) GV:=PE.imp Pf λσ H Q ⟨ρ,S,τ,R,r,h⟩ p hp=>by
 obtain⟨ex,d,c⟩:=R.acw hp;exact h _ _ _ ex d<|.ref c
end
abbrev Hf {α:Type}(x:ag×α):List (ag×α)->List (ag×α)
 | []=>[x]
 | y::ys=>if HT.lexLt y.1 x.1=true then y::Hf x ys else x::y::ys
abbrev zy {α:Type}:List (ag×α)->List (ag×α)
 | []=>[]
 | x::xs=>Hf x<|zy xs
section
variable {α:Type}
theorem BH(x:ag×α):∀ys:List<|ag×α,(Hf x ys).Perm (x::ys)
 | []=>dW _
 | y::ys=>by
  unfold Hf;by_cases h:HT.lexLt y.1 x.1=true
  ·rw[aS h];exact((BH x ys).cons y).trans (List.Perm.swap x y ys)
  ·rw[aQ h]
theorem wB:∀xs:List<|ag×α,(zy xs).Perm xs
 | []=>dW _
 | x::xs=>(BH x<|zy xs).trans<|(wB xs).cons x
theorem Ge(x:ag×α):∀ys:List<|ag×α,(Hf x ys).map Prod.fst=Cw x.1 (ys.map Prod.fst)
 | []=>rfl
 | y::ys=>by
  unfold Hf;rw[bh];unfold Cw;by_cases h:HT.lexLt y.1 x.1=true
  ·rw[aS h,aS h,bh,Ge]
  ·rw[aQ h,aQ h];rfl
theorem BL:∀xs:List<|ag×α,(zy xs).map Prod.fst=mO (xs.map Prod.fst)
 | []=>rfl
 | x::xs=>by
  show(Hf x<|zy xs).map Prod.fst=Cw x.1 (mO<|xs.map Prod.fst);rw[Ge,BL]
theorem C1:∀{l:List<|ag×α},(l.map Prod.fst).Nodup->∀a∈l,∀b∈l,a.1=b.1->a=b
 | [],_,_,h,_,_,_=>nomatch h
 | x::l,nd,a,ha,b,hb,e=>by
  obtain⟨h1,h2⟩:=bQ.mp nd
  rcases bg.mp ha with g|d
  ·rcases bg.mp hb with f|c
   ·rw[g,f]
   ·subst g;exact absurd (e ▸ eO c) h1
  ·rcases bg.mp hb with f|c
   ·subst f;exact absurd (e ▸ eO d) h1
   ·exact C1 h2 a d b c e
def Hu{xs ys:List<|ag×α}(nd:(ys.map Prod.fst).Nodup)(p:xs.Perm ys)(h:(xs.map Prod.fst).Pairwise CL):xs=zy ys:=by
 refine eG (le:=λ(a b:ag×α)=>CL a.1 b.1) (λ(a b:ag×α) ha hb h1 h2=>C1 nd a (p.mem_iff.mp ha) b ((wB ys).mem_iff.mp hb) (Sx.w4 (show HT.lexLt b.1 a.1=false from h1)<|show HT.lexLt a.1 b.1=false from h2).symm) ?_ ?_ (p.trans (wB ys).symm)
 ·exact cT.mp h
 ·have:=uy<|ys.map Prod.fst;rw[<- BL]at this;exact cT.mp this
end
section
variable {X:Cx}
abbrev ZA (kss:List<|ag):Bool:=kss.all (λks=>!ks.isEmpty) && decide (kss.length<64)
def Wu{kss:List<|ag}(h:∀k∈kss,k≠[])(h2:kss.length<64):ZA kss=true:=by
 unfold ZA;rw[aY h2,Bool.and_true];exact eU.mpr λk c=>by
  cases k with
  | nil=>exact absurd rfl (h _ c)
  | cons _ _=>rfl
def Rz{H:Hp}{S:jF}{kvs:List<|ag×A}{ks:List<|List Key×V}{Q:VK}(R:Rel X.K ρ H S)(dv:DV X.K ρ H kvs ks)(h:(gd (ZA (kvs.map Prod.fst)=true)<|Am.R.ok (A.ref S.length)<|S++[O.lst<|(mO<|kvs.map Prod.fst).map λks=>.tup<|ks.map .int]).post (z0 X ρ H Q)<|XE X ρ H) :
  ks.map (λp=>p.1)=(kvs.map Prod.fst).map (λks=>ks.map Sum.inl)/\(∀k∈kvs.map Prod.fst,k≠[])/\Sx.RO (kvs.map Prod.fst).length /\
  ∀(rs:bb) l g,rs.length=(kvs.map Prod.fst).length->(∀(i:Nat) (r:ak) (ks:ag),rs[i]?=some r->(kvs.map Prod.fst)[i]?=some ks->H r=some (.tup<|ks.map V.int))->H l=none->Sx.Cl g 0 (kvs.map Prod.fst).length->Sx.So (Sx.KP<|kvs.map Prod.fst) g 0 (kvs.map Prod.fst).length ->
   Q (.ref l) (upd H l<|.lst<|((List.range (kvs.map Prod.fst).length).map λi=>rs.getD (g i) 0).map V.ref):=by
 obtain⟨c,h⟩:=j5 h;unfold ZA at c;rw[dz]at c;refine⟨Jc dv,λk j z=>?_,Sx.aaA<|bK c.2,λrs l g q e d hc hs=>?_⟩
 ·have:=eU.mp c.1 k j;rw[z]at this
  cases this
 have f:AVs X.K ρ H ((mO<|kvs.map Prod.fst).map λks=>.tup<|ks.map .int) (((List.range (kvs.map Prod.fst).length).map λi=>rs.getD (g i) 0).map V.ref):=by
  rw[<- XW hc hs,bD,bD];refine G5 λi m=>?_;have lt:=(hc i (bM _)<|c5.mp m).2;have e1:rs[g i]?=some (rs.getD (g i) 0):=by rw[aJ,aF ()];rfl
  have e2:(kvs.map Prod.fst)[g i]?=some ((kvs.map Prod.fst).getD (g i) []):=by rw[aJ,aF lt];rfl
  exact .tup (e _ _ _ e1 e2)<|qS _
 exact qx R f .refl h l d
abbrev zb (x:A)(S:jF):R A:=match x with
 | .ref n=>opt (ku S n) λc=>gd (ZA (c.map Prod.fst)=true) (.ok (.ref S.length)<|S++[.lst<|(mO<|c.map Prod.fst).map λks=>.tup<|ks.map .int])
 | _=>.no
def Oq(hc:X.calm=true):kO X (.builtin "sorted") (rN X<|f1 zb):=kO.imp (DT hc) λvs H Q h0=>by
 kpf_c;clear h0
 cases hv with
 | ref hp=>
  rename_i p n;obtain⟨e,hn,h⟩:=jP h;obtain⟨ks,f,g⟩:=R.dct hp<|nJ hn;obtain⟨a,b,c,d⟩:=Rz R g h;exact⟨p,ks,e.map Prod.fst,rfl,f,a,b,c,d⟩
 | _=>exact h.elim
abbrev wY (x:A)(S:jF):R A:=match x with
 | .ref n=>opt (mz S n) λc=>gd (c.length<64) (.ok (.ref S.length)<|S++[.lst<|(sortI<|c.map Prod.fst).map .int])
 | _=>.no
def Qk(hc:X.calm=true):kO X (.builtin "sorted") (rN X<|f1 wY):=kO.imp (DG hc) λvs H Q h0=>by
 kpf_c;clear h0
 cases hv with
 | ref hp=>
  rename_i p n;obtain⟨c,hn,h⟩:=jP h;obtain⟨e,h⟩:=j5 h;obtain⟨ks,f,k⟩:=R.qG hp<|qw hn;refine⟨p,ks,c.map Prod.fst,rfl,f,by rw[k.keys,bD];rfl,Sx.aaA<|by rw[aG];exact e,λl g d hc hs=>?_⟩;have j:AVs X.K ρ H ((sortI<|c.map Prod.fst).map .int) ((List.range (c.map Prod.fst).length).map λi=>V.int<|(c.map Prod.fst).getD (g i) 0):=by
   rw[<- Tj hc hs,bD];exact G5 λi _=>.int _
  exact qx R j .refl h l d
 | _=>exact h.elim
end
end Am
namespace L2
open PySem PySem.Spec PyProof.Rows
section
variable {X:Cx}{o e:aC}{es:List aC}{to:TE}{t:TA}{name:Str}{apos cpos:Pos}{T id:String}{r:V->List V->Hp->VK->Prop}
abbrev tBG (ty:V->Hp->Prop)(r:V->List V->Hp->VK->Prop)(to:TE)(t:TA):TE:=λσ H Q=>to σ H λx H1=>ty x H1/\t σ H1 λxs H2=>r x xs H2 Q
def Zp{ty:V->Hp->Prop}(hT:∀{pins:bo}{σ:St}{H:Hp}{s:aA}{x:V}{v:af},Inv X pins σ H s->RelV x v->ty x H->s.TypeIs v T/\∀a,v=.ref a->∃ob,s.heap.get? a=some ob/\ob.dict=none)
  (pa:PlainAttrs T) (slot:Slot T name id) (hty:typeOf (.builtin id)=pure (.type "method_descriptor")) (hm:Ed X id r) (ho:PE X o to) (ha:PA X (e::es) t)
  (hbase:attributeBase o name X.env (eval o X.env)=eval o X.env<|>ε)
  (hfew:(((backTo cpos<|starEach (e::es) X.env).all (λx=>!x.1) && (backToKw cpos<|keywordEach [] X.env).all (λx=>x.1.isSome)
   && decide ((e::es).length+([]:List Keyword).length+(if ([]:List Keyword).isEmpty then 0 else 1)<30))=true)<|>ε)
  (hline:(apos.endLine == cpos.line)=true<|>ε) (hs:starEach (e::es) X.env=(false,eval e X.env)::starEach es X.env<|>ε) (hplain:((backTo cpos<|starEach es X.env).any (·.1)=false)<|>ε) :
  PE X (.Call (.Attribute o name apos) (e::es) [] cpos) (tBG ty r to t):=by
 kt_k;refine wpAny_Call_method_late hbase hfew hline rfl<|nc (ho pins s σ H _ I h) λv k h9=>?_;obtain⟨x,H1,I1,r1,c,f⟩:=h9;obtain⟨h1,h2⟩:=hT I1 r1 c;refine⟨T,id,pa,slot,hty,h1,h2,?_⟩;have d:=ha cpos pins k σ H1 _ I1 f;rw[hs]at d ⊢;refine gP (by show(false || (backTo cpos<|starEach es X.env).any (·.1))=false;rw[hplain]<;>rfl)<|iF ?_;refine nc d λus m h9=>?_;obtain⟨vs,H2,j,r2,g⟩:=h9;exact hm pins m σ H2 x vs v us Q j r1 r2 g
abbrev tyP (x:V)(H:Hp):Prop:=∃a xs,x=.ref a/\H a=some (.ext<|uB a xs)
def WX{H:Hp}{s:aA}{x:V}{v:af}(I:Inv X pins σ H s)(r:RelV x v)(h:tyP x H):s.TypeIs v "dict" /\ ∀a,v=.ref a->∃ob,s.heap.get? a=some ob/\ob.dict=none:=by
 obtain⟨a,xs,rfl,e⟩:=h
 cases r
 obtain⟨⟨h1,h2,o,es,ep,h3,c,_⟩,_⟩:=(show kW _ _ H s.heap a (.ext<|uB a xs)from I.hok a _ e);exact⟨⟨o,h3,c.1⟩,λb z=>by cases z;exact⟨o,h3,c.2.1⟩⟩
def Z_(hu:X.A.units+32<cLine):Ed X "dict.get" (λx as H Q=>∃a b xs k y,x=.ref a/\as=[.ref b,y]/\DPg H a b xs k/\(∀p,atKey xs k=some p->∃v,RelV v p.2/\Q v H)/\(atKey xs k=none->Q y H)):=by
 intro pins s σ H x as v us Q I rx B h;obtain⟨a,b,xs,k,y,rfl,rfl,g,j,m⟩:=h
 cases rx
 obtain⟨c,f,rfl,r1,r2⟩:=vals2 B
 cases(show c=Value.ref b from r1)
 obtain⟨h1,h2,dd⟩:=Ve I g.d g.ks;refine jk cC dd.typeIs fh (eT _ _ _) (gI (AJ X.prog X.w) a b h1 f) ⟨show X.A.in1.units+16<cLine by simp;lia,k,xs,C8 I g.k,dd,?_⟩
 cases e:atKey xs k with
 | none=>exact⟨y,H,I.tok _,r2,m e⟩
 | some p=>
  obtain⟨z,t,q⟩:=j p e;exact⟨z,H,I.tok _,t,q⟩
end
end L2
namespace Am
open PySem PySem.Spec PyProof.Rows L2
section
variable {X:Cx}
abbrev dq? (a:A)(S:jF):Option Unit:=match a with
 | .ref n=>(oY S n).map λ_=>Unit.unit
 | _=>none
abbrev Xq (f:A->ae->jF->R A)(co:Ex)(d:qC):Ex:=λτ S=>(co τ S).bind λx S1=>opt (dq? x S1) λ_=>(d τ S1).bind λas S2=>f x as S2
def UA{f:A->ae->jF->R A}{co:Ex}{d:qC}:Xq f co d τ S=(co τ S).bind λx S1=>opt (dq? x S1) λ_=>(d τ S1).bind λas S2=>f x as S2:=rfl
def dq?_ty{K:au}{H:Hp}{x:A}{v:V}(R:Rel K ρ H S)(a:AV K ρ H x v)(e:dq? x S=some u):tyP v H:=by
 cases a with
 | @ref p n h=>
  obtain⟨xs,c,_⟩:=aW.mp e;obtain⟨vs,h1,_⟩:=R.vK h<|pQ c;exact⟨p,vs,rfl,h1⟩
 | _=>cases e
abbrev Ck (o:A)(as:ae)(S:jF):R A:=match o,as with
 | .ref n,[x,y]=>opt (oY S n) λc=>opt (Ea x) λk=>.ok ((pN c k).getD y) S
 | _,_=>.no
def Gp{x:A}{P:A->jF->Prop}{E:Str->jF->Prop}(h:(Ck x as S).post P E):∃n w y kvs k,x=.ref n/\as=[w,y]/\oY S n=some kvs/\Ea w=some k/\P ((pN kvs k).getD y) S:=by
 unfold Ck at h;split at h
 ·obtain⟨kvs,h1,h⟩:=jP h;obtain⟨k,h2,h⟩:=jP h;exact⟨_,_,_,kvs,k,rfl,rfl,h1,h2,h⟩
 ·exact h.elim
def Wb(hu:X.A.units+64<cLine):Ed X "dict.get" (rM X Ck):=λpins s σ H x vs v us Q I rx G h9=>by
 kpc_g;obtain⟨n,w,y,c,k,m,has,hn,t,hP⟩:=Gp h;subst m has;obtain⟨M,K,rfl,j,L⟩:=Qf va
 cases vo with
 | @ref p _ hp=>
  obtain⟨ks,e,d⟩:=R.vK hp<|pQ hn;obtain⟨q,rfl,F⟩:=ID j t;obtain⟨f,B⟩:=d.look k;refine Z_ () pins s σ H _ _ v us Q I rx G ⟨p,q,ks,k,K,rfl,rfl,⟨e,d.keys,F⟩,λN e2=>?_,λe2=>?_⟩
  ·cases e1:pN c k with
   | none=>rw[e1,e2]at f;cases f
   | some g=>
    obtain⟨p2,v2,e3,C,J⟩:=B g e1;rw[e2]at e3
    cases e3
    rw[e1]at hP;exact⟨v2,C,hP _ _ _ .refl R J⟩
  ·cases e1:pN c k with
   | none=>rw[e1]at hP;exact hP _ _ _ .refl R L
   | some g=>rw[e1,e2]at f;cases f
def Wl{e:aC}{id:String}{apos cpos:Pos}{f:A->ae->jF->R A}{co:Ex}{d:qC}(slot:Slot "dict" name id)(hty:typeOf (.builtin id)=pure (.type "method_descriptor"))(hm:Ed X id<|rM X f)(ho:AE X o co)(ha:AL X (e::es) d)
  (hbase:attributeBase o name X.env (eval o X.env)=eval o X.env<|>ε)
  (hfew:(((backTo cpos<|starEach (e::es) X.env).all (λx=>!x.1) && (backToKw cpos<|keywordEach [] X.env).all (λx=>x.1.isSome)
   && decide ((e::es).length+([]:List Keyword).length+(if ([]:List Keyword).isEmpty then 0 else 1)<30))=true)<|>ε)
  (hline:(apos.endLine == cpos.line)=true<|>ε) (hs:starEach (e::es) X.env=(false,eval e X.env)::starEach es X.env<|>ε) (hplain:((backTo cpos<|starEach es X.env).any (·.1)=false)<|>ε) :
  AE X (.Call (.Attribute o name apos) (e::es) [] cpos) (Xq f co d):=PE.imp (Zp WX gJ slot hty hm ho ha hbase hfew hline hs hplain) λσ H Q h9=>by
 z_go;kcf_m;obtain⟨xs,c,h1⟩:=jP h1;refine⟨dq?_ty R1 v1 c,ρ1,S1,τ,R1,r.ext e1,jJ (jQ h1) e1 λas S2 h2 ρ2 H2 vs e2 R2 v2=>?_⟩;kcj_m
end
abbrev Cj (o:A)(as:ae)(S:jF):R A:=match o,as with
 | .ref n,[.tup ys]=>opt (jE S n) λxs=>opt (Yh xs) λc=>opt (A.ints ys) λks=>opt (c.findIdx? λz=>decide<|z=ks) λk=>.ok (.int (k:Nat)) S
 | _,_=>.no
theorem Fy:∀{a b:ag},a.map V.int=b.map V.int->a=b
 | [],[],_=>rfl
 | [],_::_,e=>by simp at e
 | _::_,[],e=>by simp at e
 | x::xs,y::ys,e=>by
  rw[bh,bh]at e
  injection e with e1 e2
  injection e1 with e1
  rw[e1,Fy e2]
def Xa(xs ys:ag):oX S 12 (.tup<|xs.map .int) (.tup<|ys.map .int)=some (decide<|xs=ys):=by
 show pR (oX S 11) (xs.map .int) (ys.map .int)=_;rw[qH]
def G0{K:au}{H:Hp}{a:ak}{l m:ag}(h:AV K ρ H (.tup<|l.map .int)<|.ref a)(h':AV K ρ H (.tup<|m.map .int)<|.ref a):l=m:=by
 cases h with
 | tup h r=>
  cases h' with
  | tup h2 r2=>
   rw[h]at h2
   cases h2
   exact Fy<|(rH r<|ints_map _).symm.trans<|rH r2<|ints_map _
section
variable {X:Cx}
open Classical in
def YB(hu:X.A.units+64<cLine):Ed X "list.index" (rM X Cj):=λpins s σ H x vs v us Q I rx C h9=>by
 kpc_g
 cases vo with
 | @ref p n hp=>
  match as,va,h with
  | [],_,h=>exact h.elim
  | y::_::_,_,h=>exact(by cases y<;>exact h.elim)
  | [y],va,h=>
   obtain⟨w,rfl,hw⟩:=Hx va
   cases hw with
   | @tup b ys bs Z rb=>
    kj_on;obtain⟨B,ht,h⟩:=jP h;obtain⟨ks,hi,h⟩:=jP h;obtain⟨k,Y,h⟩:=jP h;obtain⟨ws,h1,r⟩:=R.lst hp<|jS hn;obtain⟨W,rfl,hl,hh⟩:=UN r ht;have eb:=rH rb hi;subst eb;have ab:AV X.K ρ H (.tup<|ks.map .int) (.ref b):=.tup Z (qS _)
    cases rx
    obtain⟨u,rfl,ru⟩:=C.one;obtain⟨d,C,pl,G⟩:=I.list<|pS.of h1;obtain⟨⟨cls,dd,data,sl⟩,V,hc,nn,U⟩:=id pl.isList;simp only at hc U;subst hc U;rw[d8]at Y;obtain⟨M,N,P⟩:=Y;have lx:=C.length;rw[aG]at lx G;have g:∀(m:Nat) (j:m<d.toArray.size) (t:m<B.length),∃a:ak,d.toArray[m]=.ref a/\AV X.K ρ H (.tup<|B[m].map .int) (.ref a):=λm j t=>by
     have T:m<W.length:=()
     obtain⟨uz,J,L⟩:=C.get (i:=m) (x:=.ref W[m]) (by rw[aV,aF T];rfl);have e1:d.toArray[m]=uz:=by
      obtain⟨_,e⟩:=aI.mp J;simpa using e
     cases L
     exact⟨_,e1,(hh m _ _ (aF T)<|aF t).2.2⟩
    have:=uS;have q:k<d.toArray.size:=by simp;lia
    have val:∀{a:ak} {l:ag},AV X.K ρ H (.tup<|l.map .int) (.ref a)->decide (AV X.K ρ H (.tup<|ks.map .int)<|.ref a)=decide (l=ks):=λ{a l} hf=>by
     by_cases c:l=ks
     ·rw[aY c];exact aY (c ▸ hf)
     ·rw[bw c,bw λz=>c<|G0 hf z]
    refine fL F.slot_list_index ⟨_,V,rfl⟩ F.entry_list_index (F.args_list_index_2 _ _) (SeqAt.list_indexAt p d.toArray nn dd sl u (λw=>match w with | .ref a=>decide (AV X.K ρ H (.tup<|ks.map .int)<|.ref a)|_=>false) k q () ?_ ?_) ⟨V,λz hz=>?_,.int k,H,I.tok _,⟨_,rfl⟩,h _ _ _ .refl R<|.int _⟩
    ·obtain⟨a,e,f⟩:=g k q M;rw[e];exact(val f).trans N
    ·intro m j O;obtain⟨a,e,f⟩:=g m j ();rw[e];refine(val f).trans ?_;have:=P m O;simpa using this
    ·obtain⟨m,j,e⟩:=Array.mem_iff_getElem.mp hz;subst e;obtain⟨a,e,f⟩:=g m j (by simp at j;lia);rw[e];show SeqAt.EqAt _ _ _ _ (decide<|AV X.K ρ H (.tup<|ks.map .int)<|.ref a);rw[val f];exact(Ce I R 12 X.A.in1 _ _ (.ref a) (.ref b) (.ref a) u _ (by rw[in1_units];lia) f ab rfl ru<|Xa _ _).2.1
   | _=>exact h.elim
 | _=>exact h.elim
end
section
variable {X:Cx}
abbrev CM (o:A)(as:ae)(S:jF):R A:=match o,as with
 | .ref n,[]=>opt (jE S n) λxs=>.ok .non (S.set n<|.lst [])
 | _,_=>.no
def TQ:Ed X "list.clear" (rM X CM):=λpins s σ H x vs v us Q I rx f h9=>by
 kpc_g
 cases vo with
 | @ref p n hp=>
  match as,va,h with
  | _::_,_,h=>exact h.elim
  | [],va,h=>
   cases va
   kj_on;obtain⟨g,h1,r⟩:=R.lst hp<|jS hn;obtain⟨ex,d⟩:=R.put hp (jS hn) .nil
   cases rx
   cases f
   obtain⟨q,c,k,j,m,e⟩:=I.Ey h1;refine fL F.slot_list_clear ⟨_,e,rfl⟩ F.entry_list_clear (F.args_list_clear_1 _) (AutoSeq1.list_clear_list_0 p c.toArray k<|by rw[aZ];lia) ⟨e,?_⟩;exact⟨.non,_,I.Ul (its':=[]) h1 e rfl .nil<|by simp,rfl,h _ _ _ ex d .non⟩
 | _=>exact h.elim
end
end Am
namespace L2
open PySem PySem.Spec PyProof.Rows
section
variable {prog:aj}{w:ah}{A:az}{E:af->aA->Prop}{s:aA}{e:ak}{oe:Obj}{vs:Array af}
def F2{x left step:Int}{Q:bd->aA->Prop}(hh:A.handled=some (.ref e))(he:s.heap.get? e=some oe)(hd:oe.data=.fields vs)(h2:vs[2]?=some .none)(hit:IsRangeIter s.heap it x left step)(hleft:left<=0)
  (hQ:∀h',Heap.ExtBut it s.heap h'->Q none { s with heap:=h' }):wpAny (model prog w) A (pyNext<|.ref it) Q E s:=by
 have f:s.TypeIs (.ref it) "range_iterator" := ⟨_,hit,rfl⟩;unfold pyNext;refine aH<|gh<|dG (name:=Str.ofString "__next__") f h_<|cW h_ f PySem.F.entry_range_iterator_next ?_<|PySem.F.args_range_iterator_next_1 _;show wpAny _ _ (field (.ref it) 0 >>= _) _ _ s;refine aH<|eV hit rfl (x:=rawInt x) rfl ?_;show wpAny _ _ (field (.ref it) 1 >>= _) _ _ s;refine aH<|eV hit rfl (x:=rawInt left) rfl ?_;show wpAny _ _ (field (.ref it) 2 >>= _) _ _ s;refine aH<|eV hit rfl (x:=rawInt step) rfl ?_;show wpAny _ _ (if left<=0 then _ else _) _ _ s;rw[aS hleft];refine aH<|gD ?_;refine aH ?_;show wpAny _ _ (newExc (.type "StopIteration") [] >>= _) _ _ _;refine aH ?_;dsimp[newExc,newTuple];refine aH (cR ?_<|by size_fits);refine aH (m:=firstArgMember _ _) (wpAny_of_eq (a:=Value.none) (by first|rfl|(dsimp[firstArgMember];rfl)) ?_);refine cR ?_ (by size_fits);have c:∀(g:Obj),e≠(s.heap.push g).objs.size:=λg=>bA<|a_<|aR _ he;refine GL (A:=A.in1) hh (aR _<|aR _ he) hd h2 (bu _ rfl) rfl (by simp[ownMembersOf]) (c _) ?_;refine aH<|fS (T := "StopIteration") (b:=true) ⟨_,dY _ (bu _ rfl)<|fB<|dS rfl _,iY ..⟩ isSubtype_stop ?_;refine aP<|hQ _ λb o' j q=>?_;have d:=aR { cls:=Value.type "tuple",data:=Data.seq #[]} q;rw[eY _ _<|cK<|bA<|a_ d];exact aR _ d
end
def Fi{P:aj}{w:ah}{K:au}{e:ak}(ho:XO C oe)(it:ak)(lo:Int)(n:Nat):TurnG (HX e oe) P w K tg (Y9 lo n) [it] it (λi h=>IsRangeIter h it (lo+(i:Nat) * 1) ((n:Int)-(i:Nat)) 1) where
 obj:=(wk (P:=P) (w:=w) (K:=K) (tg:=tg) it lo n).obj
 keep:=(wk (P:=P) (w:=w) (K:=K) (tg:=tg) it lo n).keep
 item:=by
  x_go;subst hP hw hK;have hg:i<n:=hg;k_ne;refine wpAny_pyNext_range_item st () λh' d f=>?_;have e1:lo+((i+1:Nat):Int) * 1=lo+(i:Int) * 1+1:=()
  have e2:(n:Int)-((i+1:Nat):Int)=(n:Int)-(i:Int)-1:=()
  have st2:IsRangeIter h' it (lo+((i+1:Nat):Int) * 1) ((n:Int)-((i+1:Nat):Int)) 1:=by rw[e1,e2];exact d
  have I1:Inv X pins σ H { s with heap:=h',toks:=s.toks+1 }:=I.turned (λb o c e=>f.extBut b o (by simpa using c) e) f0 f1 f3 f4 f5;refine⟨_,rfl,El (s:={ s with heap:=h',toks:=s.toks+1 }) (n := "range_iterator") st2 rfl rfl ⋯ ⟨.int<|lo+i,H,I1,⟨s.toks,?_⟩,⟨rfl,rfl⟩,st2,λb c=>(hf b c).1⟩⟩;rw[mul_one]
 done:=by
  x_go;subst hP hw hK;k_ne;obtain⟨vs,m,g⟩:=ho.ctx;have j:=I.base.frzs e oe xu hc.2;obtain⟨ge,_⟩:=I.hok e _ j;exact F2 hc.1 ge m g st (by have:n<=i:=hg;lia) λh' k=>⟨rfl,I.turned (t':=s.toks) (λb o c e=>k b o c e) f0 f1 f3 f4 f5⟩
 self:=λ_ _ _ _ _ st h=>wpAny_pyIter_rangeiter st h
def Li{X:Cx}{e:ak}(ho:XO C oe){a:aC}{ta:TA}{p:Pos}(hg:Gl X "range")(hm:X.mg "range" = none)(ha:PA X [a] ta)(hs:starEach [a] X.env=[(false,eval a X.env)]<|>ε):YW (HX e oe) X tg (.Call (.Name "range" p) [a] [] pos) (qk ta):=by
 intro pins s σ H R I h;refine Call_<|uv I hg hm boot_range<|cP (nc (ha pos pins s σ H _ I h) λus k h9=>?_) hs rfl;obtain⟨vs,H1,I1,r1,c⟩:=h9;obtain⟨j,e,c,f,q⟩:=c;subst e
 cases r1 with
 | cons r g=>
  cases g
  obtain⟨t,rfl⟩:=r;refine call_range_1<|wpAny_pyIter_range (IsRange.new ..) (small_one () () c f) ?_;refine⟨_,[_],_,_,H1,rfl,(I1.kept (t':=_) λb o e=>aR _<|aR _ e),Fi ho _ 0 j.toNat,?_,λb d=>?_,q⟩
  ·have e1:(0:Int)+((0:Nat):Int) * 1=0:=by simp
   have e2:((j.toNat:Nat):Int)-((0:Nat):Int)=Builtin.Range.rangeSize 0 j 1:=by rw[rangeSize_one];split<;>lia
   show IsRangeIter _ _ ((0:Int)+((0:Nat):Int) * 1) (((j.toNat:Nat):Int)-((0:Nat):Int)) 1;rw[e1,e2];exact bu _ rfl
  ·have e:=aM.mp d;subst e;exact I1.Bk (by rw[c6];lia)<|I1.hok.fresh<|by rw[c6];lia
def Lr{ok:Cx->Prop}{X:Cx}{i:Nat}{spos:Pos}{iter:aC}{N:ar}{wi:TI}{g:TG}{tc:TT}{te:TE}
  (hN:X.N.Nodup) (hi':X.N[i]?=some y) (hx:Loc X.env.scope y) (S:CpScope X scope N cap) (hok:∀C s₀ H₀ ex,(∀a o u,X.H₀ a=some (.frz o u)->H₀ a=some (.frz o u))->ok (nq X scope N C s₀ H₀ ex)) (hi:YW ok X tg iter wi)
  (hg:∀C s₀ H₀ ex,PG (nq X scope N C s₀ H₀ ex) tg g) (ht:∀C s₀ H₀ ex,Vk (nq X scope N C s₀ H₀ ex) ifs tc) (he:∀C s₀ H₀ ex,PE (nq X scope N C s₀ H₀ ex) elt te)
  (hsw:swapsWith (.ListComp elt [⟨tg,iter,ifs,0⟩] scope pos) (some<|.Name y py) spos.line X.env=pure true)
  (hf:X.fn y=true\/X.env.scope.names.lookup y=some .local) (hs:(∀x,foldedSetIterable iter X.env x=pure x)<|>ζ) :
  PS X (.Assign [.Name y py] (.ListComp elt [⟨tg,iter,ifs,0⟩] scope pos) spos) (Og (Zf cap wi g tc te)<|Jq i):=by
 kst_p;rw[exec_Assign_Name_used _ _ _ _ hsw];refine aH<|i_<|aH ?_;show wpAny _ X.A (do let _ <- comprehension (.ListComp elt [⟨tg,iter,ifs,0⟩] scope pos) scope X.env (firstIterPos [⟨tg,iter,ifs,0⟩] pos) (newList []) (firstAsync [⟨tg,iter,ifs,0⟩]) (firstIter [⟨tg,iter,ifs,0⟩] X.env) (some<|assign (.Name y py) X.env)) _ _ s;refine aH<|cZ (Ct (ok:=ok) (Q':=λ_ s'=>SP X pins D .next s') S hok hi hg ht he hs pins s σ H _ I h ?_) (λ_ s' P=>aP<|aP P) λ_ _ e=>e;intro t C F T m hn k inv q v;have M:=inv t.heap<|Heap.SameBut.refl _ _;obtain⟨L,j⟩:∃o,t.heap.get? C=some o/\∀v,o.data≠.cell v:=by
  obtain⟨o,es,ep,e,d,_⟩:=hn;exact⟨o,e,λv z=>by rw[d]at z;cases z⟩
 have O:=M.pinned (fp:=[C]) (λb f=>by rw[aM]at f;rw[f];exact k) (λb f=>by rw[aM]at f;rw[f];exact⟨L,j⟩);show wpAny _ X.A (assign (.Name y py) X.env<|.ref F) _ _ t;refine nc (Dq hN hi' hx hf _ t σ T (.ref F) (.ref F) _ O rfl q) λ_ V h9=>?_;obtain⟨G,K,B,U⟩:=h9;have hp:=B.pin (C,L)<|bP _<|bP _<|pF (aM.mpr rfl) j.1;refine⟨m,hn.at' λo e=>by rw[j.1]at e;cases e;exact hp.1,λh' p=>?_⟩;have J:∀c v,K c=some v->c≠C:=λc v e z=>by rw[z,hp.2.1]at e;cases e
 refine⟨G,K,?_,U⟩;refine B.sM.Rf (ch:=[C]) rfl ⟨λb o e n f hx=>?_,λb o e n f hx=>?_,λb o e n hx=>n,λb o e hx=>?_,λ_ _ e=>e,λ_ _ _ e=>e,λ_ _ e=>⟨#[],by rw[Array.append_empty];exact e⟩⟩ ?_ B.bare ?_
 ·exact p.extBut b o (by simpa using hx) e
 ·exact⟨o.slots,p.extBut b o (by simpa using hx) e⟩
 ·exact⟨o,p.extBut b o (by simpa using hx) e⟩
 ·intro b o e;refine(B.hok b o e).stay (λc v hc q=>p.extBut c v ?_ q) (λ_ q=>q) λ_ _ q=>q
  rcases hc with z|z
  ·rw[z];exact J b o e
  ·exact J c _ z
 ·intro b f;rw[aM]at f;rw[f];exact⟨k.2.2.2.1,k.2.1,k.2.2.2.2.1,k.2.2.2.2.2⟩
end L2
namespace Am
open PySem PySem.Spec PyProof.Rows L2
section
variable {X:Cx}{tg iter elt a:aC}{ifs:List aC}{scope:Scope}{pos:Pos}{N:ar}{cap:List (bj)}{g:Tg}{t:Te}{c:Ex}{e C:ak}{oe:Obj}{src:Ic}
def K8(ho:XO C oe){p:Pos}{c:Ex}(hm:X.mg "range" = none)(ha:AE X a c)(hg:Gl X "range"<|>ε)(hs:starEach [a] X.env=[(false,eval a X.env)]<|>ε):YW (HX e oe) X tg (.Call (.Name "range" p) [a] [] pos) (tI X<|qk c):=λpins s σ H Q I h9=>by
 z_go;refine Li ho hg hm (oB ha s_ hs) hs pins s σ H Q I ⟨ρ,S,τ,R,r,jJ (jQ h) .refl λx S1 h1 ρ1 H1 v e1 R1 v1=>?_⟩
 cases v1 with
 | int j=>
  obtain⟨d,h1⟩:=j5 h1;exact⟨_,rfl,d.1,d.2,by have:=h1 ρ1 H1 _ e1 R1 Gz;rwa [Int.sub_zero]at this⟩
 | _=>exact h1.elim
def QK{i:Nat}{x:Str}{spos:Pos}(hN:X.N.Nodup)(hh:X.A.handled=some (.ref e))(h0:X.H₀ e=some (.frz oe xu))(Sc:CpScope X scope N cap)(hi:YW (HX e oe) X tg iter<|tI X src)(hg:∀C s₀ H₀ ex,AG (nq X scope N C s₀ H₀ ex) tg g)(ht:∀C s₀ H₀ ex,ZH (nq X scope N C s₀ H₀ ex) ifs t)(he:∀C s₀ H₀ ex,AE (nq X scope N C s₀ H₀ ex) elt c)
  (hi':X.N[i]?=some x<|>ε) (hx:Loc X.env.scope x:=by first|exact Or.inl rfl|exact Or.inr rfl)
  (hsw:(swapsWith (.ListComp elt [⟨tg,iter,ifs,0⟩] scope pos) (some<|.Name x pos') spos.line X.env=pure true)<|>ε) (hf:X.fn x=true\/X.env.scope.names.lookup x=some .local<|>γ)
  (hs:(∀x,foldedSetIterable iter X.env x=pure x)<|>ζ):AS X (.Assign [.Name x pos'] (.ListComp elt [⟨tg,iter,ifs,0⟩] scope pos) spos) (kc (jZ cap src g t c)<|j4 i):=
 PS.imp (Lr (ok:=HX e oe) hN hi' hx Sc (λ_ _ _ _ d=>⟨hh,d e oe xu h0⟩) hi (g:=ZD X.K g) (tc:=Zd X.K t) (te:=tE0 X.K c) (λC s₀ H₀ ex=>(hg C s₀ H₀ ex).g0 rfl) (λC s₀ H₀ ex=>ht C s₀ H₀ ex) (λC s₀ H₀ ex=>(he C s₀ H₀ ex).e0 rfl) hsw hf hs) λD σ H h9=>by
  z_go;exact z9 σ H _ ⟨ρ,S,τ,R,r,jJ (of_post h) .refl λa S1 h1 ρ1 H1 x e1 R1 v1=>h1 ρ1 H1 _ e1 R1<|(r.ext e1).set v1⟩
end
end Am
namespace K71
open PySem L2 Am
abbrev top (i:Nat):aE:=PySem.Challenge.pw_undercells_k71_hearths_matched.main.body.getD i<|.Pass ⟨0,0,0,0⟩
meta abbrev vR:aE:=top 11
meta abbrev vU:ar:=["thing"]
meta abbrev wo:ar:=["thing"]
abbrev vZ:Sm:=
 kZ (D4 (jY (f2 yO)<|jC (jB 0)<|jC (eC<|.ty "int") jH)<|Wa<|jY (f2 yO)<|jC (jB 0)<|jC (eC<|.ty "bool") jH)
abbrev q_:ae->jF->R A:=kP vU vZ
meta abbrev uX:aE:=top 12
meta abbrev uH:ar:=["one", "other"]
meta abbrev uA:ar:=["one", "other"]
abbrev uL:Sm:=
 wD (qQ<|jI (sd true) (jY (f1 lZ)<|jC (jB 0) jH)<|jY (f1 lZ)<|jC (jB 1) jH)
 (xZ "NoPair" [.inl "orders of ",.inr<|jY (f1 lZ)<|jC (jB 0) jH,.inl " and of ",.inr<|jY (f1 lZ)<|jC (jB 1) jH,.inl " things"])
 pJ
abbrev pM:ae->jF->R A:=kP uH uL
meta abbrev sA:aE:=top 13
meta abbrev su:ar:=["n", "thing"]
meta abbrev sF:ar:=["n", "thing"]
abbrev r_:Sm:=
 kZ (D4 (eFn q_<|jC (jB 1) jH)<|Za ZX Vc (eC<|.int 1) (jB 1)<|jB 0)
abbrev nM:ae->jF->R A:=kP su r_
meta abbrev n9:aE:=top 14
meta abbrev nY:ar:=["order", "i", "j", "things"]
meta abbrev nZ:ar:=["order", "i", "j"]
abbrev n_:Sm:=
 jX (kc (jY (f1 ud)<|jC (jB 0) jH)<|j4 3)
 (jX (kc (pD<|jC (jI kI (jB 3)<|jI aSub (jB 2)<|eC<|.int 1)<|jC (jI kI (jB 3)<|jI aSub (jB 1)<|eC<|.int 1) jH)<|zm 2<|rE (RV (jB 3)<|jI aSub (jB 1)<|eC<|.int 1)<|rE (RV (jB 3)<|jI aSub (jB 2)<|eC<|.int 1) zx)
 (kZ<|jY (f1 z7)<|jC (jB 3) jH))
abbrev lO:ae->jF->R A:=kP nY n_
meta abbrev uo:aE:=top 15
meta abbrev uC:ar:=["order", "k"]
meta abbrev rB:ar:=["order", "k"]
abbrev uw:Sm:=
 jX (wD (EZ<|ue<|eFn nM<|jC (jY (f1 lZ)<|jC (jB 0) jH)<|jC (jB 1) jH)
 (xZ "NoWord" [.inl "no exchange of ",.inr<|jY (f1 lZ)<|jC (jB 0) jH,.inl " things"])
 pJ)
 (kZ<|eFn lO<|jC (jB 0)<|jC (jB 1)<|jC (jI nE (jB 1)<|eC<|.int 1) jH)
abbrev nk:ae->jF->R A:=kP uC uw
meta abbrev Dz:aE:=top 16
meta abbrev C3:ar:=["order"]
meta abbrev t6:ar:=["order"]
abbrev Du:Sm:=
 kZ (jZ [none,some 0] (uc (eC<|.int 1)<|jY (f1 lZ)<|jC (jB 0) jH) (j4 0) (qQ<|jI OV (jI kI (jB 1)<|jI aSub (jB 0)<|eC<|.int 1)<|jI kI (jB 1)<|jB 0)<|jB 0)
abbrev m8:ae->jF->R A:=kP C3 Du
meta abbrev p8:aE:=top 18
meta abbrev pY:ar:=["numbers"]
meta abbrev nS:ar:=["numbers"]
abbrev qb:Sm:=
 kZ (jZ [none,some 0] (kD<|jY (f1 wY)<|jC (jB 0) jH) (j4 0) (qQ<|jI (sd true) (jI Av (jB 1)<|jB 0)<|eC<|.int 0)<|pD<|jC (jB 0)<|jC (jI Av (jB 1)<|jB 0) jH)
abbrev lB:ae->jF->R A:=kP pY qb
meta abbrev GN:aE:=top 19
meta abbrev GS:ar:=["one", "other", "numbers", "power", "number"]
meta abbrev GO:ar:=["one", "other"]
abbrev xx:Ic:=
 kD (jB 1)
abbrev F3:Sm:=
 kc (jI nE (Hq wI (jB 2)<|jC (jB 3)<|jC (eC<|.int 0) jH)<|jB 4) (LA (jB 2)<|jB 3)
abbrev GY:Sm:=
 jX (kc (jY (f1 C2)<|jC (jB 0) jH)<|j4 2)
 (jX (m_ xx (zm 2<|rE (j4 3)<|rE (j4 4) zx)
 F3)
 (kZ<|eFn lB<|jC (jB 2) jH))
abbrev zM:ae->jF->R A:=kP GS GY
meta abbrev C6:aE:=top 20
meta abbrev DA:ar:=["one", "other", "numbers", "power", "number", "high", "many"]
meta abbrev y9:ar:=["one", "other"]
abbrev K5:Ic:=
 kD (jB 1)
abbrev Mb:Sm:=
 kc (jI nE (Hq wI (jB 2)<|jC (jI nE (jB 3)<|jB 5)<|jC (eC<|.int 0) jH)<|jI JC (jB 4)<|jB 6) (LA (jB 2)<|jI nE (jB 3)<|jB 5)
abbrev Cd:Ic:=
 kD (jB 0)
abbrev Cp:Sm:=
 m_ K5 (zm 2<|rE (j4 5)<|rE (j4 6) zx)
 Mb
abbrev Dt:Sm:=
 jX (kc Gk<|j4 2)
 (jX (m_ Cd (zm 2<|rE (j4 3)<|rE (j4 4) zx)
 Cp)
 (kZ<|eFn lB<|jC (jB 2) jH))
abbrev rP:ae->jF->R A:=kP DA Dt
meta abbrev sW:aE:=top 23
meta abbrev tV:ar:=["found", "order", "poly"]
meta abbrev oV:ar:=["found", "order", "poly"]
abbrev tD:Sm:=
 kc (eFn zM<|jC (Yc X3 (jB 0)<|jC (jB 1)<|jC (nX jH) jH)<|jC (jB 2) jH) (PD (jB 0)<|jB 1)
abbrev kN:ae->jF->R A:=kP tV tD
meta abbrev zK:aE:=top 24
meta abbrev zQ:ar:=["found"]
meta abbrev u9:ar:=["found"]
abbrev Ao:Sm:=
 kZ (jZ [none,some 0] (kD<|jY (f1 zb)<|jC (jB 0) jH) (j4 0) (ue<|jI Bu (jB 1)<|jB 0)<|pD<|jC (jB 0)<|jC (jI Bu (jB 1)<|jB 0) jH)
abbrev oG:ae->jF->R A:=kP zQ Ao
meta abbrev uO:aE:=top 25
meta abbrev uh:ar:=["one", "other"]
meta abbrev u7:ar:=["one", "other"]
abbrev uI:Sm:=
 wD (LK (ue<|jB 0)<|ue<|jB 1)
 (mL<|pZ pM<|jC (jI kI (jI kI (jB 0)<|eC<|.int 0)<|eC<|.int 0)<|jC (jI kI (jI kI (jB 1)<|eC<|.int 0)<|eC<|.int 0) jH)
 pJ
abbrev pP:ae->jF->R A:=kP uh uI
meta abbrev Dl:aE:=top 26
meta abbrev CU:ar:=["one", "other", "found", "order", "poly"]
meta abbrev CF:ar:=["one", "other"]
abbrev vF:Ic:=
 kD (jI nE (jB 0)<|jB 1)
abbrev vA:Sm:=
 mL (eFn kN<|jC (jB 2)<|jC (jB 3)<|jC (jB 4) jH)
abbrev D9:Sm:=
 jX (mL<|pZ pP<|jC (jB 0)<|jC (jB 1) jH)
 (jX (kc BW<|j4 2)
 (jX (m_ vF (zm 2<|rE (j4 3)<|rE (j4 4) zx)
 vA)
 (kZ<|eFn oG<|jC (jB 2) jH)))
abbrev sZ:ae->jF->R A:=kP CU D9
meta abbrev zI:aE:=top 27
meta abbrev AY:ar:=["poly", "one", "found", "order", "many"]
meta abbrev Ak:ar:=["poly", "one"]
abbrev tF:Ic:=
 kD (jB 1)
abbrev tH:Sm:=
 mL (eFn kN<|jC (jB 2)<|jC (jB 3)<|jC (eFn rP<|jC (jB 0)<|jC (jB 4) jH) jH)
abbrev Ad:Sm:=
 jX (kc BW<|j4 2)
 (jX (m_ tF (zm 2<|rE (j4 3)<|rE (j4 4) zx)
 tH)
 (kZ<|eFn oG<|jC (jB 2) jH))
abbrev qU:ae->jF->R A:=kP AY Ad
meta abbrev rS:aE:=top 28
meta abbrev rY:ar:=["one", "k", "found", "order", "poly"]
meta abbrev sJ:ar:=["one", "k"]
abbrev nQ:Ic:=
 kD (jB 0)
abbrev mV:Sm:=
 jX (mL<|eFn kN<|jC (jB 2)<|jC (pZ nk<|jC (jB 3)<|jC (jB 1) jH)<|jC (jB 4) jH)
 (wD (qQ<|jI (K6 false) (jB 1)<|eFn m8<|jC (jB 3) jH)
 (mL<|eFn kN<|jC (jB 2)<|jC (jB 3)<|jC (eFn rP<|jC (jY (f1 ud)<|jC (eC<|.frz<|[((-1:Int),(1:Int)),((1:Int),(-1:Int))].map kA) jH)<|jC (jB 4) jH) jH)
 pJ)
abbrev sq:Sm:=
 jX (kc BW<|j4 2)
 (jX (m_ nQ (zm 2<|rE (j4 3)<|rE (j4 4) zx)
 mV)
 (kZ<|eFn oG<|jC (jB 2) jH))
abbrev mW:ae->jF->R A:=kP rY sq
meta abbrev pX:aE:=top 30
meta abbrev pW:ar:=["poly"]
meta abbrev nV:ar:=["poly"]
abbrev p5:Sm:=
 kZ (Hq wI (jY (f1 C2)<|jC (jB 0) jH)<|jC (eC<|.int 1)<|jC (eC<|.int 0) jH)
abbrev lA:ae->jF->R A:=kP pW p5
meta abbrev qP:aE:=top 32
meta abbrev lz:ar:=["order", "k", "known", "less", "told", "lower", "poly", "number"]
meta abbrev nh:ar:=["order", "k", "known"]
abbrev pC (Fs:ae->jF->R A):Ic:=
 kD (jB 3)
abbrev nA (Fs:ae->jF->R A):Sm:=
 jX (kc (eFn lA<|jC (jB 6) jH)<|j4 7)
 (wD (LK (qQ<|jI (sd true) (jB 7)<|eC<|.int 0)<|qQ<|jI (K6 false) (jB 1)<|eFn m8<|jC (jB 5) jH)
 (kc (pZ sZ<|jC (jB 4)<|jC (eFn qU<|jC (nX<|jC (pD<|jC (eC<|.int 0)<|jC (Zl LQ<|jB 7) jH) jH)<|jC (pZ Fs<|jC (jB 5)<|jC (jB 2) jH) jH) jH)<|j4 4)
 pJ)
abbrev k_ (Fs:ae->jF->R A):Sm:=
 jX (kc (pZ Fs<|jC (pZ nk<|jC (jB 0)<|jC (jB 1) jH)<|jC (jB 2) jH)<|j4 3)
 (jX (kc (pZ sZ<|jC (pZ mW<|jC (jB 3)<|jC (jB 1) jH)<|jC (eFn qU<|jC (nX<|jC (pD<|jC (eC<|.int 1)<|jC (eC<|.int 1) jH) jH)<|jC (jB 3) jH) jH)<|j4 4)
 (jX (m_ (pC Fs) (zm 2<|rE (j4 5)<|rE (j4 6) zx)
 (nA Fs))
 (kZ<|jB 4)))
meta abbrev qu:aE:=top 31
meta abbrev oS:ar:=["order", "known", "ends"]
meta abbrev l9:ar:=["order", "known"]
abbrev oE (Fs:ae->jF->R A):Sm:=
 jX (wD (qQ<|jI (Ue true) (jB 0)<|jB 1)
 (jX (kc (eFn m8<|jC (jB 0) jH)<|j4 2)
 (wD (ue<|jB 2)
 (kc (pZ (kP lz<|k_ Fs)<|jC (jB 0)<|jC (jI kI (jB 2)<|eC<|.int 0)<|jC (jB 1) jH)<|PD (jB 1)<|jB 0)
 (kc (nX<|jC (pD<|jC (jB 0)<|jC (nX<|jC (pD<|jC (eC<|.int 0)<|jC (eC<|.int 1) jH) jH) jH) jH)<|PD (jB 1)<|jB 0)))
 pJ)
 (kZ<|jI Bu (jB 1)<|jB 0)
abbrev mX:Nat->ae->jF->R A
 | 0=>λ_ _=>.no
 | k+1=>kP oS<|oE<|mX k
abbrev t_:ae->jF->R A:=mX 8
meta abbrev r9:aE:=top 33
meta abbrev sE:ar:=["orders", "known", "told", "upper", "lower", "poly", "number"]
meta abbrev sy:ar:=["orders"]
abbrev qc:Ic:=
 kD (pZ t_<|jC (jB 3)<|jC (jB 1) jH)
abbrev qf:Sm:=
 jX (kc (eFn lA<|jC (jB 5) jH)<|j4 6)
 (wD (qQ<|jI (sd true) (jB 6)<|eC<|.int 0)
 (jX (kc (jB 6)<|Um (jB 2)<|pD<|jC (jB 4)<|jC (jB 3) jH)
 (kc (jB 6)<|Um (jB 2)<|pD<|jC (jB 3)<|jC (jB 4) jH))
 pJ)
abbrev p6:Ic:=
 kD (jB 0)
abbrev nU:Sm:=
 m_ qc (zm 2<|rE (j4 4)<|rE (j4 5) zx)
 qf
abbrev r8:Sm:=
 jX (kc BW<|j4 1)
 (jX (kc (GV)<|j4 2)
 (jX (m_ p6 (j4 3)
 nU)
 (kZ<|jB 2)))
abbrev nO:ae->jF->R A:=kP sE r8
meta abbrev qe:aE:=top 35
meta abbrev qi:ar:=["row", "letter", "place"]
meta abbrev qg:ar:=["row", "letter"]
abbrev oR:Te:=
 LK (qQ<|jI Vc (jB 2)<|jY (f1 lZ)<|jC (jB 0) jH) (qQ<|jI ZX (jI kI (jB 0)<|jB 2)<|jB 1)
abbrev oH:Sm:=
 Lk 2 Tv (eC<|.int 1)
abbrev qh:Sm:=
 jX (kc (eC<|.int 0)<|j4 2)
 (jX (lH oR
 oH 1000000)
 (kZ<|jB 2))
abbrev mS:ae->jF->R A:=kP qi qh
meta abbrev p_:aE:=top 36
meta abbrev pV:ar:=["rows", "letter", "at", "place"]
meta abbrev p9:ar:=["rows", "letter"]
abbrev oz:Te:=
 qQ (jI Vc (jB 2)<|jY (f1 lZ)<|jC (jB 0) jH)
abbrev oO:Sm:=
 jX (kc (eFn mS<|jC (jI kI (jB 0)<|jB 2)<|jC (jB 1) jH)<|j4 3)
 (jX (wD (qQ<|jI (sd false) (jB 3)<|jY (f1 lZ)<|jC (jI kI (jB 0)<|jB 2) jH)
 (jX (mL<|yI mE (jI kI (jB 0)<|jB 2)<|jC (jB 1) jH)
 (kZ<|jB 2))
 pJ)
 (jX (kc (pD<|jC (jB 1)<|jC (jI kI (jI kI (jB 0)<|jB 2)<|jB 3) jH)<|zm 2<|rE (RV (jI kI (jB 0)<|jB 2)<|jB 3)<|rE (j4 1) zx)
 (Lk 2 Tv<|eC<|.int 1)))
abbrev pU:Sm:=
 jX (kc (eC<|.int 0)<|j4 2)
 (jX (lH oz
 oO 1000000)
 (jX (mL<|yI mE (jB 0)<|jC (nX<|jC (jB 1) jH) jH)
 (kZ<|jB 2)))
abbrev mR:ae->jF->R A:=kP pV pU
meta abbrev z_:aE:=top 37
meta abbrev Ae:ar:=["row", "first", "second", "at", "letter", "new"]
meta abbrev wZ:ar:=["row"]
abbrev zO:Ic:=
 S_ (jB 0)
abbrev zR:Sm:=
 jX (kc (eFn mR<|jC (jB 1)<|jC (jB 4) jH)<|j4 5)
 (jX (wD (qQ<|jI (sd false) (jB 5)<|jY (f1 lZ)<|jC (jB 2) jH)
 (mL<|yI mE (jB 2)<|jC (nX jH) jH)
 pJ)
 (mL<|yI mE (jI kI (jB 2)<|jB 5)<|jC (jI nE (jB 3)<|eC<|.int 1) jH))
abbrev zq:Sm:=
 jX (kc (nX jH)<|j4 1)
 (jX (kc (nX jH)<|j4 2)
 (jX (m_ zO (zm 2<|rE (j4 3)<|rE (j4 4) zx)
 zR)
 (kZ<|pD<|jC (jB 1)<|jC (jB 2) jH)))
abbrev pL:ae->jF->R A:=kP Ae zq
meta abbrev DO:aE:=top 38
meta abbrev DK:ar:=["table"]
meta abbrev DR:ar:=["table"]
abbrev DU:Sm:=
 kZ (jZ [none] (kD<|jB 0) (j4 0) lD<|jY (f1 lZ)<|jC (jB 0) jH)
abbrev wW:ae->jF->R A:=kP DK DU
meta abbrev u5:aE:=top 40
meta abbrev uU:ar:=["k", "one", "other", "leads", "is_fall"]
meta abbrev u_:ar:=["k", "one", "other", "leads"]
abbrev uQ:Sm:=
 jX (kc (jI (K6 false) (jB 0)<|eFn m8<|jC (jB 1) jH)<|j4 4)
 (jX (wD (qQ<|jI (sd false) (jB 1)<|jB 2)
 (kZ<|eIf (ue<|jB 4) (eC<|.int 1)<|Zl LQ<|eC<|.int 1)
 pJ)
 (jX (wD (Up (ue<|jB 4)<|qQ<|jI (K6 true) (jB 0)<|eFn m8<|jC (jB 2) jH)
 (kZ<|eC<|.int 0)
 pJ)
 (kZ<|Xq Ck (jB 3)<|jC (pD<|jC (jB 1)<|jC (jB 2) jH)<|jC (eC<|.int 0) jH)))
abbrev ly:ae->jF->R A:=kP uU uQ
meta abbrev qd:aE:=top 41
meta abbrev p7:ar:=["hearth", "leads"]
meta abbrev nP:ar:=["hearth"]
abbrev pT:Sm:=
 jX (kc (pZ nO<|jC (jB 0) jH)<|j4 1)
 (kZ<|jZ [none,some 0,some 1] (uc (eC<|.int 1)<|jY (f1 lZ)<|jC (jI kI (jB 0)<|eC<|.int 0) jH) (j4 0) lD<|jZ [none,some 0,some 2,some 1] (kD<|jB 1) (j4 0) lD<|jZ [none,some 1,some 0,some 2] (kD<|jB 3) (j4 0) lD<|eFn ly<|jC (jB 1)<|jC (jB 2)<|jC (jB 0)<|jC (jB 3) jH)
abbrev kj:ae->jF->R A:=kP p7 pT
meta abbrev v5:aE:=top 42
meta abbrev v_:ar:=["hearth"]
meta abbrev vV:ar:=["hearth"]
abbrev wj:Sm:=
 kZ (eFn wW<|jC (jI kI (eFn pL<|jC (jY (f1 ud)<|jC (jI kI (jB 0)<|eC<|.int 0) jH) jH)<|eC<|.int 0) jH)
abbrev nW:ae->jF->R A:=kP v_ wj
meta abbrev qK:aE:=top 43
meta abbrev qR:ar:=["order"]
meta abbrev qN:ar:=["order"]
abbrev rf:Sm:=
 kZ (jI kI (eFn pL<|jC (jY (f1 ud)<|jC (jB 0) jH) jH)<|eC<|.int 1)
abbrev kM:ae->jF->R A:=kP qR rf
meta abbrev xR:aE:=top 44
meta abbrev vH:ar:=["one", "other", "seconds"]
meta abbrev vn:ar:=["one", "other"]
abbrev vE:Sm:=
 jX (wD (qQ<|jI (sd true) (eFn nW<|jC (jB 0) jH)<|eFn nW<|jC (jB 1) jH)
 (xZ "NoPair" [])
 pJ)
 (jX (kc (jZ [none] (kD<|jB 1) (j4 0) lD<|eFn kM<|jC (jB 0) jH)<|j4 2)
 (kZ<|jZ [none,some 1,some 2] (kD<|jB 0) (j4 0) lD<|pD<|jC (jB 0)<|jC (jI kI (jB 1)<|yI BO (jB 2)<|jC (eFn kM<|jC (jB 0) jH) jH) jH))
abbrev lK:ae->jF->R A:=kP vH vE
meta abbrev wm:aE:=top 46
meta abbrev vP:ar:=["_law_script", "_law_k"]
meta abbrev v8:ar:=["_law_script", "_law_k"]
abbrev vY:Sm:=
 jX (wD (qQ<|jI Vc (jB 1)<|jY (f1 lZ)<|jC (jB 0) jH)
 (kZ<|jI kI (jB 0)<|jB 1)
 pJ)
 (kZ<|eC<|.int 0)
abbrev o9:ae->jF->R A:=kP vP vY
meta abbrev yh:aE:=top 47
meta abbrev xX:ar:=["_law_cell_here", "_law_place", "_law_far"]
meta abbrev yd:ar:=["_law_cell_here", "_law_place"]
abbrev xM:Sm:=
 jX (kc (jY (f1 XX)<|jC (jB 0) jH)<|j4 2)
 (jX (wD (qQ<|jI Vc (jB 2)<|jI Ws (eC<|.int 10)<|eC<|.int 18)
 (kc (eC<|.int 0)<|j4 2)
 pJ)
 (kZ<|nX<|jC (jB 2)<|jC (jI yK (jI nE (jI nE (jI A5 (jI yK (jB 0)<|eC<|.int 2147483647)<|eC<|.int 69621)<|jI A5 (eC<|.int 7919)<|jB 1)<|eC<|.int 13)<|eC<|.int 2147483647) jH))
abbrev qE:ae->jF->R A:=kP xX xM
meta abbrev ug:aE:=top 48
meta abbrev uN:ar:=["_law_bag_here"]
meta abbrev uf:ar:=["_law_bag_here"]
abbrev vd:Sm:=
 jX (kc (jI yK (jI nE (jI A5 (jI kI (jB 0)<|eC<|.int 1)<|eC<|.int 48271)<|eC<|.int 11)<|eC<|.int 2147483647)<|RV (jB 0)<|eC<|.int 1)
 (kZ<|jI JB (jI yK (jI A5 (jI kI (jB 0)<|eC<|.int 1)<|eC<|.int 16807)<|eC<|.int 2147483629)<|eC<|.int 8)
abbrev oq:ae->jF->R A:=kP uN vd
meta abbrev vc:aE:=top 49
meta abbrev rD:ar:=["_law_bag_here", "_law_many", "_law_found", "_law_k"]
meta abbrev rK:ar:=["_law_bag_here", "_law_many"]
abbrev Br:Ic:=
 qk (eC<|.int 7)
abbrev A6:Sm:=
 kc (jI nE (jI A5 (jB 2)<|eC<|.int 268435399)<|eFn oq<|jC (jB 0) jH) (j4 2)
abbrev rR:Sm:=
 jX (wD (qQ<|jI OV (jI kI (jB 0)<|eC<|.int 0)<|eC<|.int 0)
 (jX (kc (jI yK (jI kI (jB 0)<|eC<|.int 0)<|jB 1)<|j4 2)
 (jX (kc (jI JB (jI kI (jB 0)<|eC<|.int 0)<|jB 1)<|RV (jB 0)<|eC<|.int 0)
 (kZ<|jB 2)))
 pJ)
 (jX (kc (eFn oq<|jC (jB 0) jH)<|j4 2)
 (jX (wD (qQ<|jI OV (jB 1)<|eC<|.int 1000)
 (m_ Br (j4 3)
 A6)
 pJ)
 (kZ<|jI yK (jB 2)<|jB 1)))
abbrev kF:ae->jF->R A:=kP rD rR
meta abbrev uT:aE:=top 50
meta abbrev ux:ar:=["_law_bag_here", "_law_n", "_law_left", "_law_found", "_law_k"]
meta abbrev uZ:ar:=["_law_bag_here", "_law_n"]
abbrev Bs:Ic:=
 qk (jB 1)
abbrev vN:Sm:=
 mL (yI mE (jB 3)<|jC (yI GZ (jB 2)<|jC (eFn kF<|jC (jB 0)<|jC (jY (f1 lZ)<|jC (jB 2) jH) jH) jH) jH)
abbrev uP:Sm:=
 jX (kc (jY (f1 ud)<|jC (jY (f2 Dy)<|jC (eC<|.int 1)<|jC (jI nE (jB 1)<|eC<|.int 1) jH) jH)<|j4 2)
 (jX (kc (nX jH)<|j4 3)
 (jX (m_ Bs (j4 4)
 vN)
 (kZ<|jY (f1 z7)<|jC (jB 3) jH)))
abbrev mK:ae->jF->R A:=kP ux uP
meta abbrev tN:aE:=top 51
meta abbrev tU:ar:=["_law_row", "_law_first", "_law_second", "_law_number", "_law_letter", "_law_at", "_law_spots"]
meta abbrev oF:ar:=["_law_row"]
abbrev nj:Te:=
 qQ (jI (Ho true) (jB 4)<|eC .non)
abbrev oW:Sm:=
 jX (wD (qQ<|jI (sd false) (jB 5)<|jY (f1 lZ)<|jC (jB 1) jH)
 (jX (mL<|yI mE (jB 1)<|jC (nX jH) jH)
 (mL<|yI mE (jB 2)<|jC (nX jH) jH))
 pJ)
 (jX (kc (jZ [none,some 4,some 1,some 5] (qk<|jY (f1 lZ)<|jC (jI kI (jB 1)<|jB 5) jH) (j4 0) (qQ<|jI OV (jI kI (jI kI (jB 2)<|jB 3)<|jB 0)<|jB 1)<|jB 0)<|j4 6)
 (wD (qQ<|jI (sd false) (jB 6)<|nX jH)
 (jX (mL<|yI mE (jI kI (jB 1)<|jB 5)<|jC (jB 4) jH)
 (jX (mL<|yI mE (jI kI (jB 2)<|jB 5)<|jC (jI nE (jB 3)<|eC<|.int 1) jH)
 (kc (eC .non)<|j4 4)))
 (jX (kc (pD<|jC (jI kI (jI kI (jB 1)<|jB 5)<|jI kI (jB 6)<|eC<|.int 0)<|jC (jB 4) jH)<|zm 2<|rE (j4 4)<|rE (RV (jI kI (jB 1)<|jB 5)<|jI kI (jB 6)<|eC<|.int 0) zx)
 (kc (jI nE (jB 5)<|eC<|.int 1)<|j4 5))))
abbrev qV:Ic:=
 Ro (jB 0)
abbrev rj:Sm:=
 jX (kc (eC<|.int 0)<|j4 5)
 (lH nj
 oW 1000000)
abbrev tX:Sm:=
 jX (kc (nX jH)<|j4 1)
 (jX (kc (nX jH)<|j4 2)
 (jX (m_ qV (zm 2<|rE (j4 3)<|rE (j4 4) zx)
 rj)
 (kZ<|pD<|jC (jB 1)<|jC (jB 2) jH)))
abbrev jU:ae->jF->R A:=kP tU tX
meta abbrev yb:aE:=top 52
meta abbrev xC:ar:=["_law_n", "_law_found", "_law_place", "_law_more", "_law_some"]
meta abbrev yy:ar:=["_law_n"]
abbrev yF:Ic:=
 kD (jB 1)
abbrev uR:Sm:=
 mL (yI Dr (jB 3)<|jC (jZ [none,some 4] (uc (eC<|.int 1)<|jI nE (jB 0)<|eC<|.int 1) (j4 0) (qQ<|jI (K6 true) (jB 0)<|jB 1)<|jI nE (jB 1)<|pD<|jC (jB 0) jH) jH)
abbrev yD:Ic:=
 qk (jB 0)
abbrev yz:Sm:=
 jX (kc (nX jH)<|j4 3)
 (jX (m_ yF (j4 4)
 uR)
 (kc (jB 3)<|j4 1))
abbrev yr:Sm:=
 jX (kc (nX<|jC (pD jH) jH)<|j4 1)
 (jX (m_ yD (j4 2)
 yz)
 (kZ<|jB 1))
abbrev qB:ae->jF->R A:=kP xC yr
meta abbrev tu:aE:=top 53
meta abbrev tZ:ar:=["_law_order_here"]
meta abbrev sY:ar:=["_law_order_here"]
abbrev sX:Sm:=
 kZ (jZ [none,some 0] (kD<|eFn qB<|jC (jY (f1 lZ)<|jC (jB 0) jH) jH) (j4 0) (qQ<|jI (sd false) (jI kI (eFn jU<|jC (jB 0) jH)<|eC<|.int 0)<|jI kI (eFn jU<|jC (jB 1) jH)<|eC<|.int 0)<|jB 0)
abbrev ny:ae->jF->R A:=kP tZ sX
meta abbrev yq:aE:=top 54
meta abbrev ya:ar:=["_law_one", "_law_other", "_law_seconds"]
meta abbrev xS:ar:=["_law_one", "_law_other"]
abbrev xB:Sm:=
 jX (kc (jZ [none] (kD<|jB 1) (j4 0) lD<|jI kI (eFn jU<|jC (jB 0) jH)<|eC<|.int 1)<|j4 2)
 (kZ<|jZ [none,some 1,some 2] (kD<|jB 0) (j4 0) lD<|pD<|jC (jB 0)<|jC (jI kI (jB 1)<|yI BO (jB 2)<|jC (jI kI (eFn jU<|jC (jB 0) jH)<|eC<|.int 1) jH) jH)
abbrev qA:ae->jF->R A:=kP ya xB
meta abbrev xP:aE:=top 55
meta abbrev xE:ar:=["_law_one", "_law_other", "_law_due_here", "_law_spots"]
meta abbrev yo:ar:=["_law_one", "_law_other", "_law_due_here"]
abbrev yw:Sm:=
 jX (kc (jZ [none,some 1] (kD<|jB 2) (j4 0) lD<|yI Cj (jB 1)<|jC (jI kI (jB 0)<|eC<|.int 1) jH)<|j4 3)
 (kZ<|jZ [none,some 3] (kD<|pZ kj<|jC (jB 1) jH) (j4 0) lD<|jZ [none,some 1,some 0] (kD<|jB 1) (j4 0) lD<|jZ [none,some 2,some 0] (kD<|jB 1) (j4 0) lD<|jI kI (jI kI (jB 1)<|jB 2)<|jB 0)
abbrev pH:ae->jF->R A:=kP xE yw
meta abbrev se:aE:=top 57
meta abbrev sD:ar:=["_law_e", "_law_named", "_law_words", "_law_some"]
meta abbrev r6:ar:=["_law_e"]
abbrev rT:Sm:=
 jX (kc (nX<|jC (yl (Lq [("NoPair",false),("NoWord",true)])<|jB 0)<|jC (yl (Lq [("NoPair",false),("NoWord",false)])<|jB 0)<|jC (yl (Lq [("NoPair",true),("NoWord",false)])<|jB 0)<|jC (yl (Lq [("NoPair",false),("NoWord",false)])<|jB 0) jH)<|j4 1)
 (jX (kc (jI nE (jB 1)<|nX<|jC (yl (Lq [("NoPair",false),("NoWord",false)])<|jB 0)<|jC (yl (Lq [("NoPair",false),("NoWord",false)])<|jB 0)<|jC (yl (Lq [("NoPair",false),("NoWord",false)])<|jB 0)<|jC (yl (Lq [("NoPair",false),("NoWord",false)])<|jB 0) jH)<|j4 1)
 (jX (kc (nX<|jC (eC<|.str<|PySem.Str.ofString "NoWord")<|jC (eC<|.str<|PySem.Str.ofString "NoNumber")<|jC (eC<|.str<|PySem.Str.ofString "NoPair")<|jC (eC<|.str<|PySem.Str.ofString "TooMany")<|jC (eC<|.str<|PySem.Str.ofString "NoTables")<|jC (eC<|.str<|PySem.Str.ofString "NoText")<|jC (eC<|.str<|PySem.Str.ofString "NoRow")<|jC (eC<|.str<|PySem.Str.ofString "NoName") jH)<|j4 2)
 (jX (kc (jZ [none,some 2,some 1] (qk<|eC<|.int 8) (j4 0) (ue<|jI kI (jB 2)<|jB 0)<|jI kI (jB 1)<|jB 0)<|j4 3)
 (jX (wD (Up (qQ<|jI (sd true) (jY (f1 lZ)<|jC (jB 3) jH)<|eC<|.int 1)<|EZ<|ue<|yl (Lq [("NoPair",true),("NoWord",true)])<|jB 0)
 (kZ<|eC<|.str<|PySem.Str.ofString "else")
 pJ)
 (kZ<|jI kI (jB 3)<|eC<|.int 0)))))
abbrev nL:ae->jF->R A:=kP sD rT
meta abbrev sG:aE:=top 56
meta abbrev sI:ar:=["_law_one", "_law_other", "_law_e"]
meta abbrev rV:ar:=["_law_one", "_law_other"]
abbrev rW:Sm:=
 jX (Ep 2 3 ["NoPair", "NoWord"] (mL<|pZ lK<|jC (jB 0)<|jC (jB 1) jH)
 (kZ<|jI (sd false) (eFn nL<|jC (jB 2) jH)<|eC<|.str<|PySem.Str.ofString "NoPair"))
 (kZ<|eC<|.bl false)
abbrev lI:ae->jF->R A:=kP sI rW
meta abbrev NR:aE:=top 58
meta abbrev Pc:ar:=["_law_script", "_law_bag_here", "_law_n", "_law_one", "_law_other", "_law_shapes", "_law_due_here", "_law_found"]
meta abbrev Vo:ar:=["_law_script"]
abbrev MD:Sm:=
 jX (kc (eFn qE<|jC (eFn o9<|jC (jB 0)<|jC (eC<|.int 0) jH)<|jC (eC<|.int 1) jH)<|j4 1)
 (jX (kc (jI kI (nX<|jC (eC<|.int 4)<|jC (eC<|.int 3)<|jC (eC<|.int 4)<|jC (eC<|.int 2)<|jC (eC<|.int 1)<|jC (eC<|.int 4) jH)<|eFn kF<|jC (jB 1)<|jC (eC<|.int 6) jH)<|j4 2)
 (jX (kc (eFn ny<|jC (eFn mK<|jC (jB 1)<|jC (jB 2) jH) jH)<|j4 3)
 (jX (wD (qQ<|jI (sd false) (eFn kF<|jC (jB 1)<|jC (eC<|.int 6) jH)<|eC<|.int 5)
 (kc (jI nE (eC<|.int 1)<|jI yK (jB 2)<|eC<|.int 4)<|j4 2)
 pJ)
 (jX (kc (eFn ny<|jC (eFn mK<|jC (eFn qE<|jC (eFn o9<|jC (jB 0)<|jC (eC<|.int 1) jH)<|jC (eC<|.int 2) jH)<|jC (jB 2) jH) jH)<|j4 4)
 (jX (kc (jZ [none] (kD<|nX<|jC (jB 3)<|jC (jB 4) jH) (j4 0) lD<|jZ [none] (kD<|jI kI (eFn jU<|jC (jI kI (jB 0)<|eC<|.int 0) jH)<|eC<|.int 0) (j4 0) lD<|jY (f1 lZ)<|jC (jB 0) jH)<|j4 5)
 (jX (wD (qQ<|jI (sd true) (jI kI (jB 5)<|eC<|.int 0)<|jI kI (jB 5)<|eC<|.int 1)
 (kZ<|D4 (eFn lI<|jC (jB 3)<|jC (jB 4) jH)<|eFn lI<|jC (jB 4)<|jC (jB 3) jH)
 pJ)
 (jX (kc (eFn qA<|jC (jB 3)<|jC (jB 4) jH)<|j4 6)
 (jX (kc (pZ lK<|jC (jB 3)<|jC (jB 4) jH)<|j4 7)
 (jX (wD (Up (EZ<|ue<|jY (f2 yO)<|jC (jB 7)<|jC (eC<|.ty "list") jH)<|Up (EZ<|ue<|jY (f1 NS)<|jC (jZ [none] (kD<|jB 7) (j4 0) lD<|jY (f2 yO)<|jC (jB 0)<|jC (eC<|.ty "tuple") jH) jH)<|qQ<|jI (sd true) (jB 7)<|jB 6)
 (kZ<|eC<|.bl false)
 pJ)
 (jX (mL<|Th CM<|jB 7)
 (kZ<|D4 (jI (sd false) (pZ lK<|jC (jB 3)<|jC (jB 4) jH)<|jB 6)<|jI (sd false) (pZ kj<|jC (jB 3) jH)<|eFn pH<|jC (jB 3)<|jC (jB 4)<|jC (jB 6) jH)))))))))))
abbrev BS:ae->jF->R A:=kP Pc MD
section
variable {P:aj}{w:ah}{K:au}{mg:Str->bd}{base:aq}{f:ak}{fd:FuncData}
def Ez:FnScope vU wo (jN vR):=sL rfl rfl rfl ∅
def Em(F:Fun K "is_whole" "is_whole" vR f fd)(aaK:mg "isinstance" = none)(abV:mg "bool" = none)(abW:mg "int" = none):FnOk P w K mg base rQ 1 f fd wo (sO K 1 q_):=wC (m:=vZ) F Ez λc B outer s H E d=>
 jM (j3<|CP (j6 Jy aaK nH<|jD (jA 0)<|jD (Jw abW We) jK)<|CH<|Wk<|j6 Jy aaK nH<|jD (jA 0)<|jD (Jw abV TL) jK)
def Dg:FnScope uH uA (jN uX):=sL rfl rfl rfl ∅
def DB(F:Fun K "need_pair" "need_pair" uX f fd)(aah:ExcK K U "NoPair" C_NoPair)(aaf:mg "len" = none):FnOk P w K mg base (zc P w) 1 f fd uA (Gh K 2 pM):=fnX (m:=uL) F Dg λd B outer s H E c=>
 jM (ng (kG (E1 c.units) (j6 oh aaf mH<|jD (jA 0) jK)<|j6 oh aaf mH<|jD (jA 1) jK)
 (jM<|BJ (ps:=[.inl "orders of ",.inr<|jY (f1 lZ)<|jC (jB 0) jH,.inl " and of ",.inr<|jY (f1 lZ)<|jC (jB 1) jH,.inl " things"]) aah.n aah.q c.hd<|.txt<|.val (j6 oh aaf mH<|jD (jA 0) jK)<|.txt<|.val (j6 oh aaf mH<|jD (jA 1) jK)<|.txt .nil)
 kY)
def AZ:FnScope su sF (jN sA):=sL rfl rfl rfl ∅
def zE(F:Fun K "is_exchange" "is_exchange" sA f fd)(abY:qo P w K mg base 1 "is_whole" wo q_):FnOk P w K mg base rQ 2 f fd sF (sO K 2 nM):=wC (m:=r_) F AZ λd B outer s H E c=>
 jM (j3<|CP (x_ abY c<|jA 1)<|CH<|ZQ Z1 (QD c.units) jO (jA 1)<|jA 0)
def qp:FnScope nY nZ (jN n9):=sL rfl rfl rfl ∅
def vM(F:Fun K "exchanged_places" "exchanged_places" n9 f fd)(aaQ:mg "list" = none)(aa_:mg "tuple" = none):FnOk P w K mg base rQ 1 f fd nZ (sO K 3 lO):=wC (m:=n_) F qp λc B outer s H E d=>
 jG (j0 (i:=3) qp.nd<|nI (zF rfl) aaQ vm<|jD (jA 0) jK)
 (jG (qa (mY<|jD (j_ (jA 3)<|ki FJ (jA 2) jO)<|jD (j_ (jA 3)<|ki FJ (jA 1) jO) jK)<|o_ rfl<|kg (yc (jA 3)<|ki FJ (jA 1) jO)<|kg (yc (jA 3)<|ki FJ (jA 2) jO) nu)
 (jM<|j3<|nI (JA rfl) aa_ Ai<|jD (jA 3) jK))
def DX:FnScope uC rB (jN uo):=sL rfl rfl rfl ∅
def DN(F:Fun K "exchanged" "exchanged" uo f fd)(aam:ExcK K U "NoWord" C_NoWord)(aaf:mg "len" = none)(ab2:qo P w K mg base 2 "is_exchange" sF nM)(ab7:qo P w K mg base 1 "exchanged_places" nZ lO):FnOk P w K mg base (zc P w) 3 f fd rB (Gh K 2 nk):=fnX (m:=uw) F DX λd B outer s H E c=>
 jG (ng (CJ<|qY<|Eb ab2 c (j6 oh aaf mH<|jD (jA 0) jK)<|jA 1)
 (jM<|BJ (ps:=[.inl "no exchange of ",.inr<|jY (f1 lZ)<|jC (jB 0) jH,.inl " things"]) aam.n aam.q c.hd<|.txt<|.val (j6 oh aaf mH<|jD (jA 0) jK)<|.txt .nil)
 kY)
 (jM<|j3<|Zc ab7 c (jA 0) (jA 1)<|ki oZ (jA 1) jO)
def Qj:FnScope C3 t6 (jN Dz):=sL rfl rfl rfl ∅
def Ny(F:Fun K "falls" "falls" Dz f fd)(aan:mg "range" = none)(aaf:mg "len" = none):FnOk P w K mg base rQ 1 f fd t6 (sO K 1 m8):=wC (m:=Du) F Qj λd B outer s H E c=>
 jM (j3<|lG (N:=["k", "order"]) (cap:=[none,some 0]) rfl (nB ["order"] rfl ∅ ∅ ∅ ∅ ∅ (aO.mpr ⟨by first|exact Or.inl rfl|exact Or.inr rfl,(nofun)⟩) ⟨rfl,by decide +kernel,trivial⟩) (xH aan jO<|j6 oh aaf mH<|jD (jA 0) jK) (λ_ _ _ _=>jV (i:=0) (show(["k", "order"]:ar).Nodup by decide +kernel) rfl (Or.inl rfl)<|.inr rfl) (λ_ _ _ _=>tB<|kG (SN c.units) (j_ (jA 1)<|ki FJ (jA 0) jO)<|j_ (jA 1)<|jA 0) λ_ _ _ _=>jA 0)
def yx:FnScope pY nS (jN p8):=sL rfl rfl rfl ∅
def xA(F:Fun K "as_polynomial" "as_polynomial" p8 f fd)(abd:mg "sorted" = none):FnOk P w K mg base rQ 1 f fd nS (sO K 1 lB):=wC (m:=qb) F yx λd B outer s H E c=>
 jM (j3<|lG (N:=["power", "numbers"]) (cap:=[none,some 0]) rfl (nB ["numbers"] rfl ∅ ∅ ∅ ∅ ∅ (aO.mpr ⟨by first|exact Or.inl rfl|exact Or.inr rfl,(nofun)⟩) ⟨rfl,by decide +kernel,trivial⟩) (kQ<|j6 (Qk rfl) abd Cf<|jD (jA 0) jK) (λ_ _ _ _=>jV (i:=0) (show(["power", "numbers"]:ar).Nodup by decide +kernel) rfl (Or.inl rfl)<|.inr rfl) (λ_ _ _ _=>tB<|kG (E1 c.units) (NX c.units (jA 1)<|jA 0) jO) λ_ _ _ _=>mY<|jD (jA 0)<|jD (NX c.units (jA 1)<|jA 0) jK)
def y_:FnScope GS GO (jN GN):=sL rfl rfl rfl ∅
def RH(F:Fun K "plus" "plus" GN f fd)(abe:mg "dict" = none)(abf:qo P w K mg base 1 "as_polynomial" nS lB):FnOk P w K mg base rQ 2 f fd GO (sO K 2 zM):=wC (m:=GY) F y_ λd B outer s H E c=>
 jG (j0 (i:=2) y_.nd<|nI (Jg rfl) abe IU<|jD (jA 0) jK)
 (jG (n5 cF rfl (kQ<|jA 1) (o_ rfl<|kg (jV (i:=3) y_.nd)<|kg (jV (i:=4) y_.nd) nu)
 (jM<|qa (ki oZ (Gr cC d7 (Gm c.units) (jA 2)<|jD (jA 3)<|jD jO jK)<|jA 4)<|Iw c.units (jA 2)<|jA 3))
 (jM<|j3<|x_ abf c<|jA 2))
def sN:FnScope DA y9 (jN C6):=sL rfl rfl rfl ∅
def QA(F:Fun K "times" "times" C6 f fd)(abf:qo P w K mg base 1 "as_polynomial" nS lB):FnOk P w K mg base rQ 2 f fd y9 (sO K 2 rP):=wC (m:=Dt) F sN λd B outer s H E c=>
 jG (j0 (i:=2) sN.nd NW)
 (jG (n5 cF rfl (kQ<|jA 0) (o_ rfl<|kg (jV (i:=3) sN.nd)<|kg (jV (i:=4) sN.nd) nu)
 (jM (n5 cF rfl (kQ<|jA 1) (o_ rfl<|kg (jV (i:=5) sN.nd)<|kg (jV (i:=6) sN.nd) nu)
 (jM<|qa (ki oZ (Gr cC d7 (Gm c.units) (jA 2)<|jD (ki oZ (jA 3)<|jA 5)<|jD jO jK)<|ki Wc (jA 4)<|jA 6)<|Iw c.units (jA 2)<|ki oZ (jA 3)<|jA 5))))
 (jM<|j3<|x_ abf c<|jA 2))
def Bj:FnScope tV oV (jN sW):=sL rfl rfl rfl ∅
def A9(F:Fun K "put_before" "put_before" sW f fd)(ab_:qo P w K mg base 2 "plus" GO zM):FnOk P w K mg base rQ 3 f fd oV (sO K 3 kN):=wC (m:=tD) F Bj λd B outer s H E c=>
 jM (qa (Eb ab_ c (YH cC d7 (aal c.units) (jA 0)<|jD (jA 1)<|jD (lR jK) jK)<|jA 2)<|C9 c.units (jA 0)<|jA 1)
def LU:FnScope zQ u9 (jN zK):=sL rfl rfl rfl ∅
def LY(F:Fun K "as_sum" "as_sum" zK f fd)(abd:mg "sorted" = none):FnOk P w K mg base rQ 1 f fd u9 (sO K 1 oG):=wC (m:=Ao) F LU λd B outer s H E c=>
 jM (j3<|lG (N:=["order", "found"]) (cap:=[none,some 0]) rfl (nB ["found"] rfl ∅ ∅ ∅ ∅ ∅ (aO.mpr ⟨by first|exact Or.inl rfl|exact Or.inr rfl,(nofun)⟩) ⟨rfl,by decide +kernel,trivial⟩) (kQ<|j6 (Oq rfl) abd Cf<|jD (jA 0) jK) (λ_ _ _ _=>jV (i:=0) (show(["order", "found"]:ar).Nodup by decide +kernel) rfl (Or.inl rfl)<|.inr rfl) (λ_ _ _ _=>tB<|qY<|Hy c.units (jA 1)<|jA 0) λ_ _ _ _=>mY<|jD (jA 0)<|jD (Hy c.units (jA 1)<|jA 0) jK)
def DM:FnScope uh u7 (jN uO):=sL rfl rfl rfl ∅
def CC(F:Fun K "need_like" "need_like" uO f fd)(ace:AN P w K mg base 1 "need_pair" uA pM):FnOk P w K mg base (zc P w) 2 f fd u7 (Gh K 2 pP):=fnX (m:=uI) F DM λd B outer s H E c=>
 jM (ng (AW.at<|GK (qY<|jA 0)<|DY<|qY<|jA 1)
 (jM<|lV<|Yx ace c (j_ (j_ (jA 0) jO) jO)<|j_ (j_ (jA 1) jO) jO)
 kY)
def wF:FnScope CU CF (jN Dl):=sL rfl rfl rfl ∅
def O7(F:Fun K "added" "added" Dl f fd)(aco:AN P w K mg base 2 "need_like" u7 pP)(aa9:qo P w K mg base 3 "put_before" oV kN)(aba:qo P w K mg base 1 "as_sum" u9 oG):FnOk P w K mg base (zc P w) 4 f fd CF (Gh K 2 sZ):=fnX (m:=D9) F wF λd B outer s H E c=>
 jG (lV<|Yx aco c (jA 0)<|jA 1)
 (jG (j0 (i:=2) wF.nd yT)
 (jG (n5 fJ rfl (kQ<|ki oZ (jA 0)<|jA 1) (o_ rfl<|kg (jV (i:=3) wF.nd)<|kg (jV (i:=4) wF.nd) nu)
 (jM<|lV<|Zc aa9 c (jA 2) (jA 3)<|jA 4))
 (jM<|j3<|x_ aba c<|jA 2)))
def vt:FnScope AY Ak (jN zI):=sL rfl rfl rfl ∅
def LG(F:Fun K "scaled" "scaled" zI f fd)(aa9:qo P w K mg base 3 "put_before" oV kN)(abg:qo P w K mg base 2 "times" y9 rP)(aba:qo P w K mg base 1 "as_sum" u9 oG):FnOk P w K mg base rQ 4 f fd Ak (sO K 2 qU):=wC (m:=Ad) F vt λd B outer s H E c=>
 jG (j0 (i:=2) vt.nd yT)
 (jG (n5 cF rfl (kQ<|jA 1) (o_ rfl<|kg (jV (i:=3) vt.nd)<|kg (jV (i:=4) vt.nd) nu)
 (jM<|lV<|Zc aa9 c (jA 2) (jA 3)<|Eb abg c (jA 0)<|jA 4))
 (jM<|j3<|x_ aba c<|jA 2))
def oN:FnScope rY sJ (jN rS):=sL rfl rfl rfl ∅
def zV(F:Fun K "by_exchange" "by_exchange" rS f fd)(aaQ:mg "list" = none)(h_AT_A_FALL:∃a,mg "AT_A_FALL" = some (.ref a)/\Zg K a=some [((-1:Int),(1:Int)),((1:Int),(-1:Int))])(aa9:qo P w K mg base 3 "put_before" oV kN)(abh:AN P w K mg base 3 "exchanged" rB nk)(aa7:qo P w K mg base 1 "falls" t6 m8)(abg:qo P w K mg base 2 "times" y9 rP)(aba:qo P w K mg base 1 "as_sum" u9 oG):FnOk P w K mg base (zc P w) 4 f fd sJ (Gh K 2 mW):=fnX (m:=sq) F oN λd B outer s H E c=>
 jG (j0 (i:=2) oN.nd yT)
 (jG (n5 fJ rfl (kQ<|jA 0) (o_ rfl<|kg (jV (i:=3) oN.nd)<|kg (jV (i:=4) oN.nd) nu)
 (jG (lV<|Zc aa9 c (jA 2) (Yx abh c (jA 3)<|jA 1)<|jA 4)
 (jM (ng (kG (X7 c.units) (jA 1)<|x_ aa7 c<|jA 3)
 (jM<|lV<|Zc aa9 c (jA 2) (jA 3)<|Eb abg c (nI (zF rfl) aaQ vm<|jD (Q4 h_AT_A_FALL.choose_spec.1 h_AT_A_FALL.choose_spec.2) jK)<|jA 4)
 kY))))
 (jM<|j3<|x_ aba c<|jA 2))
def xT:FnScope pW nV (jN pX):=sL rfl rfl rfl ∅
def yi(F:Fun K "number_at_one" "number_at_one" pX f fd)(abe:mg "dict" = none):FnOk P w K mg base rQ 1 f fd nV (sO K 1 lA):=wC (m:=p5) F xT λd B outer s H E c=>
 jM (j3<|Gr cC d7 (Gm c.units) (nI (Jg rfl) abe IU<|jD (jA 0) jK)<|jD jO<|jD jO jK)
def lC:FnScope lz nh (jN qP):=sL rfl rfl rfl ∅
def yJ{Fs:ae->jF->R A}(F:Fun K "kept_by_fall" "kept_by_fall" qP f fd)(abh:AN P w K mg base 3 "exchanged" rB nk)(abn:AN P w K mg base 4 "added" CF sZ)(abo:qo P w K mg base 4 "scaled" Ak qU)(acp:AN P w K mg base 4 "by_exchange" sJ mW)(abj:qo P w K mg base 1 "number_at_one" nV lA)(aa7:qo P w K mg base 1 "falls" t6 m8)(ac0:AN P w K mg base (5+2 * kr) "found_kept" l9 Fs):FnOk P w K mg base (zc P w) (5+2 * kr+1) f fd nh (Gh K 3<|kP lz<|k_ Fs):=fnX (m:=k_ Fs) F lC λd B outer s H E c=>
 jG (j0 (i:=3) lC.nd<|tR ac0 (c.mono ()) (jD (tR abh (c.mono ()) (jD (jA 0)<|jD (jA 1) jK)<|jW<|jW lE)<|jD (jA 2) jK)<|jW<|jW lE)
 (jG (j0 (i:=4) lC.nd<|tR abn (c.mono ()) (jD (tR acp (c.mono ()) (jD (jA 3)<|jD (jA 1) jK)<|jW<|jW lE)<|jD (wH abo (c.mono ()) (jD (lR<|jD (mY<|jD jO<|jD jO jK) jK)<|jD (jA 3) jK)<|jW<|jW lE) jK)<|jW<|jW lE)
 (jG (n5 fJ rfl (kQ<|jA 3) (o_ rfl<|kg (jV (i:=5) lC.nd)<|kg (jV (i:=6) lC.nd) nu)
 (jG (j0 (i:=7) lC.nd<|wH abj (c.mono ()) (jD (jA 6) jK)<|jW lE)
 (jM (ng (AW.at<|GK (kG (E1 c.units) (jA 7) jO)<|DY<|kG (X7 c.units) (jA 1)<|wH aa7 (c.mono ()) (jD (jA 5) jK)<|jW lE)
 (jM<|j0 (i:=4) lC.nd<|tR abn (c.mono ()) (jD (jA 4)<|jD (wH abo (c.mono ()) (jD (lR<|jD (mY<|jD jO<|jD (Qd<|jA 7) jK) jK)<|jD (tR ac0 (c.mono ()) (jD (jA 5)<|jD (jA 2) jK)<|jW<|jW lE) jK)<|jW<|jW lE) jK)<|jW<|jW lE)
 kY))))
 (jM<|j3<|jA 4)))
def vO:FnScope oS l9 (jN qu):=sL rfl rfl rfl ∅
def Bq{Fs:ae->jF->R A}(F:Fun K "found_kept" "found_kept" qu f fd)(aa7:qo P w K mg base 1 "falls" t6 m8)(ac1:AN P w K mg base (5+2 * kr+1) "kept_by_fall" nh<|kP lz<|k_ Fs):FnOk P w K mg base (zc P w) (5+2 * kr+2) f fd l9 (Gh K 2<|kP oS<|oE Fs):=fnX (m:=oE Fs) F vO λd B outer s H E c=>
 jG (ng (kG (Nj c.units) (jA 0)<|jA 1)
 (jG (j0 (i:=2) vO.nd<|wH aa7 (c.mono ()) (jD (jA 0) jK)<|jW lE)
 (jM (ng (qY<|jA 2)
 (jM<|qa (tR ac1 (c.mono ()) (jD (jA 0)<|jD (j_ (jA 2) jO)<|jD (jA 1) jK)<|jW<|jW<|jW lE)<|C9 c.units (jA 1)<|jA 0)
 (jM<|qa (lR<|jD (mY<|jD (jA 0)<|jD (lR<|jD (mY<|jD jO<|jD jO jK) jK) jK) jK)<|C9 c.units (jA 1)<|jA 0))))
 kY)
 (jM<|j3<|Hy c.units (jA 1)<|jA 0)
theorem ur(F:Fun K "found_kept" "found_kept" qu f fd)(aa7:qo P w K mg base 1 "falls" t6 m8)(M_kept_by_fall:∀{Fs:ae->jF->R A} {kr:Nat},AN P w K mg base (5+2 * kr) "found_kept" l9 Fs->AN P w K mg base (5+2 * kr+1) "kept_by_fall" nh (kP lz<|k_ Fs))(hm:mg "found_kept" = some (.ref f))(hk:PySem.W.keepIn K (.ref f)=true)(hb:Binds K fd l9 []):∀kr,FnOk P w K mg base (zc P w) (5+2 * kr) f fd l9 (Gh K 2<|mX kr)
 | 0=>Xc rfl
 | kr+1=>Bq F aa7<|M_kept_by_fall ⟨f,fd,ur F aa7 M_kept_by_fall hm hk hb kr,hm,hk,hb⟩
def lU:FnScope sE sy (jN r9):=sL rfl rfl rfl ∅
def zl(F:Fun K "leads_among" "leads_among" r9 f fd)(acu:AN P w K mg base 21 "found_kept" l9 t_)(abj:qo P w K mg base 1 "number_at_one" nV lA):FnOk P w K mg base (zc P w) 22 f fd sy (Gh K 1 nO):=fnX (m:=r8) F lU λd B outer s H E c=>
 jG (j0 (i:=1) lU.nd yT)
 (jG (j0 (i:=2) lU.nd<|N3)
 (jG (n5 fJ rfl (kQ<|jA 0) (jV (i:=3) lU.nd)
 (jM (n5 fJ rfl (kQ<|Yx acu c (jA 3)<|jA 1) (o_ rfl<|kg (jV (i:=4) lU.nd)<|kg (jV (i:=5) lU.nd) nu)
 (jG (j0 (i:=6) lU.nd<|x_ abj c<|jA 5)
 (jM (ng (kG (E1 c.units) (jA 6) jO)
 (jG (qa (jA 6)<|JS c.units (jA 2)<|mY<|jD (jA 4)<|jD (jA 3) jK)
 (jM<|qa (jA 6)<|JS c.units (jA 2)<|mY<|jD (jA 3)<|jD (jA 4) jK))
 kY))))))
 (jM<|j3<|jA 2)))
def pG:FnScope qi qg (jN qe):=sL rfl rfl rfl ∅
def yk(F:Fun K "first_greater" "first_greater" qe f fd)(aaf:mg "len" = none):FnOk P w K mg base rQ 1 f fd qg (sO K 2 mS):=wC (m:=qh) F pG λd B outer s H E c=>
 jG (j0 (i:=2) pG.nd jO)
 (jG (zk 1000000 cF (AW.at<|GK (kG (QD c.units) (jA 2)<|j6 oh aaf mH<|jD (jA 0) jK)<|DY<|kG Z1 (j_ (jA 0)<|jA 2)<|jA 1)
 (jM<|PU (i:=2) pG.nd jO Jz))
 (jM<|j3<|jA 2))
def mG:FnScope pV p9 (jN p_):=sL rfl rfl rfl ∅
def xV(F:Fun K "put_into_rows" "put_into_rows" p_ f fd)(aaf:mg "len" = none)(acB:qo P w K mg base 1 "first_greater" qg mS):FnOk P w K mg base rQ 2 f fd p9 (sO K 2 mR):=wC (m:=pU) F mG λd B outer s H E c=>
 jG (j0 (i:=2) mG.nd jO)
 (jG (zk 1000000 cF (kG (QD c.units) (jA 2)<|j6 oh aaf mH<|jD (jA 0) jK)
 (jG (j0 (i:=3) mG.nd<|Eb acB c (j_ (jA 0)<|jA 2)<|jA 1)
 (jG (ng (kG (Bc c.units) (jA 3)<|j6 oh aaf mH<|jD (j_ (jA 0)<|jA 2) jK)
 (jG (lV<|rL b_ cg oU (j_ (jA 0)<|jA 2)<|jD (jA 1) jK)
 (jM<|j3<|jA 2))
 kY)
 (jG (qa (mY<|jD (jA 1)<|jD (j_ (j_ (jA 0)<|jA 2)<|jA 3) jK)<|o_ rfl<|kg (yc (j_ (jA 0)<|jA 2)<|jA 3)<|kg (jV (i:=1) mG.nd) nu)
 (jM<|PU (i:=2) mG.nd jO Jz)))))
 (jG (lV<|rL b_ cg oU (jA 0)<|jD (lR<|jD (jA 1) jK) jK)
 (jM<|j3<|jA 2)))
def qF:FnScope Ae wZ (jN z_):=sL rfl rfl rfl ∅
def Mc(F:Fun K "tables" "tables" z_ f fd)(abk:mg "enumerate" = none)(aaf:mg "len" = none)(acF:qo P w K mg base 2 "put_into_rows" p9 mR):FnOk P w K mg base rQ 3 f fd wZ (sO K 1 pL):=wC (m:=zq) F qF λd B outer s H E c=>
 jG (j0 (i:=1) qF.nd<|lR jK)
 (jG (j0 (i:=2) qF.nd<|lR jK)
 (jG (n5 cF rfl (Xd abk<|jA 0) (o_ rfl<|kg (jV (i:=3) qF.nd)<|kg (jV (i:=4) qF.nd) nu)
 (jG (j0 (i:=5) qF.nd<|Eb acF c (jA 1)<|jA 4)
 (jG (ng (kG (Bc c.units) (jA 5)<|j6 oh aaf mH<|jD (jA 2) jK)
 (jM<|lV<|rL b_ cg oU (jA 2)<|jD (lR jK) jK)
 kY)
 (jM<|lV<|rL b_ cg oU (j_ (jA 2)<|jA 5)<|jD (ki oZ (jA 3) jO) jK))))
 (jM<|j3<|mY<|jD (jA 1)<|jD (jA 2) jK)))
def MT:FnScope DK DR (jN DO):=sL rfl rfl rfl ∅
def Pj(F:Fun K "shape" "shape" DO f fd)(aaf:mg "len" = none):FnOk P w K mg base rQ 1 f fd DR (sO K 1 wW):=wC (m:=DU) F MT λc B outer s H E d=>
 jM (j3<|lG (N:=["row"]) (cap:=[none]) rfl (nB [] rfl ∅ ∅ ∅ ∅ ∅ (nofun) trivial) (kQ<|jA 0) (λ_ _ _ _=>jV (i:=0) (show(["row"]:ar).Nodup by decide +kernel) rfl (Or.inl rfl)<|.inr rfl) (λ_ _ _ _=>mP) λ_ _ _ _=>j6 oh aaf mH<|jD (jA 0) jK)
def xr:FnScope uU u_ (jN u5):=sL rfl rfl rfl ∅
def Dv(F:Fun K "number_at" "number_at" u5 f fd)(aa7:qo P w K mg base 1 "falls" t6 m8):FnOk P w K mg base rQ 2 f fd u_ (sO K 4 ly):=wC (m:=uQ) F xr λd B outer s H E c=>
 jG (j0 (i:=4) xr.nd<|C_ (X7 c.units) (jA 0)<|x_ aa7 c<|jA 1)
 (jG (ng (kG (Bc c.units) (jA 1)<|jA 2)
 (jM<|j3<|aaR (qY<|jA 4) jO<|Qd jO)
 kY)
 (jG (ng (AW.at<|IE (qY<|jA 4)<|Hz<|kG (JU c.units) (jA 0)<|x_ aa7 c<|jA 2)
 (jM<|j3 jO)
 kY)
 (jM<|j3<|Wl cC d7 (Wb c.units) (jA 3)<|jD (mY<|jD (jA 1)<|jD (jA 2) jK)<|jD jO jK)))
def sU:FnScope p7 nP (jN qd):=sL rfl rfl rfl ∅
def xK(F:Fun K "number_tables" "number_tables" qd f fd)(aan:mg "range" = none)(aaf:mg "len" = none)(acI:AN P w K mg base 22 "leads_among" sy nO)(acJ:qo P w K mg base 2 "number_at" u_ ly):FnOk P w K mg base (zc P w) 23 f fd nP (Gh K 1 kj):=fnX (m:=pT) F sU λd B outer s H E c=>
 jG (j0 (i:=1) sU.nd<|fx1 acI c<|jA 0)
 (jM<|j3<|lG (N:=["k", "hearth", "leads"]) (cap:=[none,some 0,some 1]) rfl (nB ["hearth", "leads"] rfl ∅ ∅ ∅ ∅ ∅ (aO.mpr ⟨by first|exact Or.inl rfl|exact Or.inr rfl,(aO.mpr ⟨by first|exact Or.inl rfl|exact Or.inr rfl,(nofun)⟩)⟩) ⟨rfl,by decide +kernel,⟨rfl,by decide +kernel,trivial⟩⟩) (xH aan jO<|j6 oh aaf mH<|jD (j_ (jA 0) jO) jK) (λ_ _ _ _=>jV (i:=0) (show(["k", "hearth", "leads"]:ar).Nodup by decide +kernel) rfl (Or.inr rfl)<|.inl rfl) (λ_ _ _ _=>mP) λ_ _ _ _=>lG (N:=["one", "k", "leads", "hearth"]) (cap:=[none,some 0,some 2,some 1]) rfl (nB ["k", "leads", "hearth"] rfl ∅ ∅ ∅ ∅ ∅ (aO.mpr ⟨by first|exact Or.inl rfl|exact Or.inr rfl,(aO.mpr ⟨by first|exact Or.inl rfl|exact Or.inr rfl,(aO.mpr ⟨by first|exact Or.inl rfl|exact Or.inr rfl,(nofun)⟩)⟩)⟩) ⟨rfl,by decide +kernel,⟨rfl,by decide +kernel,⟨rfl,by decide +kernel,trivial⟩⟩⟩) (kQ<|jA 1) (λ_ _ _ _=>jV (i:=0) (show(["one", "k", "leads", "hearth"]:ar).Nodup by decide +kernel) rfl (Or.inr rfl)<|.inl rfl) (λ_ _ _ _=>mP) λ_ _ _ _=>lG (N:=["other", "k", "one", "leads"]) (cap:=[none,some 1,some 0,some 2]) rfl (nB ["k", "one", "leads"] rfl ∅ ∅ ∅ ∅ ∅ (aO.mpr ⟨by first|exact Or.inl rfl|exact Or.inr rfl,(aO.mpr ⟨by first|exact Or.inl rfl|exact Or.inr rfl,(aO.mpr ⟨by first|exact Or.inl rfl|exact Or.inr rfl,(nofun)⟩)⟩)⟩) ⟨rfl,by decide +kernel,⟨rfl,by decide +kernel,⟨rfl,by decide +kernel,trivial⟩⟩⟩) (kQ<|jA 3) (λ_ _ _ _=>jV (i:=0) (show(["other", "k", "one", "leads"]:ar).Nodup by decide +kernel) rfl (Or.inl rfl)<|.inr rfl) (λ_ _ _ _=>mP) λ_ _ _ _=>fn4 acJ c (jA 1) (jA 2) (jA 0)<|jA 3)
def EY:FnScope v_ vV (jN v5):=sL rfl rfl rfl ∅
def EW(F:Fun K "shape_of" "shape_of" v5 f fd)(aaQ:mg "list" = none)(acK:qo P w K mg base 1 "shape" DR wW)(abl:qo P w K mg base 3 "tables" wZ pL):FnOk P w K mg base rQ 4 f fd vV (sO K 1 nW):=wC (m:=wj) F EY λd B outer s H E c=>
 jM (j3<|x_ acK c<|j_ (x_ abl c<|nI (zF rfl) aaQ vm<|jD (j_ (jA 0) jO) jK) jO)
def yM:FnScope qR qN (jN qK):=sL rfl rfl rfl ∅
def yN(F:Fun K "second_table" "second_table" qK f fd)(aaQ:mg "list" = none)(abl:qo P w K mg base 3 "tables" wZ pL):FnOk P w K mg base rQ 4 f fd qN (sO K 1 kM):=wC (m:=rf) F yM λd B outer s H E c=>
 jM (j3<|j_ (x_ abl c<|nI (zF rfl) aaQ vm<|jD (jA 0) jK) jO)
def zU:FnScope vH vn (jN xR):=sL rfl rfl rfl ∅
def Hi(F:Fun K "matched" "matched" xR f fd)(aah:ExcK K U "NoPair" C_NoPair)(abp:qo P w K mg base 4 "shape_of" vV nW)(abr:qo P w K mg base 4 "second_table" qN kM):FnOk P w K mg base (zc P w) 5 f fd vn (Gh K 2 lK):=fnX (m:=vE) F zU λd B outer s H E c=>
 jG (ng (kG (E1 c.units) (x_ abp c<|jA 0)<|x_ abp c<|jA 1)
 (jM<|Lj aah.n aah.q c.hd)
 kY)
 (jG (j0 (i:=2) zU.nd<|lG (N:=["order"]) (cap:=[none]) rfl (nB [] rfl ∅ ∅ ∅ ∅ ∅ (nofun) trivial) (kQ<|jA 1) (λ_ _ _ _=>jV (i:=0) (show(["order"]:ar).Nodup by decide +kernel) rfl (Or.inl rfl)<|.inr rfl) (λ_ _ _ _=>mP) λ_ _ _ _=>x_ abr c<|jA 0)
 (jM<|j3<|lG (N:=["order", "other", "seconds"]) (cap:=[none,some 1,some 2]) rfl (nB ["other", "seconds"] rfl ∅ ∅ ∅ ∅ ∅ (aO.mpr ⟨by first|exact Or.inl rfl|exact Or.inr rfl,(aO.mpr ⟨by first|exact Or.inl rfl|exact Or.inr rfl,(nofun)⟩)⟩) ⟨rfl,by decide +kernel,⟨rfl,by decide +kernel,trivial⟩⟩) (kQ<|jA 0) (λ_ _ _ _=>jV (i:=0) (show(["order", "other", "seconds"]:ar).Nodup by decide +kernel) rfl (Or.inl rfl)<|.inr rfl) (λ_ _ _ _=>mP) λ_ _ _ _=>mY<|jD (jA 0)<|jD (j_ (jA 1)<|rL gK gM (NU c.units) (jA 2)<|jD (x_ abr c<|jA 0) jK) jK))
def FI:FnScope vP v8 (jN wm):=sL rfl rfl rfl ∅
def EB(F:Fun K "_law_cell" "_law_cell" wm f fd)(aaf:mg "len" = none):FnOk P w K mg base rQ 1 f fd v8 (sO K 2 o9):=wC (m:=vY) F FI λd B outer s H E c=>
 jG (ng (kG (QD c.units) (jA 1)<|j6 oh aaf mH<|jD (jA 0) jK)
 (jM<|j3<|j_ (jA 0)<|jA 1)
 kY)
 (jM<|j3 jO)
def wz:FnScope xX yd (jN yh):=sL rfl rfl rfl ∅
def Gv(F:Fun K "_law_bag" "_law_bag" yh f fd)(acL:mg "abs" = none):FnOk P w K mg base rQ 1 f fd yd (sO K 2 qE):=wC (m:=xM) F wz λd B outer s H E c=>
 jG (j0 (i:=2) wz.nd<|j6 aaH acL Xv<|jD (jA 0) jK)
 (jG (ng (kG (QD c.units) (jA 2)<|ki aaS jO jO)
 (jM<|j0 (i:=2) wz.nd jO)
 kY)
 (jM<|j3<|lR<|jD (jA 2)<|jD (ki AR (ki oZ (ki oZ (ki E8 (ki AR (jA 0) jO) jO)<|ki E8 jO<|jA 1) jO) jO) jK))
def DE:FnScope uN uf (jN ug):=sL rfl rfl rfl ∅
def CS(F:Fun K "_law_mixed" "_law_mixed" ug f fd):FnOk P w K mg base rQ 1 f fd uf (sO K 1 oq):=wC (m:=vd) F DE λc B outer s H E d=>
 jG (qa (ki AR (ki oZ (ki E8 (j_ (jA 0) jO) jO) jO) jO)<|yc (jA 0) jO)
 (jM<|j3<|ki N8 (ki AR (ki E8 (j_ (jA 0) jO) jO) jO) jO)
def oQ:FnScope rD rK (jN vc):=sL rfl rfl rfl ∅
def CD(F:Fun K "_law_digit" "_law_digit" vc f fd)(aan:mg "range" = none)(abt:qo P w K mg base 1 "_law_mixed" uf oq):FnOk P w K mg base rQ 2 f fd rK (sO K 2 kF):=wC (m:=rR) F oQ λd B outer s H E c=>
 jG (ng (kG (SN c.units) (j_ (jA 0) jO) jO)
 (jG (j0 (i:=2) oQ.nd<|ki AR (j_ (jA 0) jO)<|jA 1)
 (jG (qa (ki N8 (j_ (jA 0) jO)<|jA 1)<|yc (jA 0) jO)
 (jM<|j3<|jA 2)))
 kY)
 (jG (j0 (i:=2) oQ.nd<|x_ abt c<|jA 0)
 (jG (ng (kG (SN c.units) (jA 1) jO)
 (jM (n5 cF rfl (vD aan jO) (jV (i:=3) oQ.nd)
 (jM<|j0 (i:=2) oQ.nd<|ki oZ (ki E8 (jA 2) jO)<|x_ abt c<|jA 0)))
 kY)
 (jM<|j3<|ki AR (jA 2)<|jA 1)))
def qt:FnScope ux uZ (jN uT):=sL rfl rfl rfl ∅
def DQ(F:Fun K "_law_order" "_law_order" uT f fd)(aaQ:mg "list" = none)(aan:mg "range" = none)(aaf:mg "len" = none)(aa_:mg "tuple" = none)(abb:qo P w K mg base 2 "_law_digit" rK kF):FnOk P w K mg base rQ 3 f fd uZ (sO K 2 mK):=wC (m:=uP) F qt λd B outer s H E c=>
 jG (j0 (i:=2) qt.nd<|nI (zF rfl) aaQ vm<|jD (nI OO aan O8<|jD jO<|jD (ki oZ (jA 1) jO) jK) jK)
 (jG (j0 (i:=3) qt.nd<|lR jK)
 (jG (n5 cF rfl (vD aan<|jA 1) (jV (i:=4) qt.nd)
 (jM<|lV<|rL b_ cg oU (jA 3)<|jD (rL PySem.F.slot_list_pop PySem.F.type_list_pop Ry (jA 2)<|jD (Eb abb c (jA 0)<|j6 oh aaf mH<|jD (jA 2) jK) jK) jK))
 (jM<|j3<|nI (JA rfl) aa_ Ai<|jD (jA 3) jK)))
def kJ:FnScope tU oF (jN tN):=sL rfl rfl rfl ∅
def Bb(F:Fun K "_law_tables" "_law_tables" tN f fd)(abk:mg "enumerate" = none)(aaf:mg "len" = none)(aan:mg "range" = none):FnOk P w K mg base rQ 1 f fd oF (sO K 1 jU):=wC (m:=tX) F kJ λd B outer s H E c=>
 jG (j0 (i:=1) kJ.nd<|lR jK)
 (jG (j0 (i:=2) kJ.nd<|lR jK)
 (jG (n5 cF rfl (Ww abk<|jA 0) (o_ rfl<|kg (jV (i:=3) kJ.nd)<|kg (jV (i:=4) kJ.nd) nu)
 (jG (j0 (i:=5) kJ.nd jO)
 (jM (zk 1000000 cF (kG Rl (jA 4)<|NF)
 (jG (ng (kG (Bc c.units) (jA 5)<|j6 oh aaf mH<|jD (jA 1) jK)
 (jG (lV<|rL b_ cg oU (jA 1)<|jD (lR jK) jK)
 (jM<|lV<|rL b_ cg oU (jA 2)<|jD (lR jK) jK))
 kY)
 (jG (JL (i:=6) (N:=["_law_k", "_law_letter", "_law_first", "_law_at"]) (cap:=[none,some 4,some 1,some 5]) kJ.nd rfl (nB ["_law_letter", "_law_first", "_law_at"] rfl ∅ ∅ ∅ ∅ ∅ (aO.mpr ⟨by first|exact Or.inl rfl|exact Or.inr rfl,(aO.mpr ⟨by first|exact Or.inl rfl|exact Or.inr rfl,(aO.mpr ⟨by first|exact Or.inl rfl|exact Or.inr rfl,(nofun)⟩)⟩)⟩) ⟨rfl,by decide +kernel,⟨rfl,by decide +kernel,⟨rfl,by decide +kernel,trivial⟩⟩⟩) (vD aan<|j6 oh aaf mH<|jD (j_ (jA 1)<|jA 5) jK) (λ_ _ _ _=>jV (i:=0) (show(["_law_k", "_law_letter", "_law_first", "_law_at"]:ar).Nodup by decide +kernel) rfl (Or.inl rfl)<|.inr rfl) (λ_ _ _ _=>tB<|kG (SN c.units) (j_ (j_ (jA 2)<|jA 3)<|jA 0)<|jA 1) λ_ _ _ _=>jA 0)
 (jM (ng (kG (Bc c.units) (jA 6)<|lR jK)
 (jG (lV<|rL b_ cg oU (j_ (jA 1)<|jA 5)<|jD (jA 4) jK)
 (jG (lV<|rL b_ cg oU (j_ (jA 2)<|jA 5)<|jD (ki oZ (jA 3) jO) jK)
 (jM<|j0 (i:=4) kJ.nd<|NF)))
 (jG (qa (mY<|jD (j_ (j_ (jA 1)<|jA 5)<|j_ (jA 6) jO)<|jD (jA 4) jK)<|o_ rfl<|kg (jV (i:=4) kJ.nd)<|kg (yc (j_ (jA 1)<|jA 5)<|j_ (jA 6) jO) nu)
 (jM<|j0 (i:=5) kJ.nd<|ki oZ (jA 5) jO))))))))))
 (jM<|j3<|mY<|jD (jA 1)<|jD (jA 2) jK)))
def pI:FnScope xC yy (jN yb):=sL rfl rfl rfl ∅
def GD(F:Fun K "_law_all" "_law_all" yb f fd)(aan:mg "range" = none):FnOk P w K mg base rQ 1 f fd yy (sO K 1 qB):=wC (m:=yr) F pI λd B outer s H E c=>
 jG (j0 (i:=1) pI.nd<|lR<|jD (mY jK) jK)
 (jG (n5 cF rfl (vD aan<|jA 0) (jV (i:=2) pI.nd)
 (jG (j0 (i:=3) pI.nd<|lR jK)
 (jG (n5 cF rfl (kQ<|jA 1) (jV (i:=4) pI.nd)
 (jM<|lV<|rL PySem.F.slot_list_extend PySem.F.type_list_extend Ni (jA 3)<|jD (lG (N:=["_law_thing", "_law_some"]) (cap:=[none,some 4]) rfl (nB ["_law_some"] rfl ∅ ∅ ∅ ∅ ∅ (aO.mpr ⟨by first|exact Or.inl rfl|exact Or.inr rfl,(nofun)⟩) ⟨rfl,by decide +kernel,trivial⟩) (xH aan jO<|ki oZ (jA 0) jO) (λ_ _ _ _=>jV (i:=0) (show(["_law_thing", "_law_some"]:ar).Nodup by decide +kernel) rfl (Or.inl rfl)<|.inr rfl) (λ_ _ _ _=>tB<|kG (JU c.units) (jA 0)<|jA 1) λ_ _ _ _=>ki oZ (jA 1)<|mY<|jD (jA 0) jK) jK))
 (jM<|j0 (i:=1) pI.nd<|jA 3))))
 (jM<|j3<|jA 1))
def Bv:FnScope tZ sY (jN tu):=sL rfl rfl rfl ∅
def Be(F:Fun K "_law_hearth" "_law_hearth" tu f fd)(aaf:mg "len" = none)(acM:qo P w K mg base 1 "_law_all" yy qB)(aa8:qo P w K mg base 1 "_law_tables" oF jU):FnOk P w K mg base rQ 2 f fd sY (sO K 1 ny):=wC (m:=sX) F Bv λd B outer s H E c=>
 jM (j3<|lG (N:=["_law_one", "_law_order_here"]) (cap:=[none,some 0]) rfl (nB ["_law_order_here"] rfl ∅ ∅ ∅ ∅ ∅ (aO.mpr ⟨by first|exact Or.inl rfl|exact Or.inr rfl,(nofun)⟩) ⟨rfl,by decide +kernel,trivial⟩) (kQ<|x_ acM c<|j6 oh aaf mH<|jD (jA 0) jK) (λ_ _ _ _=>jV (i:=0) (show(["_law_one", "_law_order_here"]:ar).Nodup by decide +kernel) rfl (Or.inl rfl)<|.inr rfl) (λ_ _ _ _=>tB<|kG (Bc c.units) (j_ (x_ aa8 c<|jA 0) jO)<|j_ (x_ aa8 c<|jA 1) jO) λ_ _ _ _=>jA 0)
def Aj:FnScope ya xS (jN yq):=sL rfl rfl rfl ∅
def Ht(F:Fun K "_law_due" "_law_due" yq f fd)(aa8:qo P w K mg base 1 "_law_tables" oF jU):FnOk P w K mg base rQ 2 f fd xS (sO K 2 qA):=wC (m:=xB) F Aj λd B outer s H E c=>
 jG (j0 (i:=2) Aj.nd<|lG (N:=["_law_order_here"]) (cap:=[none]) rfl (nB [] rfl ∅ ∅ ∅ ∅ ∅ (nofun) trivial) (kQ<|jA 1) (λ_ _ _ _=>jV (i:=0) (show(["_law_order_here"]:ar).Nodup by decide +kernel) rfl (Or.inl rfl)<|.inr rfl) (λ_ _ _ _=>mP) λ_ _ _ _=>j_ (x_ aa8 c<|jA 0) jO)
 (jM<|j3<|lG (N:=["_law_order_here", "_law_other", "_law_seconds"]) (cap:=[none,some 1,some 2]) rfl (nB ["_law_other", "_law_seconds"] rfl ∅ ∅ ∅ ∅ ∅ (aO.mpr ⟨by first|exact Or.inl rfl|exact Or.inr rfl,(aO.mpr ⟨by first|exact Or.inl rfl|exact Or.inr rfl,(nofun)⟩)⟩) ⟨rfl,by decide +kernel,⟨rfl,by decide +kernel,trivial⟩⟩) (kQ<|jA 0) (λ_ _ _ _=>jV (i:=0) (show(["_law_order_here", "_law_other", "_law_seconds"]:ar).Nodup by decide +kernel) rfl (Or.inl rfl)<|.inr rfl) (λ_ _ _ _=>mP) λ_ _ _ _=>mY<|jD (jA 0)<|jD (j_ (jA 1)<|rL gK gM (NU c.units) (jA 2)<|jD (j_ (x_ aa8 c<|jA 0) jO) jK) jK)
def zh:FnScope xE yo (jN xP):=sL rfl rfl rfl ∅
def G1(F:Fun K "_law_led" "_law_led" xP f fd)(abm:AN P w K mg base 23 "number_tables" nP kj):FnOk P w K mg base rQ 24 f fd yo (sO K 3 pH):=wC (m:=yw) F zh λd B outer s H E c=>
 jG (j0 (i:=3) zh.nd<|lG (N:=["_law_pair", "_law_other"]) (cap:=[none,some 1]) rfl (nB ["_law_other"] rfl ∅ ∅ ∅ ∅ ∅ (aO.mpr ⟨by first|exact Or.inl rfl|exact Or.inr rfl,(nofun)⟩) ⟨rfl,by decide +kernel,trivial⟩) (kQ<|jA 2) (λ_ _ _ _=>jV (i:=0) (show(["_law_pair", "_law_other"]:ar).Nodup by decide +kernel) rfl (Or.inl rfl)<|.inr rfl) (λ_ _ _ _=>mP) λ_ _ _ _=>rL gK gM (YB c.units) (jA 1)<|jD (j_ (jA 0) jO) jK)
 (jM<|j3<|lG (N:=["_law_table", "_law_spots"]) (cap:=[none,some 3]) rfl (nB ["_law_spots"] rfl ∅ ∅ ∅ ∅ ∅ (aO.mpr ⟨by first|exact Or.inl rfl|exact Or.inr rfl,(nofun)⟩) ⟨rfl,by decide +kernel,trivial⟩) (kQ<|fx1 abm c<|jA 1) (λ_ _ _ _=>jV (i:=0) (show(["_law_table", "_law_spots"]:ar).Nodup by decide +kernel) rfl (Or.inr rfl)<|.inl rfl) (λ_ _ _ _=>mP) λ_ _ _ _=>lG (N:=["_law_i", "_law_spots", "_law_table"]) (cap:=[none,some 1,some 0]) rfl (nB ["_law_spots", "_law_table"] rfl ∅ ∅ ∅ ∅ ∅ (aO.mpr ⟨by first|exact Or.inl rfl|exact Or.inr rfl,(aO.mpr ⟨by first|exact Or.inl rfl|exact Or.inr rfl,(nofun)⟩)⟩) ⟨rfl,by decide +kernel,⟨rfl,by decide +kernel,trivial⟩⟩) (kQ<|jA 1) (λ_ _ _ _=>jV (i:=0) (show(["_law_i", "_law_spots", "_law_table"]:ar).Nodup by decide +kernel) rfl (Or.inr rfl)<|.inl rfl) (λ_ _ _ _=>mP) λ_ _ _ _=>lG (N:=["_law_j", "_law_table", "_law_i"]) (cap:=[none,some 2,some 0]) rfl (nB ["_law_table", "_law_i"] rfl ∅ ∅ ∅ ∅ ∅ (aO.mpr ⟨by first|exact Or.inl rfl|exact Or.inr rfl,(aO.mpr ⟨by first|exact Or.inl rfl|exact Or.inr rfl,(nofun)⟩)⟩) ⟨rfl,by decide +kernel,⟨rfl,by decide +kernel,trivial⟩⟩) (kQ<|jA 1) (λ_ _ _ _=>jV (i:=0) (show(["_law_j", "_law_table", "_law_i"]:ar).Nodup by decide +kernel) rfl (Or.inl rfl)<|.inr rfl) (λ_ _ _ _=>mP) λ_ _ _ _=>j_ (j_ (jA 1)<|jA 2)<|jA 0)
def ni:FnScope sD r6 (jN se):=sL rfl rfl rfl ∅
def Ax(F:Fun K "_law_word_of" "_law_word_of" se f fd)(aam:ExcK K U "NoWord" C_NoWord)(aah:ExcK K U "NoPair" C_NoPair)(acN:mg "TooMany" = some (.ref C_TooMany))(acO:mg "NoPair" = some (.ref C_NoPair))(acP:mg "NoNumber" = some (.ref C_NoNumber))(acQ:mg "NoWord" = some (.ref C_NoWord))(acR:mg "NoName" = some (.ref C_NoName))(acS:mg "NoRow" = some (.ref C_NoRow))(acT:mg "NoText" = some (.ref C_NoText))(acU:mg "NoTables" = some (.ref C_NoTables))(k_NoWord_TooMany:PySem.W.kitOne K (.ref C_NoWord) (.ref C_TooMany)=some false)(k_NoPair_TooMany:PySem.W.kitOne K (.ref C_NoPair) (.ref C_TooMany)=some false)(k_NoWord_NoPair:PySem.W.kitOne K (.ref C_NoWord) (.ref C_NoPair)=some false)(k_NoPair_NoPair:PySem.W.kitOne K (.ref C_NoPair) (.ref C_NoPair)=some true)(k_NoWord_NoNumber:PySem.W.kitOne K (.ref C_NoWord) (.ref C_NoNumber)=some false)(k_NoPair_NoNumber:PySem.W.kitOne K (.ref C_NoPair) (.ref C_NoNumber)=some false)(k_NoWord_NoWord:PySem.W.kitOne K (.ref C_NoWord) (.ref C_NoWord)=some true)(k_NoPair_NoWord:PySem.W.kitOne K (.ref C_NoPair) (.ref C_NoWord)=some false)(k_NoWord_NoName:PySem.W.kitOne K (.ref C_NoWord) (.ref C_NoName)=some false)(k_NoPair_NoName:PySem.W.kitOne K (.ref C_NoPair) (.ref C_NoName)=some false)(k_NoWord_NoRow:PySem.W.kitOne K (.ref C_NoWord) (.ref C_NoRow)=some false)(k_NoPair_NoRow:PySem.W.kitOne K (.ref C_NoPair) (.ref C_NoRow)=some false)(k_NoWord_NoText:PySem.W.kitOne K (.ref C_NoWord) (.ref C_NoText)=some false)(k_NoPair_NoText:PySem.W.kitOne K (.ref C_NoPair) (.ref C_NoText)=some false)(k_NoWord_NoTables:PySem.W.kitOne K (.ref C_NoWord) (.ref C_NoTables)=some false)(k_NoPair_NoTables:PySem.W.kitOne K (.ref C_NoPair) (.ref C_NoTables)=some false)(aaK:mg "isinstance" = none)(aan:mg "range" = none)(acV:mg "ValueError" = none)(aaf:mg "len" = none):FnOkH P w K mg base 1 f fd r6 (sO K 1 nL):=fnH (m:=rT) F ni λj B outer s H e oe C c d h0 g=>
 jG (j0 (i:=1) ni.nd<|lR<|jD (ve acQ (tb:=[("NoPair",false),("NoWord",true)]) (aO.mpr ⟨⟨_,aah.n,aah.x,aah.cl,k_NoPair_NoWord⟩,(aO.mpr ⟨⟨_,aam.n,aam.x,aam.cl,k_NoWord_NoWord⟩,(nofun)⟩)⟩) (jA 0) aaK)<|jD (ve acP (tb:=[("NoPair",false),("NoWord",false)]) (aO.mpr ⟨⟨_,aah.n,aah.x,aah.cl,k_NoPair_NoNumber⟩,(aO.mpr ⟨⟨_,aam.n,aam.x,aam.cl,k_NoWord_NoNumber⟩,(nofun)⟩)⟩) (jA 0) aaK)<|jD (ve acO (tb:=[("NoPair",true),("NoWord",false)]) (aO.mpr ⟨⟨_,aah.n,aah.x,aah.cl,k_NoPair_NoPair⟩,(aO.mpr ⟨⟨_,aam.n,aam.x,aam.cl,k_NoWord_NoPair⟩,(nofun)⟩)⟩) (jA 0) aaK)<|jD (ve acN (tb:=[("NoPair",false),("NoWord",false)]) (aO.mpr ⟨⟨_,aah.n,aah.x,aah.cl,k_NoPair_TooMany⟩,(aO.mpr ⟨⟨_,aam.n,aam.x,aam.cl,k_NoWord_TooMany⟩,(nofun)⟩)⟩) (jA 0) aaK) jK)
 (jG (j0 (i:=1) ni.nd<|ki oZ (jA 1)<|lR<|jD (ve acU (tb:=[("NoPair",false),("NoWord",false)]) (aO.mpr ⟨⟨_,aah.n,aah.x,aah.cl,k_NoPair_NoTables⟩,(aO.mpr ⟨⟨_,aam.n,aam.x,aam.cl,k_NoWord_NoTables⟩,(nofun)⟩)⟩) (jA 0) aaK)<|jD (ve acT (tb:=[("NoPair",false),("NoWord",false)]) (aO.mpr ⟨⟨_,aah.n,aah.x,aah.cl,k_NoPair_NoText⟩,(aO.mpr ⟨⟨_,aam.n,aam.x,aam.cl,k_NoWord_NoText⟩,(nofun)⟩)⟩) (jA 0) aaK)<|jD (ve acS (tb:=[("NoPair",false),("NoWord",false)]) (aO.mpr ⟨⟨_,aah.n,aah.x,aah.cl,k_NoPair_NoRow⟩,(aO.mpr ⟨⟨_,aam.n,aam.x,aam.cl,k_NoWord_NoRow⟩,(nofun)⟩)⟩) (jA 0) aaK)<|jD (ve acR (tb:=[("NoPair",false),("NoWord",false)]) (aO.mpr ⟨⟨_,aah.n,aah.x,aah.cl,k_NoPair_NoName⟩,(aO.mpr ⟨⟨_,aam.n,aam.x,aam.cl,k_NoWord_NoName⟩,(nofun)⟩)⟩) (jA 0) aaK) jK)
 (jG (j0 (i:=2) ni.nd<|lR<|jD sf<|jD sf<|jD sf<|jD sf<|jD sf<|jD sf<|jD sf<|jD sf jK)
 (jG (QK (i:=3) (N:=["_law_k", "_law_words", "_law_named"]) (cap:=[none,some 2,some 1]) ni.nd d h0 (nB ["_law_words", "_law_named"] rfl ∅ ∅ ∅ ∅ ∅ (aO.mpr ⟨by first|exact Or.inl rfl|exact Or.inr rfl,(aO.mpr ⟨by first|exact Or.inl rfl|exact Or.inr rfl,(nofun)⟩)⟩) ⟨rfl,by decide +kernel,⟨rfl,by decide +kernel,trivial⟩⟩) (K8 g aan jO) (λ_ _ _ _=>jV (i:=0) (show(["_law_k", "_law_words", "_law_named"]:ar).Nodup by decide +kernel) rfl (Or.inl rfl)<|.inr rfl) (λ_ _ _ _=>tB<|qY<|j_ (jA 2)<|jA 0) λ_ _ _ _=>j_ (jA 1)<|jA 0)
 (jG (ng (AW.at<|IE (kG (E1 c.units) (j6 oh aaf mH<|jD (jA 3) jK) jO)<|Hz<|CJ<|qY<|Xn acV (tb:=[("NoPair",true),("NoWord",true)]) (aO.mpr ⟨⟨_,aah.n,aah.x,aah.cl,aah.v⟩,(aO.mpr ⟨⟨_,aam.n,aam.x,aam.cl,aam.v⟩,(nofun)⟩)⟩) (jA 0) aaK)
 (jM<|j3 sf)
 kY)
 (jM<|j3<|j_ (jA 3) jO)))))
def uW:FnScope sI rV (jN sG):=sL rfl rfl rfl ∅
def zS(F:Fun K "_law_refused" "_law_refused" sG f fd)(hU:Gg K "UnderError" U)(mU:L2.mroIn K U=some VV)(aam:ExcK K U "NoWord" C_NoWord)(aah:ExcK K U "NoPair" C_NoPair)(abc:AN P w K mg base 5 "matched" vn lK)(acW:W5 P w K mg base 1 "_law_word_of" r6 nL):FnOk P w K mg base rQ 6 f fd rV (sO K 2 lI):=wC (m:=rW) F uW λe B outer s H E c=>
 jG (by(refine Yr (i:=2) (cs:=["NoPair", "NoWord"]) ?hb ?hh uW.nd hU mU<|aO.mpr ⟨⟨_,aah.n,aah.r⟩,(aO.mpr ⟨⟨_,aam.n,aam.r⟩,(nofun)⟩)⟩;(case hb=>exact(λ_ _=>jM<|lV<|Yx abc c (jA 0)<|jA 1));(case hh=>exact(λ_ _ _ _ d=>jM<|j3<|C_ (Bc c.units) (XT acW (LD c ⋯) rfl ko d (jD (jA 2) jK)<|jW lE) sf))))
 (jM<|j3 VR)
def tM:FnScope Pc Vo (jN NR):=sL rfl rfl rfl ∅
set_option smartUnfolding false in
theorem WU(F:Fun K "law" "law" NR f fd)(aaf:mg "len" = none)(acX:mg "all" = none)(aaK:mg "isinstance" = none)(aa_:mg "tuple" = none)(aaQ:mg "list" = none)(abw:qo P w K mg base 1 "_law_bag" yd qE)(abC:qo P w K mg base 1 "_law_cell" v8 o9)(abb:qo P w K mg base 2 "_law_digit" rK kF)(abR:qo P w K mg base 2 "_law_hearth" sY ny)(abT:qo P w K mg base 3 "_law_order" uZ mK)(aa8:qo P w K mg base 1 "_law_tables" oF jU)(abU:qo P w K mg base 6 "_law_refused" rV lI)(acY:qo P w K mg base 2 "_law_due" xS qA)(abc:AN P w K mg base 5 "matched" vn lK)(abm:AN P w K mg base 23 "number_tables" nP kj)(acZ:qo P w K mg base 24 "_law_led" yo pH):FnOk P w K mg base rQ 25 f fd Vo (sO K 1 BS):=wC (m:=MD) F tM λd B outer s H E c=>
 jG (j0 (i:=1) tM.nd<|Eb abw c (Eb abC c (jA 0) jO) jO)
 (jG (j0 (i:=2) tM.nd<|j_ (lR<|jD jO<|jD jO<|jD jO<|jD jO<|jD jO<|jD jO jK)<|Eb abb c (jA 1) jO)
 (jG (j0 (i:=3) tM.nd<|x_ abR c<|Eb abT c (jA 1)<|jA 2)
 (jG (ng (kG (Bc c.units) (Eb abb c (jA 1) jO) jO)
 (jM<|j0 (i:=2) tM.nd<|ki oZ jO<|ki AR (jA 2) jO)
 kY)
 (jG (j0 (i:=4) tM.nd<|x_ abR c<|Eb abT c (Eb abw c (Eb abC c (jA 0) jO) jO)<|jA 2)
 (jG (JL (i:=5) (N:=["_law_hearth_here"]) (cap:=[none]) tM.nd rfl (nB [] rfl ∅ ∅ ∅ ∅ ∅ (nofun) trivial) (kQ<|lR<|jD (jA 3)<|jD (jA 4) jK) (λ_ _ _ _=>jV (i:=0) (show(["_law_hearth_here"]:ar).Nodup by decide +kernel) rfl (Or.inl rfl)<|.inr rfl) (λ_ _ _ _=>mP) λ_ _ _ _=>lG (N:=["_law_row"]) (cap:=[none]) rfl (nB [] rfl ∅ ∅ ∅ ∅ ∅ (nofun) trivial) (kQ<|j_ (x_ aa8 c<|j_ (jA 0) jO) jO) (λ_ _ _ _=>jV (i:=0) (show(["_law_row"]:ar).Nodup by decide +kernel) rfl (Or.inl rfl)<|.inr rfl) (λ_ _ _ _=>mP) λ_ _ _ _=>j6 oh aaf mH<|jD (jA 0) jK)
 (jG (ng (kG (E1 c.units) (j_ (jA 5) jO)<|j_ (jA 5) jO)
 (jM<|j3<|CP (Eb abU c (jA 3)<|jA 4)<|CH<|Eb abU c (jA 4)<|jA 3)
 kY)
 (jG (j0 (i:=6) tM.nd<|Eb acY c (jA 3)<|jA 4)
 (jG (j0 (i:=7) tM.nd<|Yx abc c (jA 3)<|jA 4)
 (jG (ng (AW.at<|IE (CJ<|qY<|j6 Jy aaK nH<|jD (jA 7)<|jD (Jw aaQ vm) jK)<|IE (CJ<|qY<|j6 (aao rfl) acX Xy<|jD (lG (N:=["_law_pair"]) (cap:=[none]) rfl (nB [] rfl ∅ ∅ ∅ ∅ ∅ (nofun) trivial) (kQ<|jA 7) (λ_ _ _ _=>jV (i:=0) (show(["_law_pair"]:ar).Nodup by decide +kernel) rfl (Or.inl rfl)<|.inr rfl) (λ_ _ _ _=>mP) λ_ _ _ _=>j6 Jy aaK nH<|jD (jA 0)<|jD (Jw aa_ Ai) jK) jK)<|Hz<|kG (E1 c.units) (jA 7)<|jA 6)
 (jM<|j3 VR)
 kY)
 (jG (lV<|Wm PySem.F.slot_list_clear PySem.F.type_list_clear TQ<|jA 7)
 (jM<|j3<|CP (C_ (Bc c.units) (Yx abc c (jA 3)<|jA 4)<|jA 6)<|CH<|C_ (Bc c.units) (fx1 abm c<|jA 3)<|Zc acZ c (jA 3) (jA 4)<|jA 6)))))))))))
end
end K71
namespace Po
open Am
meta abbrev Pl:=List<|Int×Int
abbrev val (d:Pl)(k:Int):Int:=((d.find? λp=>decide<|p.1=k).map (·.2)).getD 0
abbrev has (d:Pl)(k:Int):Bool:=d.any λp=>decide<|p.1=k
abbrev put (d:Pl)(k v:Int):Pl:=if has d k=true then d.map (λp=>if p.1=k then(p.1,v)else p)else d++[(k,v)]
abbrev acc (d:Pl)(k v:Int):Pl:=put d k<|val d k+v
abbrev cf:Pl->Int->Int
 | [],_=>0
 | p::l,k=>(if p.1=k then p.2 else 0)+cf l k
def pO{p:Int×Int}{d:Pl}{k:Int}:val (p::d) k=if p.1=k then p.2 else val d k:=by
 unfold val;rw[bV];by_cases h:p.1=k
 ·rw[aY h,aS h];rfl
 ·rw[bw h,aQ h]
def AH{p:Int×Int}{d:Pl}{k:Int}:has (p::d) k=(decide (p.1=k) || has d k):=rfl
def xw{d:Pl}{k:Int}:has d k=true ↔ k∈d.map Prod.fst:=by
 unfold has;rw[fV,br];constructor
 ·rintro⟨p,h1,h2⟩;exact⟨p,h1,bK h2⟩
 ·rintro⟨p,h1,h2⟩;exact⟨p,h1,aY h2⟩
def OW{d:Pl}{k:Int}(h:has d k=false):val d k=0:=by
 induction d with
 | nil=>rfl
 | cons p d c=>
  rw[AH,iH]at h;rw[pO,aQ<|dB h.1,c h.2]
def Ug{d:Pl}{k v j:Int}(h:has d k=false):val (d++[(k,v)]) j=if j=k then v else val d j:=by
 induction d with
 | nil=>
  show val [(k,v)] j=_;rw[pO];by_cases c:k=j
  ·rw[aS c,aS c.symm]
  ·rw[aQ c,aQ λz=>c z.symm]
 | cons p d e=>
  rw[AH,iH]at h;have:=dB h.1;rw[ja,pO,pO,e h.2];by_cases c:p.1=j
  ·rw[aS c,aS c,aQ λz=>this<|c.trans z]
  ·rw[aQ c,aQ c]
def SX{d:Pl}{k v j:Int}:val (d.map λp=>if p.1=k then(p.1,v)else p) j=if j=k/\has d k=true then v else val d j:=by
 induction d with
 | nil=>
  rw[aQ λz=>by cases z.2];rfl
 | cons p d f=>
  rw[bh,pO,pO,f,AH];by_cases c:p.1=k
  ·rw[aS c,aY c,Bool.true_or];by_cases e:j=k
   ·rw[aS<|show p.1=j by lia,aS ⟨e,rfl⟩]
   ·rw[aQ<|show ¬p.1=j by lia,aQ λz=>e z.1,aQ λz=>e z.1,aQ<|show ¬p.1=j by lia]
  ·rw[aQ c,bw c,gf];by_cases e:p.1=j
   ·rw[aS e,aS e,aQ λz=>c<|e.trans z.1]
   ·rw[aQ e,aQ e]
def RM{d:Pl}{k v j:Int}:val (put d k v) j=if j=k then v else val d j:=by
 unfold put
 cases h:has d k with
 | true=>
  rw[aS rfl,SX,h];by_cases c:j=k
  ·rw[aS ⟨c,rfl⟩,aS c]
  ·rw[aQ λz=>c z.1,aQ c]
 | false=>rw[aQ<|by simp,Ug h]
def Uj{d:Pl}{k v j:Int}:val (acc d k v) j=val d j+if k=j then v else 0:=by
 unfold acc;rw[RM];by_cases c:j=k
 ·subst c;rw[aS rfl,aS rfl]
 ·rw[aQ c,aQ λz=>c z.symm,fj]
def F0{d:Pl}{k v:Int}:(put d k v).map Prod.fst=if has d k=true then d.map Prod.fst else d.map Prod.fst++[k]:=by
 unfold put;split
 ·rw[bD];apply b9;intro p _;show(if p.1=k then(p.1,v)else p).1=p.1;split<;>rfl
 ·rw[bz];rfl
def V1{d:Pl}{k v:Int}(h:(d.map Prod.fst).Nodup):((put d k v).map Prod.fst).Nodup:=by
 rw[F0];split
 ·exact h
 ·rename_i c;rw[cI];refine⟨h,c_ _ _,λa f b e z=>c ?_⟩;rw[aM]at e;rw[xw,<- e,<- z];exact f
def Rm{d:Pl}{k v:Int}:(put d k v).length<=d.length+1:=by
 unfold put;split
 ·rw[aG];lia
 ·rw[bf];exact aL _
abbrev Bd (c:Nat)(d:Pl):Prop:=∀p∈d,p.2.natAbs<=c
theorem Bd.val{c:Nat}{d:Pl}(h:Bd c d)(k:Int):(val d k).natAbs<=c:=by
 induction d with
 | nil=>exact bM _
 | cons p d f=>
  rw[pO];split
  ·exact h p (aN ..)
  ·exact f λq e=>h q<|aK _ e
abbrev qW (d ps:Pl):Pl:=ps.foldl (λd p=>acc d p.1 p.2) d
def Mx(d:Pl):qW d []=d:=rfl
def zP(d ps qs:Pl):qW d (ps++qs)=qW (qW d ps) qs:=by unfold qW;rw[eF]
def wX(ps:Pl):∀(d:Pl) (k:Int),val (qW d ps) k=val d k+cf ps k:=by
 induction ps with
 | nil=>intro d k;rw[Mx];show _=_+0;rw[fj]
 | cons p ps c=>
  intro d k;show val (qW (acc d p.1 p.2) ps) k=_;rw[c,Uj];show _=_+(_+_);rw[iE]
def vC(ps:Pl):∀{d:Pl},(d.map Prod.fst).Nodup->((qW d ps).map Prod.fst).Nodup:=by
 induction ps with
 | nil=>intro d h;exact h
 | cons p ps c=>intro d h;exact c<|V1 h
def uJ(ps:Pl):∀(d:Pl),(qW d ps).length<=d.length+ps.length:=by
 induction ps with
 | nil=>intro d;exact aL _
 | cons p ps c=>
  intro d;have h1:=c<|acc d p.1 p.2;have h2:(acc d p.1 p.2).length<=d.length+1:=Rm;show(qW (acc d p.1 p.2) ps).length<=_;rw[bC]
  lia
structure Ok (l:Pl):Prop where
 up:l.Pairwise λp q=>p.1<q.1
 nz:∀p∈l,p.2≠0
def Ok.tail{p:Int×Int}{l:Pl}(h:Ok (p::l)):Ok l:=⟨(cB.mp h.up).2,λq c=>h.nz q<|aK _ c⟩
def E2{l:Pl}{k:Int}(h:∀p∈l,k<p.1):cf l k=0:=by
 induction l with
 | nil=>rfl
 | cons p l d=>
  show(if p.1=k then p.2 else 0)+cf l k=0;have:=h p<|aN ..;rw[aQ (),d λq c=>h q<|aK _ c];rfl
def Ok.head{p:Int×Int}{l:Pl}(h:Ok (p::l)):cf (p::l) p.1=p.2:=by
 show(if p.1=p.1 then p.2 else 0)+cf l p.1=p.2;rw[aS rfl,E2 (cB.mp h.up).1,fj]
def Ok.low{p:Int×Int}{l:Pl}(h:Ok (p::l)){k:Int}(hk:k<p.1):cf (p::l) k=0:=E2 λq c=>by
 rcases bg.mp c with rfl|z
 ·exact hk
 ·have:=(cB.mp h.up).1 q z;lia
theorem uniq:∀{l m:Pl},Ok l->Ok m->(∀k,cf l k=cf m k)->l=m
 | [],[],_,_,_=>rfl
 | [],q::m,_,h,e=>by
  have:=e q.1;rw[h.head]at this;exact absurd this.symm<|h.nz q<|aN ..
 | p::l,[],h,_,e=>by
  have:=e p.1;rw[h.head]at this;exact absurd this<|h.nz p<|aN ..
 | p::l,q::m,h,h',e=>by
  have d:=h.nz p<|aN ..;have f:=h'.nz q<|aN ..;have e1:p.1=q.1:=by
   rcases Int.lt_trichotomy p.1 q.1 with c|c|c
   ·have:=e p.1;rw[h.head,h'.low c]at this;exact absurd this d
   ·exact c
   ·have:=e q.1;rw[h'.head,h.low c]at this;exact absurd this.symm f
  have e2:p.2=q.2:=by
   have:=e p.1;rw[h.head,e1,h'.head]at this;exact this
  have e3:p=q:=Prod.ext e1 e2;subst e3;rw[uniq h.tail h'.tail λk=>by
   have:(if p.1=k then p.2 else 0)+cf l k=(if p.1=k then p.2 else 0)+cf m k:=e k
   lia]
abbrev KY (d:Pl):Pl:=((sortI<|d.map Prod.fst).filter λk=>val d k != 0).map λk=>(k,val d k)
def Uh{ks:ag}(h:ks.Nodup):(sortI ks).Pairwise (· < ·):=by
 have p:=AK ks;have n:(sortI ks).Nodup:=(sortI_perm ks).nodup_iff.mpr h;have:(sortI ks).Pairwise λa b=>a<=b/\a≠b:=p.and n;exact this.imp λ⟨a,b⟩=>()
def CV{d:Pl}(h:(d.map Prod.fst).Nodup):Ok (KY d):=by
 refine⟨?_,λp hp=>?_⟩
 ·unfold KY;rw[cT];exact(Uh h).filter _
 ·obtain⟨k,c,rfl⟩:=br.mp hp;have:=(ck.mp c).2;simpa using this
theorem NV{d:Pl}{k:Int}:∀{ks:ag},ks.Nodup->cf (ks.map λj=>(j,val d j)) k=if k∈ks then val d k else 0
 | [],_=>by rw[aQ<|by simp];rfl
 | j::ks,h=>by
  obtain⟨h1,h2⟩:=bQ.mp h;show(if j=k then val d j else 0)+cf (ks.map λj=>(j,val d j)) k=_;rw[NV h2];by_cases c:j=k
  ·subst c;rw[aS rfl,aQ h1,aS<|aN ..,fj]
  ·rw[aQ c,cX];by_cases e:k∈ks
   ·rw[aS e,aS<|aK _ e]
   ·rw[aQ e,aQ λz=>(bg.mp z).elim (λz=>c z.symm) e]
def DH{d:Pl}(h:(d.map Prod.fst).Nodup)(k:Int):cf (KY d) k=val d k:=by
 unfold KY;rw[NV<|((sortI_perm _).nodup_iff.mpr h).filter _];split
 ·rfl
 ·rename_i c
  cases e:has d k with
  | false=>exact(OW e).symm
  | true=>
   by_cases z:val d k=0
   ·exact z.symm
   ·exact absurd (ck.mpr ⟨(sortI_perm _).mem_iff.mpr<|xw.mp e,by simpa using z⟩) c
def WE{d e:Pl}(h:(d.map Prod.fst).Nodup)(h':(e.map Prod.fst).Nodup)(hv:∀k,val d k=val e k):KY d=KY e:=
 uniq (CV h) (CV h') λk=>by rw[DH h,DH h',hv]
def Ok.nd{l:Pl}(h:Ok l):(l.map Prod.fst).Nodup:=by
 unfold List.Nodup;rw[cT];exact h.up.imp λa=>()
def MA{l:Pl}(h:(l.map Prod.fst).Nodup)(k:Int):val l k=cf l k:=by
 induction l with
 | nil=>rfl
 | cons p l d=>
  obtain⟨h1,h2⟩:=bQ.mp h;rw[pO];show _=(if p.1=k then p.2 else 0)+cf l k;rw[<- d h2];by_cases c:p.1=k
  ·have:has l k=false:=by
    cases e:has l k with
    | false=>rfl
    | true=>exact absurd (xw.mp e)<|by rw[<- c];exact h1
   rw[aS c,aS c,OW this,fj]
  ·rw[aQ c,aQ c,cX]
abbrev Nl (d ps:Pl):Pl:=ps.foldl (λd p=>put d p.1 p.2) d
theorem IS:∀(ps d:Pl),((d++ps).map Prod.fst).Nodup->Nl d ps=d++ps
 | [],d,_=>by rw[bN];rfl
 | p::ps,d,h=>by
  have hn:has d p.1=false:=by
   cases e:has d p.1 with
   | false=>rfl
   | true=>
    rw[bz,cI]at h;exact absurd rfl<|h.2.2 _ (xw.mp e) p.1<|eO<|aN ..
  have e:put d p.1 p.2=d++[p]:=by unfold put;rw[hn];rfl
  show Nl (put d p.1 p.2) ps=_;rw[e,IS ps (d++[p])<|by rw[cH];exact h,cH];rfl
def IC{l:Pl}(h:Ok l):Nl [] l=l:=IS l [] h.nd
abbrev plus (a b:Pl):Pl:=KY<|qW a b
abbrev qL (a b:Pl):Pl:=KY<|qW []<|a++b
def R_{a:Pl}(h:Ok a):plus a b=qL a b:=by
 refine WE (vC _ h.nd) (vC _ dh) λk=>?_;rw[wX,wX,MA h.nd];have:∀(a b:Pl),cf (a++b) k=cf a k+cf b k:=λa b=>by
  induction a with
  | nil=>exact(cX _).symm
  | cons p a c=>
   show _+cf (a++b) k=_+_+_;rw[c,iE]
 rw[this];show _=0+_;rw[cX]
def AO(a b:Pl):Ok (qL a b):=CV<|vC _ dh
abbrev IY (a b:Pl):Pl:=a.flatMap λp=>b.map λq=>(p.1+q.1,p.2 * q.2)
abbrev times (a b:Pl):Pl:=KY<|qW []<|IY a b
def Ag(a b:Pl):Ok (times a b):=CV<|vC _ dh
def Qn(a:Pl)(p:Int×Int)(b:Pl):IY (a++[p]) b=IY a b++b.map λq=>(p.1+q.1,p.2 * q.2):=by
 unfold IY;rw[f_,fK,jc,bN]
def Iu(a b:Pl):(IY a b).length=a.length * b.length:=by
 induction a with
 | nil=>simp[IY]
 | cons p a c=>
  show((b.map _)++IY a b).length=_;rw[bf,aG,c,bC,iP]
  lia
abbrev turn (a:Pl):Pl:=a.reverse.map λp=>(-p.1,p.2)
abbrev iv (d:Pl):List (Int×A):=d.map λp=>(p.1,.int p.2)
abbrev pA (p:Int×Int):A:=.tup [.int p.1,.int p.2]
abbrev pl (l:Pl):ae:=l.map pA
def Di(d:Pl)(k:Int):nK (iv d) k=(d.find? λp=>decide<|p.1=k).map λp=>.int p.2:=by
 unfold nK iv;rw[ie,fQ];rfl
def G3(d:Pl)(k:Int):(nK (iv d) k).getD (.int 0)=.int (val d k):=by
 rw[Di];unfold val
 cases d.find? λp=>decide (p.1=k)<;>rfl
def EJ{d:Pl}{k:Int}(h:k∈d.map Prod.fst):nK (iv d) k=some (.int<|val d k):=by
 have:=xw.mpr h;unfold has at this;rw[Di];unfold val
 cases e:d.find? λp=>decide (p.1=k)with
 | some p=>rfl
 | none=>
  obtain⟨p,hp,c⟩:=fV.mp this;exact absurd c<|gE.mp e p hp
def GI(d:Pl)(k v:Int):xD (iv d) k (.int v)=iv (put d k v):=by
 have e:(nK (iv d) k).isSome=has d k:=by
  rw[Di,fG];unfold has;rw[Bool.eq_iff_iff,i6,fV]
 unfold xD put;rw[e];unfold iv;split
 ·rw[bD,bD];apply b9;intro p _;show(if p.1=k then(p.1,A.int v)else(p.1,.int p.2))=_;show _=((if p.1=k then(p.1,v)else p).1,A.int (if p.1=k then(p.1,v)else p).2);split<;>rfl
 ·rw[bz];rfl
def SA(d:Pl):(iv d).map Prod.fst=d.map Prod.fst:=by
 unfold iv;rw[bD];rfl
theorem Pn:∀l:Pl,TX (pl l)=some (iv l)
 | []=>rfl
 | p::l=>by
  show(TX<|pl l).map _=_;rw[Pn l];rfl
def IZ(l:Pl):RY (iv l)=iv (Nl [] l):=by
 have:∀(l d:Pl),(iv l).foldl (λacc p=>xD acc p.1 p.2) (iv d)=iv (Nl d l):=by
  intro l
  induction l with
  | nil=>intro d;rfl
  | cons p l c=>
   intro d;show(iv l).foldl _ (xD (iv d) p.1<|.int p.2)=_;rw[GI,c];rfl
 exact this l []
end Po
namespace Tb
abbrev fg (r:ag)(x:Int):Nat:=r.findIdx λy=>decide<|x<y
def Vb(r:ag)(x:Int):fg r x<=r.length:=List.findIdx_le_length
def Z6{r:ag}{x:Int}(h:fg r x≠r.length):fg r x<r.length:=Nat.lt_of_le_of_ne (Vb r x) h
abbrev put:List (ag)->Int->List (ag)
 | [],x=>[[x]]
 | r::rs,x=>if fg r x=r.length then(r++[x])::rs else r.set (fg r x) x::put rs (r.getD (fg r x) 0)
abbrev row:List (ag)->Int->Nat
 | [],_=>0
 | r::rs,x=>if fg r x=r.length then 0 else row rs (r.getD (fg r x) 0)+1
def Ih{r:ag}{x:Int}(h:fg r x=r.length):put (r::rs) x=(r++[x])::rs:=aS h
def O4{r:ag}{x:Int}(h:fg r x≠r.length):put (r::rs) x=r.set (fg r x) x::put rs (r.getD (fg r x) 0):=aQ h
def C4{r:ag}{x:Int}(h:fg r x=r.length):row (r::rs) x=0:=aS h
def G8{r:ag}{x:Int}(h:fg r x≠r.length):row (r::rs) x=row rs (r.getD (fg r x) 0)+1:=aQ h
theorem Qp:∀(T:List<|ag) (x:Int),row T x<=T.length
 | [],_=>aL _
 | r::rs,x=>by
  by_cases h:fg r x=r.length
  ·rw[C4 h];exact bM _
  ·rw[G8 h,bC];exact Nat.succ_le_succ<|Qp rs _
abbrev bump:am->Nat->am
 | [],_=>[1]
 | n::ns,0=>(n+1)::ns
 | n::ns,i+1=>n::bump ns i
theorem vq:∀(T:List<|ag) (x:Int),(put T x).map List.length=bump (T.map List.length) (row T x)
 | [],_=>rfl
 | r::rs,x=>by
  by_cases h:fg r x=r.length
  ·rw[Ih h,C4 h,bh,bh,bf];rfl
  ·rw[O4 h,G8 h,bh,bh,cu,vq rs];rfl
theorem EH:∀(ns:am) (i:Nat),(bump ns i).sum=ns.sum+1
 | [],_=>rfl
 | n::ns,0=>by simp[bump];lia
 | n::ns,i+1=>by simp[bump,EH ns i];lia
def zZ(T:List<|ag)(j:Nat):(T.map List.length).getD j 0=(T.getD j []).length:=by
 rw[aJ,aJ,aV]
 cases T[j]?<;>rfl
def UH(T:List<|ag)(x:Int):((put T x).map List.length).sum=(T.map List.length).sum+1:=by
 rw[vq,EH]
abbrev add:List (ag)->Nat->Int->List (ag)
 | [],_,k=>[[k]]
 | q::qs,0,k=>(q++[k])::qs
 | q::qs,i+1,k=>q::add qs i k
theorem Bx:∀(Q:List<|ag) (i:Nat) (k:Int),(add Q i k).map List.length=bump (Q.map List.length) i
 | [],_,_=>rfl
 | q::qs,0,k=>by simp[add,bump]
 | q::qs,i+1,k=>by simp[add,bump,Bx qs i k]
theorem Io:∀(Q:List<|ag) (k:Int),add Q Q.length k=Q++[[k]]
 | [],_=>rfl
 | q::qs,k=>by show q::add qs qs.length k=_;rw[Io qs k];rfl
theorem PJ:∀(Q:List<|ag) (i:Nat) (k:Int),i<Q.length->add Q i k=Q.set i (Q.getD i []++[k])
 | [],_,_,h=>absurd h (eo _)
 | q::qs,0,k,_=>rfl
 | q::qs,i+1,k,h=>by show q::add qs i k=_;rw[PJ qs i k<|Nat.lt_of_succ_lt_succ h];rfl
abbrev tabs (xs:ag):Nat->List (ag)×List (ag)
 | 0=>([],[])
 | i+1=>(put (tabs xs i).1<|xs.getD i 0,add (tabs xs i).2 (row (tabs xs i).1<|xs.getD i 0)<|(i:Int)+1)
theorem vW(xs:ag):∀i,(tabs xs i).2.map List.length=(tabs xs i).1.map List.length
 | 0=>rfl
 | i+1=>by
  show(add _ _ _).map List.length=(put _ _).map List.length;rw[Bx,vq,vW xs i]
def Oa(xs:ag)(i:Nat):(tabs xs i).2.length=(tabs xs i).1.length:=by
 have:=c7 List.length<|vW xs i;simpa using this
theorem Ay(xs:ag):∀i,((tabs xs i).1.map List.length).sum=i
 | 0=>rfl
 | i+1=>by
  show((put _ _).map List.length).sum=_;rw[UH,Ay xs i]
theorem zJ:∀{ns:am},(∀n∈ns,0<n)->ns.length<=ns.sum
 | [],_=>aL _
 | n::ns,h=>by
  have h1:=h n<|aN ..;have h2:=zJ λm c=>h m<|aK _ c;rw[bC,eL];lia
theorem BU:∀(ns:am) (j:Nat),ns.getD j 0<=ns.sum
 | [],j=>by simp
 | n::ns,0=>by simp
 | n::ns,j+1=>by have:=BU ns j;rw[eL];dsimp[List.getD_cons_succ];lia
theorem EF:∀{ns:am}{i:Nat},(∀n∈ns,0<n)->∀n∈bump ns i,0<n
 | [],_,_,n,h=>by simp[bump]at h;lia
 | m::ns,0,hp,n,h=>by
  rcases bg.mp h with z|z
  ·lia
  ·exact hp n<|aK _ z
 | m::ns,i+1,hp,n,h=>by
  rcases bg.mp h with z|z
  ·rw[z];exact hp m (aN ..)
  ·exact EF (λk c=>hp k<|aK _ c) n z
theorem F8(xs:ag):∀i,∀n∈(tabs xs i).1.map List.length,0<n
 | 0=>λn h=>by cases h
 | i+1=>by
  show ∀n∈(put _ _).map List.length,0<n;rw[vq];exact EF<|F8 xs i
def GH(xs:ag)(i:Nat):(tabs xs i).1.length<=i/\∀j,((tabs xs i).1.getD j []).length<=i:=by
 refine⟨?_,λj=>?_⟩
 ·have:=zJ<|F8 xs i;rw[Ay,aG]at this;exact this
 ·have:=BU ((tabs xs i).1.map List.length) j;rw[zZ,Ay]at this;exact this
abbrev gs (r:ag)(x:Int):am:=(List.range r.length).filter λk=>decide<|x<r.getD k 0
end Tb
namespace Am
open PySem L2
abbrev Rows (S:jF):am->List (ag)->Prop
 | [],[]=>True
 | r::rs,x::T=>jE S r=some (x.map .int)/\Rows S rs T
 | _,_=>False
theorem Rows.len:∀{rs:am}{T:List<|ag},Rows S rs T->rs.length=T.length
 | [],[],_=>rfl
 | _::_,_::_,h=>c7 (·+1) (Rows.len h.2)
 | [],_::_,h=>h.elim
 | _::_,[],h=>h.elim
theorem Rows.get:∀{rs:am}{T:List<|ag}{i:Nat}{r:Nat},Rows S rs T->rs[i]?=some r->i<T.length/\jE S r=some ((T.getD i []).map .int)
 | [],[],_,_,_,e=>by simp at e
 | r::rs,x::T,0,_,h,e=>by simp at e;subst e;exact⟨Nat.zero_lt_succ _,h.1⟩
 | r::rs,x::T,i+1,q,h,e=>by
  obtain⟨h1,h2⟩:=Rows.get (i:=i) (r:=q) h.2 (by simpa using e);exact⟨Nat.succ_lt_succ h1,by simpa using h2⟩
 | [],_::_,_,_,h,_=>h.elim
 | _::_,[],_,_,h,_=>h.elim
theorem Rows.mono:∀{rs:am}{T:List<|ag},Rows S rs T->(∀r∈rs,∀xs,jE S r=some xs->jE S' r=some xs)->Rows S' rs T
 | [],[],_,_=>trivial
 | r::rs,x::T,h,k=>⟨k r (aN ..) _ h.1,Rows.mono h.2 λq c=>k q<|aK _ c⟩
 | [],_::_,h,_=>h.elim
 | _::_,[],h,_=>h.elim
theorem Rows.set{S:jF}{ys:ag}:∀{rs:am}{T:List<|ag}{i:Nat}{r:Nat},Rows S rs T->rs.Nodup->rs[i]?=some r->Rows (S.set r<|.lst<|ys.map .int) rs (T.set i ys)
 | [],[],_,_,_,_,e=>by simp at e
 | r::rs,x::T,0,q,h,nd,e=>by
  simp at e;subst e;refine⟨qz<|mq h.1,Rows.mono h.2 λq d xs e=>?_⟩;rw[mj<|show r≠q from λz=>(bQ.mp nd).1<|by rw[z];exact d];exact e
 | r::rs,x::T,i+1,q,h,nd,e=>by
  have c:rs[i]?=some q:=by simpa using e
  refine⟨?_,Rows.set h.2 (bQ.mp nd).2 c⟩;rw[mj<|show q≠r from λz=>(bQ.mp nd).1<|by rw[<- z];exact bq c];exact h.1
 | [],_::_,_,_,h,_,_=>h.elim
 | _::_,[],_,_,h,_,_=>h.elim
theorem Rows.app:∀{rs rs':am}{T T':List<|ag},Rows S rs T->Rows S rs' T'->Rows S (rs++rs') (T++T')
 | [],_,[],_,_,h=>h
 | r::rs,_,x::T,_,h,h'=>⟨h.1,Rows.app h.2 h'⟩
 | [],_,_::_,_,h,_=>h.elim
 | _::_,_,[],_,h,_=>h.elim
theorem yt{n:Nat}:∀{rs rs':am}{T T':List<|ag},Rows S rs T->Rows S rs' T'->pR (oX S<|n+2) (rs.map .ref) (rs'.map .ref)=some (decide<|T=T')
 | [],[],[],[],_,_=>rfl
 | [],_::_,[],_::_,_,_=>rfl
 | _::_,[],_::_,[],_,_=>rfl
 | r::rs,q::qs,x::T,y::T',h,h'=>by
  show(oX S (n+2) (.ref r)<|.ref q).bind _=_;have e:oX S (n+2) (.ref r) (.ref q)=some (decide<|x=y):=by
   show(jE S r).bind (λxs=>(jE S q).bind λys=>pR (oX S<|n+1) xs ys)=_;rw[h.1,bL,h'.1,bL];exact qH x y
  rw[e,bL]
  skip
  rw[yt h.2 h'.2]
  skip
  by_cases h1:x=y<;>by_cases h2:T=T'<;>simp[h1,h2]
 | [],_,_::_,_,h,_=>h.elim
 | _::_,_,[],_,h,_=>h.elim
 | _,[],_,_::_,_,h=>h.elim
 | _,_::_,_,[],_,h=>h.elim
structure Tab (S:jF)(n:Nat)(rs:am)(T:List (ag)):Prop where
 top:jE S n=some (rs.map .ref)
 rows:Rows S rs T
 nd:(n::rs).Nodup
def Tab.len{n:Nat}{rs:am}{T:List<|ag}(h:Tab S n rs T):rs.length=T.length:=h.rows.len
def Tab.kp{n:Nat}{c:Nat->Prop}(h:Tab S n rs T)(k:Kp c S S')(hc:∀r∈n::rs,¬c r):Tab S' n rs T:=
 ⟨k.lst _ _ (hc n<|aN ..) h.top,h.rows.mono λr d xs e=>k.lst r xs (hc r<|aK _ d) e,h.nd⟩
def Tab.vp{n:Nat}(h:Tab S n rs T)(k:kK S S'):Tab S' n rs T:=h.kp k λ_ _ z=>z
def Rows.lt{S:jF}{rs:am}(h:Rows S rs T):∀r∈rs,r<S.length:=λr d=>by
 obtain⟨i,c,e⟩:=fP.mp d;exact mq (h.get<|by rw[aF c,e]).2
def Tab.lt{S:jF}{n:Nat}(h:Tab S n rs T):∀r∈n::rs,r<S.length:=λr c=>by
 rcases bg.mp c with z|z
 ·rw[z];exact mq h.top
 ·exact h.rows.lt r z
def Tab.set{S:jF}{n:Nat}{T:List<|ag}{i r:Nat}{ys:ag}(h:Tab S n rs T)(hi:rs[i]?=some r):Tab (S.set r<|.lst<|ys.map .int) n rs (T.set i ys):=
 ⟨by rw[mj<|show r≠n from λz=>(bQ.mp h.nd).1<|by rw[<- z];exact bq hi];exact h.top,h.rows.set (bQ.mp h.nd).2 hi,h.nd⟩
def Tab.push{S:jF}{n:Nat}{ys:ag}(h:Tab S n rs T):Tab ((S++[O.lst<|ys.map .int]).set n<|.lst<|(rs++[S.length]).map .ref) n (rs++[S.length]) (T++[ys]):=by
 have hn:n<S.length:=h.lt n<|aN ..;have d:∀r∈rs,n≠r:=λr c z=>(bQ.mp h.nd).1<|z ▸ c;refine⟨qz<|by rw[bf];simp;lia,Rows.app (h.rows.mono λr c xs e=>?_) ⟨?_,trivial⟩,?_⟩
 ·rw[mj<|d r c];exact j9 e
 ·rw[mj ()];exact jR
 ·rw[bQ,cI];refine⟨λz=>?_,(bQ.mp h.nd).2,by simp,λa j b f z=>?_⟩
  ·rcases bE.mp z with z|z
   ·exact d n z rfl
   ·have:n=S.length:=by simpa using z
    lia
  ·have g:b=S.length:=by simpa using f
   have:=h.rows.lt a j
   lia
def Tab.eq{n:Nat}(h:Tab S n rs T)(h':Tab S m qs U):oX S 12 (.ref n) (.ref m)=some (decide<|T=U):=by
 show(jE S n).bind (λxs=>(jE S m).bind λys=>pR (oX S 11) xs ys)=_;rw[h.top,bL,h'.top,bL];exact yt h.rows h'.rows
def Tab.nil{n:Nat}(h:jE S n=some []):Tab S n [] []:=⟨h,trivial,by simp⟩
def eq_nil{a:Nat}{xs:ae}(h:jE S a=some xs)(h':jE S b=some []):oX S 12 (.ref a) (.ref b)=some xs.isEmpty:=by
 show(jE S a).bind (λxs=>(jE S b).bind λys=>pR (oX S 11) xs ys)=_;rw[h,bL,h',bL]
 cases xs<;>rfl
def M9{a:Nat}{xs ys:ag}(h:jE S a=some (xs.map .int))(h':jE S b=some (ys.map .int)):oX S 12 (.ref a) (.ref b)=some (decide<|xs=ys):=by
 show(jE S a).bind (λxs=>(jE S b).bind λys=>pR (oX S 11) xs ys)=_;rw[h,bL,h',bL];exact qH xs ys
def Az{a:A}{k:Bool}(h:oX S 12 a b=some k):sd false a b S=.ok (.bl k) S:=by unfold sd;rw[h];rfl
def CI{a:A}{k:Bool}(h:oX S 12 a b=some k):sd true a b S=.ok (.bl<|!k) S:=by unfold sd;rw[h];rfl
def Qt{xs:ae}{n:Nat}{src:Ic}{t:Te}{e:Ex}{S:jF}(hs:src τ S=.ok (kB n xs.length) S)(hx:jE S n=some xs)(p:A->Bool)(f:A->A)
  (ht:∀x∈xs,t (x::lN cap τ) S=.ok (p x) S) (he:∀x∈xs,p x=true->e (x::lN cap τ) S=.ok (f x) S) (hl:xs.length<=16777216) :
  jZ (none::cap) src (j4 0) t e τ S=.ok (.ref S.length) (S++[.lst<|(xs.filter p).map f]):=by
 have d:∀i,i<xs.length->xs.getD i .unb∈xs:=λi c=>by
  rw[aJ,aF c];exact cj c
 rw[BQ hs (λi=>xs.getD i .unb) (λi=>p<|xs.getD i .unb) (λi=>f<|xs.getD i .unb) (λi c=>by
  have c:i<xs.length:=c;show(jE S n).bind _=_;rw[hx,bL,aJ,aF c];rfl) (by
   show(match jE S n with
    | some ys=>decide (ys.length<=xs.length)
    | none=>false)=true
   rw[hx];simp) (λi c=>ht _<|d i c) (λi c=>he _<|d i c) hl]
 have:=pB xs p f .unb;show R.ok _ (S++[O.lst<|((List.range xs.length).filter _).map _])=_;rw[this]
def getD_at{r:ag}{k:Nat}(h:k<r.length):r[k]?=some (r.getD k 0):=by rw[aJ,aF h];rfl
def AQ{r:ag}{i:Int}{k:Nat}(h:i=k)(hk:k<r.length):qZ (r.map A.int) i=some (.int<|r.getD k 0):=Cv h<|getD_at hk
end Am
namespace Am
open PySem L2 Po
def MQ(l:Pl):(pl l).length=l.length:=aG ..
def Ls{xs:ae}{n:Nat}{src:Ic}{t:Te}{e:Ex}{S1:jF}(hs:src τ S=.ok (kB n xs.length) S1)(hx:jE S1 n=some xs)(p:A->Bool)(f:A->A)
  (ht:∀x∈xs,t (x::lN cap τ) S1=.ok (p x) S1) (he:∀x∈xs,p x=true->e (x::lN cap τ) S1=.ok (f x) S1) (hl:xs.length<=16777216) :
  jZ (none::cap) src (j4 0) t e τ S=.ok (.ref S1.length) (S1++[.lst<|(xs.filter p).map f]):=by
 have:=Qt (S:=S1) (src:=λ_ _=>.ok (kB n xs.length) S1) (τ:=τ) rfl hx p f ht he hl;unfold jZ at this ⊢;rw[hs];exact this
def GB{S:jF}{d:List<|Int×A}:mz (S++[.qG d]) S.length=some d:=Dk CZ
def Xm{o:O}{n:Nat}{d:List<|Int×A}(h:mz S n=some d):mz (S++[o]) n=some d:=by
 have h':=qw h;exact Dk<|by rw[bB (aI.mp h').1];exact h'
def U4{S:jF}{n:Nat}{d:List<|Int×A}(h:mz S n=some d):n<S.length:=(aI.mp<|qw h).1
def M7{S:jF}{n:Nat}{d:List<|Int×A}(h:n<S.length):mz (S.set n<|.qG d) n=some d:=Dk<|bJ h
def KA{n:Nat}{d:List<|Int×A}(h:mz S n=some d)(h':jE S m=some xs):n≠m:=λz=>by
 subst z;have e1:=qw h;rw[jS h']at e1
 cases e1
def Cu{f:A->ae->jF->R A}{co:Ex}{d:qC}:Hq f co d τ S=(co τ S).bind λx S1=>opt (dk? x S1) λ_=>(d τ S1).bind λas S2=>f x as S2:=rfl
def Hw{n:Nat}:dk? (.ref n) S=(mz S n).map λ_=>Unit.unit:=rfl
def Aq{n:Nat}{k:Int}:wI (.ref n) [.int k,y] S=opt (mz S n) λkvs=>.ok ((nK kvs k).getD y) S:=rfl
def JP{co ci:Ex}{a:A}:LA co ci a τ S=(co τ S).bind λo S1=>(ci τ S1).bind λi S2=>(BN o i a S2).bind λ_ S3=>.ok τ S3:=rfl
def Ef{n:Nat}{k:Int}{v:A}{S:jF}:BN (.ref n) (.int k) v S=opt (mz S n) λkvs=>gd (kvs.length<sizeLine) (.ok Unit.unit<|S.set n<|.qG<|xD kvs k v):=rfl
def J1{n:Nat}{k:Int}:Av (.ref n) (.int k) S=opt (mz S n) λkvs=>opt (nK kvs k) λv=>.ok v S:=rfl
def LJ{S:jF}:Gk τ S=.ok (.ref S.length) (S++[.qG []]):=rfl
def B8{n:Nat}{S:jF}:C2 (.ref n) S=opt (jE S n) λxs=>opt (TX xs) λps=>.ok (.ref S.length) (S++[.qG<|RY ps]):=rfl
def abH{i j:Int}(h:i.natAbs<big)(h':j.natAbs<big):JC (.int i) (.int j) S=.ok (.int<|i * j) S:=oM ⟨h,h'⟩
def MJ(d:Pl):(iv d).length=d.length:=aG ..
meta abbrev YA:Sm:=kc (jI nE (Hq wI (jB 2)<|jC (jB 3)<|jC (eC<|.int 0)<|jH)<|jB 4)<|LA (jB 2)<|jB 3
def acc_step{S:jF}{d:Nat}{D:Pl}{k v:Int}(hd:mz S d=some (iv D))(hl:D.length<16777216):YA [x0,x1,.ref d,.int k,.int v] S=.nx [x0,x1,.ref d,.int k,.int v] (S.set d<|.qG<|iv<|acc D k v):=by
 unfold YA;dsimp[j8,bools,Cu,Hw,hd,fu,Aq,G3,JP,Ef,qm<|show(iv D).length<16777216 by rw[MJ];exact hl,GI];rfl
meta abbrev Rg:Tg:=zm 2<|rE (j4 3)<|rE (j4 4) zx
def RC{d n:Nat}{D l:Pl}{src:Ic}(hs:src [x0,x1,.ref d,x3,x4] S=.ok (kB n (pl l).length) S1)(hn:jE S1 n=some (pl l))(hd:mz S1 d=some (iv D))(hl:D.length+l.length<16777216) :
  ∃y3 y4 S',m_ src Rg YA [x0,x1,.ref d,x3,x4] S=.nx [x0,x1,.ref d,y3,y4] S'/\mz S' d=some (iv<|qW D l)/\Kp (·=d) S1 S':=by
 have nd:=KA hd hn;refine rC (n:=n) (xs:=pl l) hs (λi τ T=>(∃y3 y4,τ=[x0,x1,.ref d,y3,y4])/\mz T d=some (iv<|qW D<|l.take i)/\Kp (·=d) S1 T)
  (λr=>∃y3 y4 S',r=.nx [x0,x1,.ref d,y3,y4] S'/\mz S' d=some (iv<|qW D l)/\Kp (·=d) S1 S') ⟨⟨_,_,rfl⟩,hd,Kp.refl⟩ (λi τ T h=>h.2.2.lst _ _ (cK nd) hn) ?_ ?_
 ·rintro i z τ T f ⟨⟨y3,y4,rfl⟩,c,kp⟩;unfold pl at f;rw[aV]at f;obtain⟨p,hp,rfl⟩:=aW.mp f;refine⟨[x0,x1,.ref d,.int p.1,.int p.2],T,rfl,.inl ?_⟩;have e:=uJ (l.take i) D;have g:=(aI.mp hp).1;rw[cO]at e;refine⟨_,_,acc_step c<|by omega,⟨_,_,rfl⟩,?_,kp.ye<|.inl rfl⟩;rw[M7<|U4 c,bY,hp,zP];rfl
 ·rintro τ T ⟨⟨y3,y4,rfl⟩,c,kp⟩;rw[MQ,bU]at c;exact⟨y3,y4,T,rfl,c,kp⟩
meta abbrev T_:Sm:=kc (jI nE (Hq wI (jB 2)<|jC (jI nE (jB 3)<|jB 5)<|jC (eC<|.int 0)<|jH)<|jI JC (jB 4)<|jB 6)<|LA (jB 2)<|jI nE (jB 3)<|jB 5
meta abbrev g56:Tg:=zm 2<|rE (j4 5)<|rE (j4 6) zx
def Nc{S:jF}{d:Nat}{D:Pl}{k v j u:Int}(hd:mz S d=some (iv D))(hl:D.length<16777216)(hv:v.natAbs<big)(hu:u.natAbs<big):T_ [x0,x1,.ref d,.int k,.int v,.int j,.int u] S=.nx [x0,x1,.ref d,.int k,.int v,.int j,.int u] (S.set d<|.qG<|iv<|acc D (k+j)<|v * u):=by
 unfold T_;dsimp[j8,bools,Cu,Hw,hd,fu,Aq,G3,abH hv hu,JP,Ef,qm<|show(iv D).length<16777216 by rw[MJ];exact hl,GI];rfl
def Tu{d n:Nat}{D l:Pl}{k v:Int}(hn:jE S n=some (pl l))(hd:mz S d=some (iv D))(hl:D.length+l.length<16777216)(hv:v.natAbs<big)(hu:∀p∈l,p.2.natAbs<big) :
  ∃y5 y6 S',m_ (kD<|jB 1) g56 T_ [x0,.ref n,.ref d,.int k,.int v,x5,x6] S=.nx [x0,.ref n,.ref d,.int k,.int v,y5,y6] S'/\mz S' d=some (iv<|qW D<|l.map λq=>(k+q.1,v * q.2))/\Kp (·=d) S S':=by
 have nd:=KA hd hn;refine rC (n:=n) (xs:=pl l) (S1:=S) (kR (by dsimp[j8,bools]) hn) (λi τ T=>(∃y5 y6,τ=[x0,.ref n,.ref d,.int k,.int v,y5,y6])/\mz T d=some (iv<|qW D<|(l.take i).map λq=>(k+q.1,v * q.2))/\Kp (·=d) S T)
  (λr=>∃y5 y6 S',r=.nx [x0,.ref n,.ref d,.int k,.int v,y5,y6] S'/\mz S' d=some (iv<|qW D<|l.map λq=>(k+q.1,v * q.2))/\Kp (·=d) S S') ⟨⟨_,_,rfl⟩,hd,Kp.refl⟩ (λi τ T h=>h.2.2.lst _ _ (cK nd) hn) ?_ ?_
 ·rintro i z τ T f ⟨⟨y5,y6,rfl⟩,c,kp⟩;unfold pl at f;rw[aV]at f;obtain⟨p,hp,rfl⟩:=aW.mp f;refine⟨[x0,.ref n,.ref d,.int k,.int v,.int p.1,.int p.2],T,rfl,.inl ?_⟩;have e:=uJ ((l.take i).map λq=>(k+q.1,v * q.2)) D;have g:=(aI.mp hp).1;rw[aG,cO]at e;refine⟨_,_,Nc c (by omega) hv<|hu p<|bq hp,⟨_,_,rfl⟩,?_,kp.ye<|.inl rfl⟩;rw[M7<|U4 c,bY,hp,bz,zP];rfl
 ·rintro τ T ⟨⟨y5,y6,rfl⟩,c,kp⟩;rw[MQ,bU]at c;exact⟨y5,y6,T,rfl,c,kp⟩
meta abbrev Yb:Sm:=m_ (kD<|jB 1) g56 T_
def GP(f:Int×Int->A)(hf:∀p τ S,Rg (f p) τ S=Rg (pA p) τ S){d n:Nat}{a b:Pl}(hn:jE S n=some (a.map f))(hm:jE S m=some (pl b))(hd:mz S d=some [])(hl:a.length * b.length<16777216)(ha:∀p∈a,p.2.natAbs<big)(hb:∀p∈b,p.2.natAbs<big) :
  ∃y3 y4 y5 y6 S',m_ (kD<|jB 0) Rg Yb [.ref n,.ref m,.ref d,x3,x4,x5,x6] S=.nx [.ref n,.ref m,.ref d,y3,y4,y5,y6] S'/\mz S' d=some (iv<|qW []<|IY a b)/\Kp (·=d) S S':=by
 have nd:=KA hd hn;have F:=KA hd hm;refine rC (n:=n) (xs:=a.map f) (S1:=S) (kR (by dsimp[j8,bools]) hn) (λi τ T=>(∃y3 y4 y5 y6,τ=[.ref n,.ref m,.ref d,y3,y4,y5,y6])/\mz T d=some (iv<|qW []<|IY (a.take i) b)/\Kp (·=d) S T)
  (λr=>∃y3 y4 y5 y6 S',r=.nx [.ref n,.ref m,.ref d,y3,y4,y5,y6] S'/\mz S' d=some (iv<|qW []<|IY a b)/\Kp (·=d) S S') ⟨⟨_,_,_,_,rfl⟩,hd,Kp.refl⟩ (λi τ T h=>h.2.2.lst _ _ (cK nd) hn) ?_ ?_
 ·rintro i z τ T t ⟨⟨y3,y4,y5,y6,rfl⟩,g,kp⟩;rw[aV]at t;obtain⟨p,hp,rfl⟩:=aW.mp t;refine⟨[.ref n,.ref m,.ref d,.int p.1,.int p.2,y5,y6],T,hf _ _ _,.inl ?_⟩;have c:=uJ (IY (a.take i) b) [];have B:=(aI.mp hp).1;rw[Iu,cO,Nat.min_eq_left<|dJ B,eg,bW]at c;have C:i * b.length+b.length<=a.length * b.length:=by rw[<- iP];exact iI _ B
  obtain⟨K,G,J,e,q,j⟩:=Tu (x0:=.ref n) (x5:=y5) (x6:=y6) (k:=p.1) (v:=p.2) (kp.lst _ _ (cK F) hm) g () (ha p<|bq hp) hb;refine⟨_,_,e,⟨_,_,_,_,rfl⟩,?_,kp.trans j⟩;rw[q,bY,hp,Option.toList_some,Qn,zP]
 ·rintro τ T ⟨⟨y3,y4,y5,y6,rfl⟩,g,kp⟩;rw[aG,bU]at g;exact⟨y3,y4,y5,y6,T,rfl,g,kp⟩
end Am
namespace Su
open Am Po PySem L2
meta abbrev En:=ag×Nat×Pl
meta abbrev Es:=List En
abbrev ent (e:En):A:=.tup [.tup<|e.1.map .int,.ref e.2.1]
abbrev kv (e:En):ag×A:=(e.1,.ref e.2.1)
abbrev At (S:jF)(es:Es):Prop:=∀e∈es,jE S e.2.1=some (pl e.2.2)
meta abbrev Ps:=List<|ag×Pl
abbrev sm (es:Es):Ps:=es.map λe=>(e.1,e.2.2)
def AM(es:Es):(sm es).length=es.length:=aG ..
def Gq(a b:Es):sm (a++b)=sm a++sm b:=bz
abbrev vS (D:Ps)(o:ag):Pl:=((D.find? λe=>decide<|e.1=o).map (·.2)).getD []
abbrev hS (D:Ps)(o:ag):Bool:=D.any λe=>decide<|e.1=o
abbrev zo (D:Ps)(o:ag)(p:Pl):Ps:=if hS D o=true then D.map (λe=>if e.1=o then(e.1,p)else e)else D++[(o,p)]
abbrev zB (D:Ps)(o:ag)(p:Pl):Ps:=zo D o<|qL (vS D o) p
abbrev adds (D l:Ps):Ps:=l.foldl (λD e=>zB D e.1 e.2) D
def OH(D a b:Ps):adds D (a++b)=adds (adds D a) b:=by unfold adds;rw[eF]
abbrev toS (D:Ps):Ps:=((mO<|D.map Prod.fst).filter λo=>!(vS D o).isEmpty).map λo=>(o,vS D o)
abbrev fE (D:Es)(o:ag):Option En:=D.find? λe=>decide<|e.1=o
abbrev rA (D:Es)(o:ag)(r:Nat)(p:Pl):Es:=if (fE D o).isSome=true then D.map (λe=>if e.1=o then(e.1,r,p)else e)else D++[(o,r,p)]
def SO(D:Es)(o:ag):(sm D).find? (λe=>decide<|e.1=o)=(fE D o).map λe=>(e.1,e.2.2):=by
 unfold sm fE;rw[ie];rfl
def Ly(D:Es)(o:ag):vS (sm D) o=((fE D o).map λe=>e.2.2).getD []:=by
 unfold vS;rw[SO,fQ];rfl
def abA(D:Es)(o:ag):hS (sm D) o=(fE D o).isSome:=by
 unfold hS sm fE;rw[List.any_map,Bool.eq_iff_iff,i6,fV];rfl
def O0(D:Es)(o:ag)(r:Nat)(p:Pl):sm (rA D o r p)=zo (sm D) o p:=by
 unfold rA zo;rw[abA];unfold sm;split
 ·rw[bD,bD];apply b9;intro e _;show((if e.1=o then(e.1,r,p)else e).1,(if e.1=o then(e.1,r,p)else e).2.2)=if e.1=o then(e.1,p)else(e.1,e.2.2)
  split<;>rfl
 ·rw[bz];rfl
def vj(D:Es)(o:ag):mw (D.map kv) o=(fE D o).map λe=>.ref e.2.1:=by
 unfold mw fE;rw[ie,fQ];rfl
def OT(D:Es)(o:ag)(r:Nat)(p:Pl):putD (D.map kv) o (.ref r)=(rA D o r p).map kv:=by
 unfold putD rA;rw[vj,fG];split
 ·rw[bD,bD];apply b9;intro e _;show(if e.1=o then(e.1,A.ref r)else(e.1,.ref e.2.1))=kv (if e.1=o then(e.1,r,p)else e);split<;>rfl
 ·rw[bz];rfl
def tK{D:Es}{r:Nat}{p:Pl}{e:En}(h:e∈rA D o r p):e∈D\/e=(o,r,p):=by
 unfold rA at h;split at h
 ·obtain⟨d,h1,rfl⟩:=br.mp h;split
  ·rename_i c;exact .inr (by rw[c])
  ·exact .inl h1
 ·rcases bE.mp h with z|z
  ·exact .inl z
  ·exact .inr<|aM.mp z
def Tz{D:Es}{r:Nat}{p:Pl}:(rA D o r p).length<=D.length+1:=by
 unfold rA;split
 ·rw[aG];lia
 ·rw[bf];exact aL _
def tW{D:Es}{e:En}(h:fE D o=some e):e∈D/\e.1=o:=⟨cY h,by
 unfold fE at h;have:=gz h;simpa using this⟩
def At.put{D:Es}{r:Nat}{p:Pl}(h:At S D)(hr:jE S r=some (pl p)):At S (rA D o r p):=λe c=>by
 rcases tK c with z|z
 ·exact h e z
 ·rw[z];exact hr
def At.kp{D:Es}{b:Nat->Prop}(h:At S D)(k:Kp b S S')(hb:∀e∈D,¬b e.2.1):At S' D:=λe c=>k.lst _ _ (hb e c)<|h e c
def At.vp{D:Es}(h:At S D)(k:kK S S'):At S' D:=h.kp k λ_ _ z=>z
def At.app{a:Es}(h:At S a)(h':At S b):At S (a++b):=λe c=>(bE.mp c).elim (h e)<|h' e
def uK{n:Nat}{d:List<|ag×A}(h:ku S n=some d)(h':jE S m=some xs):n≠m:=λz=>by
 subst z;have e1:=nJ h;rw[jS h']at e1
 cases e1
def At.LZ{D:Es}{d:Nat}(h:At S D)(k:Kp (·=d) S S')(hd:ku S d=some kvs):At S' D:=h.kp k λe c z=>uK hd (h e c) z.symm
abbrev Vl (k b:Nat)(D:Es):Prop:=∀e∈D,Ok e.2.2/\e.2.2.length<=k/\b<=e.2.1
def Vl.v{k:Nat}{D:Es}(h:Vl k b D)(o:ag):Ok (vS (sm D) o)/\(vS (sm D) o).length<=k:=by
 rw[Ly]
 cases e:fE D o with
 | none=>exact⟨⟨List.Pairwise.nil,nofun⟩,bM _⟩
 | some c=>exact⟨(h c (tW e).1).1,(h c (tW e).1).2.1⟩
def rF{S:jF}:ku (S++[.dct xs]) S.length=some xs:=xg CZ
def D5{o:O}{n:Nat}(h:ku S n=some xs):ku (S++[o]) n=some xs:=by
 have h':=nJ h;exact xg<|by rw[bB (aI.mp h').1];exact h'
def O5{S:jF}{n:Nat}(h:ku S n=some xs):n<S.length:=(aI.mp<|nJ h).1
def HV{S:jF}{n:Nat}(h:n<S.length):ku (S.set n<|.dct ys) n=some ys:=xg<|bJ h
def R0{f:A->ae->jF->R A}{co:Ex}{d:qC}:Yc f co d τ S=(co τ S).bind λx S1=>opt (dct? x S1) λ_=>(d τ S1).bind λas S2=>f x as S2:=rfl
def Uo{n:Nat}:dct? (.ref n) S=(ku S n).map λ_=>Unit.unit:=rfl
def wK{S:jF}:BW τ S=.ok (.ref S.length) (S++[.dct []]):=rfl
def DZ{co ci:Ex}{a:A}:PD co ci a τ S=(co τ S).bind λo S1=>(ci τ S1).bind λi S2=>(FT o i a S2).bind λ_ S3=>.ok τ S3:=rfl
def Ud{n:Nat}{o:ag}:X3 (.ref n) [.tup<|o.map .int,y] S=opt (ku S n) λkvs=>.ok ((mw kvs o).getD y) S:=by
 show opt (ku S n) (λkvs=>opt (A.ints<|o.map .int) λk=>.ok ((mw kvs k).getD y) S)=_;rw[ints_map];rfl
def FY{n:Nat}{o:ag}{v:A}{S:jF}:FT (.ref n) (.tup<|o.map .int) v S=opt (ku S n) λkvs=>gd (kvs.length<sizeLine) (.ok Unit.unit<|S.set n<|.dct<|putD kvs o v):=by
 show opt (ku S n) (λkvs=>opt (A.ints<|o.map .int) λns=>gd (kvs.length<sizeLine)<|.ok Unit.unit<|S.set n<|.dct<|putD kvs ns v)=_;rw[ints_map];rfl
def yY{n:Nat}{o:ag}:Bu (.ref n) (.tup<|o.map .int) S=opt (ku S n) λkvs=>opt (mw kvs o) λv=>.ok v S:=by
 show opt (ku S n) (λkvs=>opt (A.ints<|o.map .int) λns=>opt (mw kvs ns) λv=>.ok v S)=_;rw[ints_map];rfl
def get_or{S:jF}{d:Nat}{D:Es}(hd:ku S d=some (D.map kv))(hA:At S D):∃x:Nat,(mw (D.map kv) o).getD (.ref S.length)=.ref x/\jE (S++[.lst []]) x=some (pl<|vS (sm D) o):=by
 rw[vj,Ly]
 cases e:fE D o with
 | none=>exact⟨S.length,rfl,jR⟩
 | some c=>exact⟨c.2.1,rfl,j9<|hA c (tW e).1⟩
def yS{α:Type}{xs:List α}(g:α->A){n:Nat}{src:Ic}{t:Te}{e:Ex}(hs:src τ S=.ok (kB n (xs.map g).length) S1)(hx:jE S1 n=some (xs.map g))(d:α)(p:α->Bool)(f:α->A)
  (step:∀x∈xs,∀T,kK S1 T->∃T1,t (g x::lN cap τ) T=.ok (p x) T1/\kK S1 T1/\(p x=true->∃T2,e (g x::lN cap τ) T1=.ok (f x) T2/\kK S1 T2)) (hl:xs.length<=16777216) :
  ∃S',jZ (none::cap) src (j4 0) t e τ S=.ok (.ref S'.length) (S'++[.lst<|(xs.filter p).map f])/\kK S1 S':=by
 have k:∀i,i<xs.length->xs.getD i d∈xs:=λi c=>by
  rw[aJ,aF c];exact cj c
 have m:(xs.map g).length=xs.length:=aG ..;obtain⟨S',h1,h2⟩:=wV (s:=kB n (xs.map g).length) (g:=j4 0) (t:=t) (e:=e) (P:=λT=>kK S1 T) (T:=λj=>∃y,j=y::lN cap τ) (λi=>g<|xs.getD i d) (λi=>p<|xs.getD i d) (λi=>f<|xs.getD i d) (λi T c h=>by
   have c:i<(xs.map g).length:=c;show(jE T n).bind _=_;rw[h.lst _ _ (λz=>z) hx,bL,aV,aF (),aJ,aF ()];rfl) (λT h=>by
   show(match jE T n with
    | some ys=>decide (ys.length<=(xs.map g).length)
    | none=>false)=true
   rw[h.lst _ _ (λz=>z) hx];simp)
  (λi j T c ⟨y,q⟩ h=>by
   have c:i<(xs.map g).length:=c;subst q;obtain⟨T1,e1,k1,e2⟩:=step _ (k i ()) T h;exact⟨g (xs.getD i d)::lN cap τ,T,T1,rfl,e1,⟨_,rfl⟩,λ_=>k1,e2⟩) (xs.map g).length 0 (lN (none::cap) τ) S1 rfl ⟨_,rfl⟩ Kp.refl
 refine⟨S',?_,h2⟩;unfold jZ;rw[hs,R.qq];show(n8 (kB n (xs.map g).length) (j4 0) t e (xs.map g).length 0 (lN (none::cap) τ) S1).uY _=_;rw[h1,R.lJ,<- fM,m,pB xs p f d];refine mF ?_;rw[aG];exact bF (dm _ _) hl
def Kc{D:Es}{o:ag}(h:o∈D.map Prod.fst):∃e,fE D o=some e:=by
 unfold fE
 cases e:D.find? λe=>decide (e.1=o)with
 | some x=>exact⟨x,rfl⟩
 | none=>
  obtain⟨x,c,rfl⟩:=br.mp h;exact absurd (aY rfl)<|gE.mp e x c
abbrev Bt (k:ag):A:=.tup<|k.map .int
abbrev v9 (D:Es)(p:Pl->Bool):Es:=((mO<|D.map Prod.fst).filter λo=>p<|vS (sm D) o).map λo=>(o,((fE D o).map λe=>e.2.1).getD 0,vS (sm D) o)
def DF(D:Es):sm (v9 D λp=>!p.isEmpty)=toS (sm D):=by
 unfold v9 toS sm;rw[bD,bD];rfl
def Dw{D:Es}{p:Pl->Bool}{e:En}(h:e∈v9 D p):e∈D/\p e.2.2=true:=by
 obtain⟨o,d,rfl⟩:=br.mp h;obtain⟨h1,h2⟩:=ck.mp d;obtain⟨e,c⟩:=Kc<|(kC _).mem_iff.mp h1;rw[Ly,c]at h2;rw[Ly,c];obtain⟨m,rfl⟩:=tW c;exact⟨m,h2⟩
def QV{S:jF}{d:Nat}{D:Es}{src:Ic}{t:Te}{e:Ex}(hd:ku S d=some (D.map kv))(hA:At S D)(hs:src τ S=.ok (kB S.length ((mO<|D.map Prod.fst).map Bt).length) (S++[.lst<|(mO<|D.map Prod.fst).map Bt]))(p:Pl->Bool)
  (ht:∀(o:ag) (r:Nat) (q:Pl) (T:jF),ku T d=some (D.map kv)->mw (D.map kv) o=some (.ref r)->jE T r=some (pl q)->∃T1,t (Bt o::lN cap τ) T=.ok (p q) T1/\kK T T1)
  (he:∀(o:ag) (r:Nat) (T:jF),ku T d=some (D.map kv)->mw (D.map kv) o=some (.ref r)->e (Bt o::lN cap τ) T=.ok (.tup [Bt o,.ref r]) T) (hl:D.length<=16777216) :
  ∃(n:Nat) (S':jF),jZ (none::cap) src (j4 0) t e τ S=.ok (.ref n) S'/\jE S' n=some ((v9 D p).map ent)/\At S' (v9 D p)/\S.length<n/\kK S S':=by
 have m:kK S (S++[.lst<|(mO<|D.map Prod.fst).map Bt]):=Kp.refl.lay;obtain⟨S',e1,k1⟩:=yS Bt (t:=t) (e:=e) (cap:=cap) hs jR [] (λo=>p<|vS (sm D) o) (λo=>ent (o,((fE D o).map λe=>e.2.1).getD 0,vS (sm D) o)) (λo C T j=>by
  obtain⟨f,c⟩:=Kc<|(kC _).mem_iff.mp C;have k:mw (D.map kv) o=some (.ref f.2.1):=by rw[vj,c];rfl
  have g:=m.trans j;have dT:=g.dct _ _ (λz=>z) hd;have F:=g.lst _ _ (λz=>z)<|hA f (tW c).1;obtain⟨T1,h1,h2⟩:=ht o f.2.1 f.2.2 T dT k F;rw[Ly,c];exact⟨T1,h1,j.trans h2,λ_=>⟨T1,he o f.2.1 T1 (h2.dct _ _ (λz=>z) dT) k,j.trans h2⟩⟩) (by
  rw[(kC _).length_eq,aG];exact hl)
 have B:=m.trans k1;refine⟨S'.length,_,e1,?_,(?_:At S'<|v9 D p).vp Kp.refl.lay,?_,B.lay⟩
 ·rw[jR];unfold v9;rw[bD];rfl
 ·exact λe h=>B.lst _ _ (λz=>z) (hA e (Dw h).1)
 ·have:=k1.len;rw[bf]at this;exact this
abbrev Ap (D:Es):Prop:=D.Pairwise λe f=>e.1≠f.1/\e.2.1≠f.2.1
def Ap.put{D:Es}{r:Nat}{p:Pl}(h:Ap D)(hr:∀e∈D,e.2.1≠r):Ap (rA D o r p):=by
 unfold rA;split
 ·unfold Ap;rw[cT];refine List.Pairwise.imp_of_mem (λ{e f} d hf z=>?_) h;by_cases c1:e.1=o
  ·have c2:¬f.1=o:=λg=>z.1<|c1.trans g.symm;rw[aS c1,aQ c2];exact⟨z.1,λy=>hr f hf y.symm⟩
  ·rw[aQ c1];by_cases c2:f.1=o
   ·rw[aS c2];exact⟨z.1,hr e d⟩
   ·rw[aQ c2];exact z
 ·rename_i c;unfold Ap;rw[List.pairwise_append];refine⟨h,c_ _ _,λe d f hf=>?_⟩;rw[aM.mp hf];refine⟨λz=>c ?_,hr e d⟩;unfold fE;rw[i6];exact⟨e,d,aY z⟩
theorem Ap.at{D:Es}(h:Ap D):∀e∈D,∀f∈D,e.1≠f.1->e.2.1≠f.2.1:=by
 unfold Ap at h
 induction h with
 | nil=>exact λe c=>nomatch c
 | @cons a D d _ g=>
  intro e c f hf z
  rcases bg.mp c with h1|h1<;>rcases bg.mp hf with h2|h2
  ·exact absurd (by rw[h1,h2]) z
  ·rw[h1];exact(d f h2).2
  ·rw[h2];exact(d e h1).2.symm
  ·exact g e h1 f h2 z
def Ap.nd{D:Es}(h:Ap D):(D.map Prod.fst).Nodup:=by
 unfold List.Nodup;rw[cT];exact h.imp λz=>z.1
def Ap.out{D:Es}(h:Ap D)(p:Pl->Bool):Ap (v9 D p):=by
 unfold Ap v9;rw[cT];have n:(mO<|D.map Prod.fst).Pairwise (·≠·):=(kC _).nodup_iff.mpr h.nd;refine List.Pairwise.imp_of_mem (λ{a b} ha hb z=>?_)<|n.filter _;obtain⟨e,c⟩:=Kc<|(kC _).mem_iff.mp (ck.mp ha).1;obtain⟨f,hf⟩:=Kc<|(kC _).mem_iff.mp (ck.mp hb).1;obtain⟨g,e1⟩:=tW c;obtain⟨d,e2⟩:=tW hf;refine⟨z,?_⟩;rw[c,hf];exact h.at e g f d<|by rw[e1,e2];exact z
structure Fil (T:jF)(d b i j:Nat)(P:Ps)(D:Es):Prop where
 dd:ku T d=some (D.map kv)
 aa:At T D
 ss:sm D=P
 vv:Vl (i * j) b D
 kk:∀e∈D,e.1≠[]
 ll:D.length<=i
 pw:Ap D
def La(P:Ps)(es:Es):es.foldl (λQ e=>zB Q e.1 e.2.2) P=adds P (sm es):=by
 unfold adds sm;rw[jw]
def LP(q:Pl)(P:Ps)(es:Es):es.foldl (λQ e=>zB Q e.1<|times q e.2.2) P=adds P ((sm es).map λe=>(e.1,times q e.2)):=by
 unfold adds sm;rw[jw,jw]
end Su
namespace Bl
open L2
abbrev cnt:ag->Int->Int
 | [],_=>0
 | x::l,j=>(if j<=x then 1 else 0)+cnt l j
abbrev Below (xs ys:ag):Prop:=∀(i:Nat) (j:Int),cnt (xs.take i) j<=cnt (ys.take i) j
abbrev MP (a b:ag):Prop:=a.length=b.length/\∀(p:Nat) (h:p<a.length),b[(a[p]-1).toNat]?=some ((p:Int)+1)
end Bl
namespace Wd
open Bl L2
abbrev ex (l:ag)(k:Nat):ag:=(l.set (k-1)<|l.getD k 0).set k<|l.getD (k-1) 0
abbrev led (l:ag)(w:am):ag:=w.foldl ex l
def vG{l:ag}{k:Nat}(h:k<l.length):l.getD k 0=l[k]:=by rw[aJ,aF h];rfl
def Jh{l:ag}{k:Nat}(h0:1<=k)(h:k<l.length):ex l k=(l.set (k-1) l[k]).set k (l[k-1]'()):=by
 unfold ex;rw[vG h,vG<|show k-1<l.length by lia]
def Dh(l:ag)(k:Nat):(ex l k).length=l.length:=by unfold ex;rw[cu,cu]
def Uq{l:ag}{k:Nat}(h0:1<=k)(h:k<l.length):(ex l k).Perm l:=by
 rw[Jh h0 h];exact List.set_set_perm () h
def abi(a b:am)(l:ag):led l (a++b)=led (led l a) b:=eF
abbrev xG:ag->am->Prop
 | _,[]=>True
 | l,k::w=>1<=k/\k<l.length/\l.getD (k-1) 0<l.getD k 0/\xG (ex l k) w
theorem xG.snoc:∀{w:am}{l:ag}{k:Nat},xG l w->1<=k->k<l.length->(led l w).getD (k-1) 0<(led l w).getD k 0->xG l (w++[k])
 | [],l,k,_,h0,h1,h2=>⟨h0,h1,h2,trivial⟩
 | m::w,l,k,h,h0,h1,h2=>⟨h.1,h.2.1,h.2.2.1,xG.snoc h.2.2.2 h0 (by rw[Dh];exact h1) h2⟩
abbrev sw (k:Nat)(x:Int):Int:=if x=k then(k:Int)+1 else if x=(k:Int)+1 then k else x
def mZ(n:Nat):(nN 1<|(n:Int)+1).length=n:=by rw[uD];lia
def vX{l:ag}{k:Nat}(h0:1<=k)(h:k<l.length)(p:Nat):(ex l k)[p]?=if p=k then l[k-1]? else if p=k-1 then l[k]? else l[p]?:=by
 rw[Jh h0 h,i7];by_cases h1:k=p
 ·rw[aS h1,aS h1.symm,aS<|by rw[cu];lia,aF]
 ·rw[aQ h1,aQ λz=>h1 z.symm,i7];by_cases h2:k-1=p
  ·rw[aS h2,aS h2.symm,aS (),aF]
  ·rw[aQ h2,aQ λz=>h2 z.symm]
end Wd
namespace Iv
open L2 Bl
abbrev inv:ag->Nat
 | []=>0
 | x::l=>l.countP (λy=>decide<|y<x)+inv l
abbrev oJ (a b:ag):Nat:=(a.map λx=>b.countP λy=>decide<|y<x).sum
def wc(x:Int)(a b:ag):oJ (x::a) b=b.countP (λy=>decide<|y<x)+oJ a b:=rfl
theorem mQ:∀(a b:ag),inv (a++b)=inv a+inv b+oJ a b
 | [],b=>by show inv b=0+inv b+0;lia
 | x::a,b=>by
  show(a++b).countP _+inv (a++b)=(a.countP _+inv a)+inv b+oJ (x::a) b;rw[List.countP_append,mQ a b,wc];lia
theorem xm:∀{a b:am},a.Perm b->a.sum=b.sum
 | _,_,.nil=>rfl
 | _,_,.cons x h=>by rw[eL,eL,xm h]
 | _,_,.swap x y l=>by rw[eL,eL,eL,eL];lia
 | _,_,.trans h k=>(xm h).trans<|xm k
def TU{a:ag}(b:ag)(h:a.Perm a'):oJ a b=oJ a' b:=xm<|h.map _
def T8(a:ag){b:ag}(h:b.Perm b'):oJ a b=oJ a b':=by
 unfold oJ;congr 1;refine b9 λx _=>h.countP_eq _
def Dj{M:ag}{x y:Int}(h:∀m∈M,m<x\/y<m)(hxy:x<y):M.countP (λm=>decide<|m<x)=M.countP (λm=>decide<|m<y):=by
 refine List.countP_congr λm c=>?_;rw[decide_eq_true_iff,decide_eq_true_iff]
 rcases h m c with z|z<;>omega
theorem yG:∀{M:ag}{x y:Int},(∀m∈M,m<x\/y<m)->x<y->oJ M [x]=oJ M [y]
 | [],_,_,_,_=>rfl
 | m::M,x,y,h,hxy=>by
  rw[wc,wc,yG (λe d=>h e<|aK _ d) hxy];congr 1;have:=h m<|aN ..;dsimp[jd,List.countP_nil];by_cases c:x<m
  ·rw[aY c,aY<|show y<m by omega]
  ·rw[bw c,bw<|show ¬y<m by omega]
def mid{M:ag}{x y:Int}(h:∀m∈M,m<x\/y<m)(hxy:x<y):inv ([y]++M++[x])=inv ([x]++M++[y])+1:=by
 rw[mQ,mQ,mQ<|[x]++M,mQ [x]];have e1:oJ [y] M=oJ [x] M:=by
  show M.countP _+0=M.countP _+0;rw[Dj h hxy]
 have e2:oJ ([y]++M) [x]=1+oJ M [x]:=by
  show[x].countP _+oJ M [x]=_;rw[jd,aY hxy];rfl
 have e3:oJ ([x]++M) [y]=oJ M [y]:=by
  show[y].countP _+oJ M [y]=_;rw[jd,bw (by lia:¬y<x)];simp
 rw[e1,e2,e3,yG h hxy]
 skip
 lia
def Qo(M:ag)(x y:Int):([y]++M++[x]).Perm ([x]++M++[y]):=by
 refine(List.perm_append_comm (l₁:=[y]++M) (l₂:=[x])).trans ?_
 skip
 exact .cons x<|List.perm_append_comm (l₁:=[y]) (l₂:=M)
def step{P M R:ag}{x y:Int}(h:∀m∈M,m<x\/y<m)(hxy:x<y):inv (P++([y]++M++[x])++R)=inv (P++([x]++M++[y])++R)+1:=by
 have p:=Qo M x y;rw[mQ,mQ P,mQ<|P++([x]++M++[y]),mQ P,mid h hxy,T8 P p,TU R<|p.append_left P]
 lia
abbrev sw (a:ag)(i j:Nat):ag:=(a.set i<|a.getD j 0).set j<|a.getD i 0
def split{a:ag}(hij:i<j)(hj:j<a.length):∃P M R:ag,a=P++([a.getD i 0]++M++[a.getD j 0])++R/\P=a.take i/\(∀m∈M,∃k,i<k/\k<j/\a[k]?=some m)/\sw a i j=P++([a.getD j 0]++M++[a.getD i 0])++R:=by
 have F:a.getD i 0=a[i]:=by rw[aJ,aF ()];rfl
 have C:a.getD j 0=a[j]:=by rw[aJ,aF hj];rfl
 obtain⟨M,e⟩:∃M,M=(a.drop<|i+1).take (j-i-1):=⟨_,rfl⟩;have G:M.length=j-i-1:=by rw[e,cO,List.length_drop];lia
 have q:a=a.take i++([a.getD i 0]++M++[a.getD j 0])++a.drop (j+1):=by
  have h1:a.drop i=a[i]::a.drop (i+1):=fZ ();have h2:a.drop (i+1)=M++a.drop j:=by
   rw[e];have:=iy (j-i-1)<|a.drop<|i+1;rw[List.drop_drop,show i+1+(j-i-1)=j by lia]at this;exact this.symm
  have h3:a.drop j=a[j]::a.drop (j+1):=fZ hj
  conv=>lhs;rw[<- iy i a,h1,h2,h3]
  rw[F,C];simp
 refine⟨a.take i,M,a.drop<|j+1,q,rfl,λm B=>?_,?_⟩
 ·rw[e]at B;obtain⟨k,g⟩:=List.getElem?_of_mem B;have p:k<j-i-1:=by
   have:=(aI.mp g).1;rw[cO]at this;lia
  rw[List.getElem?_take_of_lt p,List.getElem?_drop]at g;exact⟨i+1+k,(),(),g⟩
 ·have f:∀(P R:ag) (x y d c:Int),P.length=i->((P++([x]++M++[y])++R).set i c).set j d=P++([c]++M++[d])++R:=λP R x y d c t=>by
   rw[cH,iz _ _ (),t,Nat.sub_self];show(P++(c::((M++[y])++R))).set j d=_;rw[iz _ _ (),t,show j-i=(j-i-1)+1 by lia,List.set_cons_succ,cH,iz _ _ (),G,Nat.sub_self];simp
  have:=f (a.take i) (a.drop<|j+1) (a.getD i 0) (a.getD j 0) (a.getD i 0) (a.getD j 0) (by rw[cO];lia);rw[<- q]at this;exact this
def Jd{a:ag}{i:Nat}(h:i<a.length):a[i]?=some (a.getD i 0):=by rw[aJ,aF h];rfl
end Iv
namespace Fw
open PySem L2 Bl
open Wd (ex led)
meta abbrev rg (n:Nat):ag:=nN 1<|(n:Int)+1
def PF{l:ag}{k:Nat}(h0:1<=k)(h:k<l.length):ex (ex l k) k=l:=by
 apply g_;intro p;have h':k<(ex l k).length:=by rw[Wd.Dh];exact h
 rw[Wd.vX h0 h',Wd.vX h0 h,Wd.vX h0 h,Wd.vX h0 h];by_cases c3:p=k
 ·rw[aS c3,aQ (),aS rfl,c3]
 ·rw[aQ c3];by_cases c2:p=k-1
  ·rw[aS c2,aS rfl,c2]
  ·rw[aQ c2,aQ c3,aQ c2]
def VC{l:ag}{k:Nat}(h0:1<=k)(h:k<l.length):(ex l k).getD k 0=l.getD (k-1) 0:=by
 rw[aJ,Wd.vX h0 h,aS rfl,aJ]
def Vi{l:ag}{k:Nat}(h0:1<=k)(h:k<l.length):(ex l k).getD (k-1) 0=l.getD k 0:=by
 rw[aJ,Wd.vX h0 h,aQ (),aS rfl,aJ]
def P8{l:ag}{k:Nat}(h0:1<=k)(h:k<l.length)(hr:l.getD (k-1) 0<l.getD k 0):Iv.inv (ex l k)=Iv.inv l+1:=by
 obtain⟨P,M,R,e,_,c,es⟩:=Iv.split (a:=l) (i:=k-1) (j:=k) () h;have:=Iv.step (P:=P) (M:=M) (R:=R) (x:=l.getD (k-1) 0) (y:=l.getD k 0) (λm d=>by obtain⟨_,_,_,_⟩:=c m d;lia) hr;rw[<- es,<- e]at this;exact this
def Oz{l:ag}{k:Nat}(h0:1<=k)(h:k<l.length)(hr:l.getD k 0<l.getD (k-1) 0):Iv.inv l=Iv.inv (ex l k)+1:=by
 have:=P8 (l:=ex l k) h0 (by rw[Wd.Dh];exact h) (by rw[VC h0 h,Vi h0 h];exact hr);rw[PF h0 h]at this;exact this
def UD{l:ag}{k:Nat}(h0:1<=k)(h:k<l.length):Iv.inv (ex l k)<=Iv.inv l+1:=by
 rcases Int.lt_trichotomy (l.getD (k-1) 0) (l.getD k 0)with c|c|c
 ·exact Nat.le_of_eq (P8 h0 h c)
 ·have:ex l k=l:=by
   apply g_;intro p;have e1:l[k]?=some (l.getD k 0):=Iv.Jd h;have e2:l[k-1]?=some (l.getD (k-1) 0):=Iv.Jd ();rw[Wd.vX h0 h];by_cases c3:p=k
   ·rw[aS c3,c3,e1,e2,c]
   ·rw[aQ c3];by_cases c2:p=k-1
    ·rw[aS c2,c2,e1,e2,c]
    ·rw[aQ c2]
  rw[this];lia
 ·have:=Oz h0 h c;lia
abbrev QC (l:ag)(k:Nat):Prop:=1<=k/\k<l.length/\l.getD k 0<l.getD (k-1) 0
abbrev Dn:ag->am->Prop
 | l,[]=>∀k,¬QC l k
 | l,k::ks=>(QC l k/\∀j,QC l j->k<=j)/\Dn (ex l k) ks
def UJ{l:ag}{n k:Nat}(p:l.Perm<|rg n)(h0:1<=k)(h:k<l.length):l.getD (k-1) 0≠l.getD k 0:=λz=>by
 have nd:l.Nodup:=p.nodup_iff.mpr<|wA _ _;rw[Wd.vG h,Wd.vG<|show k-1<l.length by lia]at z;have:=(dw nd).mp z
 lia
structure Two (n:Nat)(o u:ag):Prop where
 po:o.Perm (rg n)
 pu:u.Perm (rg n)
 ou:MP o u
end Fw
namespace Su
open Am Po PySem L2
abbrev cS (l:Ps)(o:ag)(t:Int):Int:=match l with
 | []=>0
 | e::l=>(if e.1=o then cf e.2 t else 0)+cS l o t
def MM(a b:Ps)(o:ag)(t:Int):cS (a++b) o t=cS a o t+cS b o t:=by
 induction a with
 | nil=>exact(cX _).symm
 | cons e a c=>
  show _+cS (a++b) o t=_+_+_;rw[c,iE]
def qT(a b:Pl)(k:Int):cf (a++b) k=cf a k+cf b k:=by
 induction a with
 | nil=>exact(cX _).symm
 | cons p a c=>
  show _+cf (a++b) k=_+_+_;rw[c,iE]
def NK(a b:Pl)(k:Int):cf (qL a b) k=cf a k+cf b k:=by
 unfold qL;rw[DH<|vC _ (d:=[]) dh,wX,qT];show 0+_=_;rw[cX]
def EL(a b:Pl)(k:Int):cf (times a b) k=cf (IY a b) k:=by
 unfold times;rw[DH<|vC _ (d:=[]) dh,wX];show 0+_=_;rw[cX]
theorem IJ(s:Int):∀(b:Pl) (k c:Int),cf (b.map λq=>(c+q.1,s * q.2)) k=s * cf b (k-c)
 | [],k,c=>(jl s).symm
 | q::b,k,c=>by
  show(if c+q.1=k then s * q.2 else 0)+cf (b.map λq=>(c+q.1,s * q.2)) k=s * ((if q.1=k-c then q.2 else 0)+cf b (k-c));rw[IJ s b k c,Int.mul_add];by_cases h:c+q.1=k
  ·rw[aS h,aS ()]
  ·rw[aQ h,aQ (),jl]
meta abbrev AF:Pl:=[((-1:Int),(1:Int)),((1:Int),(-1:Int))]
def aar(b:Pl)(k:Int):cf (times AF b) k=cf b (k+1)-cf b (k-1):=by
 rw[EL];show cf ((b.map λq=>((-1:Int)+q.1,(1:Int) * q.2))++((b.map λq=>((1:Int)+q.1,(-1:Int) * q.2))++[])) k=_;rw[bN,qT,IJ,IJ,Int.one_mul,show k - -1=k+1 by lia]
 lia
def YO{D:Ps}{p:Pl}:vS (zo D o p) o'=if o'=o then p else vS D o':=by
 have cons:∀(e:ag×Pl) (D:Ps) (x:ag),vS (e::D) x=if e.1=x then e.2 else vS D x:=λe D x=>by
  unfold vS;rw[bV];by_cases h:e.1=x
  ·rw[aY h,aS h];rfl
  ·rw[bw h,aQ h]
 unfold zo
 cases h:hS D o with
 | true=>
  rw[aS rfl]
  induction D with
  | nil=>cases h
  | cons e D d=>
   rw[bh,cons,cons];have hc:hS (e::D) o=(decide (e.1=o) || hS D o):=rfl;rw[hc]at h;by_cases c:e.1=o
   ·rw[aS c]
    skip
    by_cases c2:o'=o
    ·rw[aS<|c.trans c2.symm,aS c2]
    ·rw[aQ λz=>c2<|z.symm.trans c,aQ c2,aQ λz=>c2<|z.symm.trans c];clear d h hc
     induction D with
     | nil=>rfl
     | cons f D g=>
      rw[bh,cons,cons,g];by_cases c3:f.1=o
      ·rw[aS c3]
       skip
       rw[aQ λz=>c2<|z.symm.trans c3,aQ λz=>c2<|z.symm.trans c3]
      ·rw[aQ c3]
   ·rw[aQ c];rw[bw c,gf]at h;rw[d h];by_cases c2:e.1=o'
    ·rw[aS c2,aQ λz=>c<|c2.trans z,aS c2]
    ·rw[aQ c2,aQ c2]
 | false=>
  rw[aQ<|by simp]
  induction D with
  | nil=>
   show vS [(o,p)] o'=_;rw[cons];by_cases c:o=o'
   ·rw[aS c,aS c.symm]
   ·rw[aQ c,aQ λz=>c z.symm]
  | cons e D d=>
   have hc:hS (e::D) o=(decide (e.1=o) || hS D o):=rfl;rw[hc,iH]at h;rw[ja,cons,cons,d h.2];have:=dB h.1;by_cases c:e.1=o'
   ·rw[aS c,aS c,aQ λz=>this<|c.trans z]
   ·rw[aQ c,aQ c]
def Na(l:Ps):∀(D:Ps) (o:ag) (t:Int),cf (vS (adds D l) o) t=cf (vS D o) t+cS l o t:=by
 induction l with
 | nil=>intro D o t;exact(fj _).symm
 | cons e l c=>
  intro D o t;show cf (vS (adds (zB D e.1 e.2) l) o) t=_+((if e.1=o then cf e.2 t else 0)+cS l o t);rw[c];unfold zB;rw[YO];by_cases h:o=e.1
  ·rw[aS h,aS h.symm,NK,h,iE]
  ·rw[aQ h,aQ λz=>h z.symm,cX]
structure Gd (D:Ps):Prop where
 nd:(D.map Prod.fst).Nodup
 ok:∀e∈D,Ok e.2
def Xi{D:Ps}{o:ag}:hS D o=true ↔ o∈D.map Prod.fst:=by
 unfold hS;rw[fV,br];constructor
 ·rintro⟨p,h1,h2⟩;exact⟨p,h1,bK h2⟩
 ·rintro⟨p,h1,h2⟩;exact⟨p,h1,aY h2⟩
def LX{D:Ps}{o:ag}{p:Pl}:(zo D o p).map Prod.fst=if hS D o=true then D.map Prod.fst else D.map Prod.fst++[o]:=by
 unfold zo;split
 ·rw[bD];apply b9;intro e _;show(if e.1=o then(e.1,p)else e).1=e.1;split<;>rfl
 ·rw[bz];rfl
def Gd.put{D:Ps}{p:Pl}(h:Gd D)(hp:Ok p):Gd (zo D o p):=by
 refine⟨?_,λe d=>?_⟩
 ·rw[LX];split
  ·exact h.nd
  ·rename_i c;rw[cI];refine⟨h.nd,c_ _ _,λa j b g z=>c ?_⟩;rw[aM]at g;rw[Xi,<- g,<- z];exact j
 ·unfold zo at d;split at d
  ·obtain⟨f,hf,rfl⟩:=br.mp d;split
   ·exact hp
   ·exact h.ok f hf
  ·rcases bE.mp d with z|z
   ·exact h.ok e z
   ·rw[aM.mp z];exact hp
theorem Gd.adds(l:Ps):∀{D:Ps},Gd D->Gd (adds D l):=by
 induction l with
 | nil=>intro D h;exact h
 | cons e l c=>intro D h;exact c<|h.put<|AO _ _
def Gd.nil:Gd []:=⟨dh,nofun⟩
def wg{D:Ps}:(∃e∈D,e.1=o/\vS D o=e.2)\/(o∉D.map Prod.fst/\vS D o=[]):=by
 unfold vS
 cases h:D.find? λe=>decide (e.1=o)with
 | some e=>
  have h1:=gz h;exact .inl ⟨e,cY h,by simpa using h1,rfl⟩
 | none=>
  refine .inr ⟨λz=>?_,rfl⟩;obtain⟨e,d,c⟩:=br.mp z;exact gE.mp h e d<|aY c
def Gd.v{D:Ps}(h:Gd D)(o:ag):Ok (vS D o):=by
 rcases wg (D:=D) (o:=o)with⟨e,h1,_,h2⟩|⟨_,h2⟩
 ·rw[h2];exact h.ok e h1
 ·rw[h2];exact⟨List.Pairwise.nil,nofun⟩
def CL.anti{a:ag}(h1:CL a b)(h2:CL b a):a=b:=(Sx.w4 h1 h2).symm
def Ux{D:Ps}(h:Gd D)(h':Gd E)(hv:∀o,vS D o=vS E o):toS D=toS E:=by
 have c:∀(D:Ps),Gd D->∀o,o∈(mO<|D.map Prod.fst).filter (λo=>!(vS D o).isEmpty) ↔ (vS D o)≠[]:=λD h o=>by
  rw[ck,(kC _).mem_iff];constructor
  ·rintro⟨_,h2⟩ z;rw[z]at h2;cases h2
  ·intro z;refine⟨?_,by cases e:vS D o with|nil=>exact absurd e z|cons=>rfl⟩
   rcases wg (D:=D) (o:=o)with⟨e,h1,h2,_⟩|⟨_,h2⟩
   ·exact br.mpr ⟨e,h1,h2⟩
   ·exact absurd h2 z
 have d:∀(D:Ps),((mO<|D.map Prod.fst).filter λo=>!(vS D o).isEmpty).Pairwise CL:=λD=>(uy _).filter _;have nd:∀(D:Ps),Gd D->((mO<|D.map Prod.fst).filter λo=>!(vS D o).isEmpty).Nodup:=λD h=>((kC _).nodup_iff.mpr h.nd).filter _;have e:(mO<|D.map Prod.fst).filter (λo=>!(vS D o).isEmpty)=(mO<|E.map Prod.fst).filter (λo=>!(vS E o).isEmpty):=by
  refine eG (λa b _ _ h1 h2=>CL.anti h1 h2) (d D) (d E)<|(iU (nd D h)<|nd E h').mpr λo=>?_;rw[c D h,c E h',hv]
 unfold toS;rw[e];apply b9;intro o _;rw[hv]
def O9{D:Ps}(h:Gd D)(h':Gd E)(hc:∀o t,cf (vS D o) t=cf (vS E o) t):toS D=toS E:=Ux h h' λo=>uniq (h.v o) (h'.v o)<|hc o
theorem GC{f:ag->Pl}{o:ag}{t:Int}:∀{ks:List<|ag},ks.Nodup->cS (ks.map λk=>(k,f k)) o t=if o∈ks then cf (f o) t else 0
 | [],_=>by rw[aQ<|by simp];rfl
 | j::ks,h=>by
  obtain⟨h1,h2⟩:=bQ.mp h;show(if j=o then cf (f j) t else 0)+cS (ks.map λk=>(k,f k)) o t=_;rw[GC h2];by_cases c:j=o
  ·subst c;rw[aS rfl,aQ h1,aS<|aN ..,fj]
  ·rw[aQ c,cX];by_cases e:o∈ks
   ·rw[aS e,aS<|aK _ e]
   ·rw[aQ e,aQ λz=>(bg.mp z).elim (λz=>c z.symm) e]
def Hs{D:Ps}(h:Gd D)(o:ag)(t:Int):cS (toS D) o t=cf (vS D o) t:=by
 unfold toS;rw[GC<|((kC _).nodup_iff.mpr h.nd).filter _];split
 ·rfl
 ·rename_i c
  rcases wg (D:=D) (o:=o)with⟨e,h1,h2,h3⟩|⟨_,h2⟩
  ·by_cases z:vS D o=[]
   ·rw[z];rfl
   ·refine absurd (ck.mpr ⟨(kC _).mem_iff.mpr<|br.mpr ⟨e,h1,h2⟩,?_⟩) c
    cases e:vS D o with|nil=>exact absurd e z|cons=>rfl
  ·rw[h2];rfl
abbrev qI (o:ag)(k:Nat):Bool:=decide<|o.getD (k-1) 0>o.getD k 0
abbrev Zy (k:Nat)(l:Ps):Ps:=l.flatMap λe=>(Wd.ex e.1 k,e.2)::(if qI e.1 k=true then[(e.1,times AF e.2)]else[])
abbrev bx (k:Nat)(l:Ps):Ps:=toS<|adds []<|Zy k l
abbrev Go (N k:Nat)(o:ag):Prop:=o.length=N/\o.getD (k-1) 0≠o.getD k 0
def O3{N k:Nat}{o:ag}(h:o.length=N)(h1:1<=k)(h2:k<N):Wd.ex (Wd.ex o k) k=o:=Fw.PF h1 ()
def Ur{l:Ps}{t:Int}(h:∀e∈l,e.1≠o):cS l o t=0:=by
 induction l with
 | nil=>rfl
 | cons e l c=>
  show(if e.1=o then _ else 0)+cS l o t=0;rw[aQ<|h e<|aN ..,c λf hf=>h f<|aK _ hf];rfl
theorem U5{N k:Nat}(h1:1<=k)(h2:k<N):∀{l:Ps},(∀e∈l,Go N k e.1)->∀{o:ag}(t:Int),Go N k o->cS (Zy k l) o t=cS l (Wd.ex o k) t+(if qI o k=true then cS l o (t+1)-cS l o (t-1)else 0)
 | [],_,o,t,_=>by show(0:Int)=0+if _ then(0:Int)-0 else 0;split<;>rfl
 | e::l,h,o,t,ho=>by
  have g:=h e<|aN ..;have j:=U5 h1 h2 (l:=l) (λf hf=>h f<|aK _ hf) t ho;have d:(Wd.ex e.1 k=o) ↔ (e.1=Wd.ex o k):=⟨λz=>by rw[<- z,O3 g.1 h1 h2],λz=>by rw[z,O3 ho.1 h1 h2]⟩;show cS (((Wd.ex e.1 k,e.2)::(if qI e.1 k=true then[(e.1,times AF e.2)]else[]))++Zy k l) o t=_;rw[MM,j];show(if Wd.ex e.1 k=o then cf e.2 t else 0)+cS (if qI e.1 k=true then[(e.1,times AF e.2)]else[]) o t+_=((if e.1=Wd.ex o k then cf e.2 t else 0)+cS l (Wd.ex o k) t)+(if qI o k=true then((if e.1=o then cf e.2 (t+1)else 0)+cS l o (t+1))-((if e.1=o then cf e.2 (t-1)else 0)+cS l o (t-1))else 0);have h3:cS (if qI e.1 k=true then[(e.1,times AF e.2)]else[]) o t=if qI o k=true then((if e.1=o then cf e.2 (t+1)else 0)-(if e.1=o then cf e.2 (t-1)else 0))else 0:=by
   by_cases c:e.1=o
   ·rw[c,aS rfl,aS rfl]
    cases qI o k with
    | false=>rfl
    | true=>
     rw[aS rfl,aS rfl];show(if o=o then cf (times AF e.2) t else 0)+0=_;rw[aS rfl,aar,fj]
   ·rw[aQ c,aQ c];have:cS (if qI e.1 k=true then[(e.1,times AF e.2)]else[]) o t=0:=Ur λf hf=>by
     split at hf
     ·rw[aM.mp hf];exact c
     ·cases hf
    rw[this];split<;>rfl
  rw[h3];by_cases c:Wd.ex e.1 k=o
  ·rw[aS c,aS<|d.mp c];split<;>lia
  ·rw[aQ c,aQ λz=>c<|d.mpr z];split<;>lia
def qD{P:ag->Prop}(l:Ps):∀{D:Ps},(∀e∈D,P e.1)->(∀e∈l,P e.1)->∀e∈adds D l,P e.1:=by
 induction l with
 | nil=>intro D h _;exact h
 | cons f l d=>
  intro D h h';refine d (λe c=>?_) λe c=>h' e<|aK _ c;have c:e∈zo D f.1 (qL (vS D f.1) f.2):=c;unfold zo at c;split at c
  ·obtain⟨g,hg,rfl⟩:=br.mp c;split
   ·exact h g hg
   ·exact h g hg
  ·rcases bE.mp c with z|z
   ·exact h e z
   ·rw[aM.mp z];exact h' f<|aN ..
def sS{P:ag->Prop}{D:Ps}(h:∀e∈D,P e.1):∀e∈toS D,P e.1:=λe c=>by
 obtain⟨o,d,rfl⟩:=br.mp c;obtain⟨f,hf,e⟩:=br.mp ((kC _).mem_iff.mp (ck.mp d).1)
 skip
 rw[<- e];exact h f hf
abbrev gX (k:Nat)(e:En)(Q:Ps):Ps:=if qI e.1 k=true then zB (zB Q (Wd.ex e.1 k) e.2.2) e.1 (times AF e.2.2)else zB Q (Wd.ex e.1 k) e.2.2
theorem KD(k:Nat):∀(es:Es) (P:Ps),es.foldl (λQ e=>gX k e Q) P=adds P (Zy k<|sm es)
 | [],P=>rfl
 | e::es,P=>by
  show es.foldl (λQ e=>gX k e Q) (gX k e P)=adds P (((Wd.ex e.1 k,e.2.2)::(if qI e.1 k=true then[(e.1,times AF e.2.2)]else[]))++Zy k (sm es));rw[KD k es,OH];congr 1;unfold gX
  cases qI e.1 k<;>rfl
def aav{p:Pl}(h:Ok p)(hb:Bd C p)(t:Int):(cf p t).natAbs<=C:=by
 rw[<- MA h.nd];exact hb.val t
def Ok.zH{l:Pl}(h:Ok l){p:Int×Int}(hp:p∈l):cf l p.1=p.2:=by
 induction l with
 | nil=>cases hp
 | cons q l c=>
  rcases bg.mp hp with z|z
  ·rw[z];exact h.head
  ·show(if q.1=p.1 then q.2 else 0)+cf l p.1=p.2;have:=(cB.mp h.up).1 p z;rw[aQ (),c h.tail z,cX]
end Su
namespace He
open PySem L2 Am
open Fw (Two rg QC)
open Bl (MP)
open Su (qI)
meta abbrev Fn:=ag->Int->Int
abbrev dl (g:Int->Int)(t:Int):Int:=g (t+1)-g (t-1)
abbrev X (k:Nat)(f:Fn):Fn:=λo t=>f (Wd.ex o k) t+if qI o k=true then dl (f o) t else 0
abbrev bk (o:ag):ag:=(List.range o.length).map λi:Nat=>((o.idxOf ((i:Int)+1):Nat):Int)+1
def nb{n k:Nat}{o:ag}(h:o.Perm<|rg n)(h0:1<=k)(h1:k<n):o.getD (k-1) 0≠o.getD k 0:=λz=>by
 have c:o.length=n:=by rw[h.length_eq,Wd.mZ]
 have nd:o.Nodup:=h.nodup_iff.mpr<|wA _ _;rw[Wd.vG (),Wd.vG ()]at z;have:=(dw nd).mp z
 lia
abbrev L (j:Nat)(f:Fn):Fn:=λo t=>f (o.map<|Wd.sw j) t+if qI (bk o) j=true then dl (f o) t else 0
abbrev EqP (n:Nat)(f g:Fn):Prop:=∀o:ag,o.Perm (rg n)->∀t,f o t=g o t
def E3{n k:Nat}{o:ag}(h:o.Perm<|rg n)(h0:1<=k)(h1:k<n):(Wd.ex o k).Perm (rg n):=(Wd.Uq h0<|by rw[h.length_eq,Wd.mZ];exact h1).trans h
abbrev Xw (w:am)(f:Fn):Fn:=w.foldl (λf k=>X k f) f
abbrev D (u:ag)(g:Int->Int):Fn:=λo t=>if o=u then g t else 0
abbrev add (f g:Fn):Fn:=λo t=>f o t+g o t
def acr{n k:Nat}{l:Su.Ps}(h:∀x∈l,x.1.Perm<|rg n)(h0:1<=k)(h1:k<n):EqP n (Su.cS<|Su.bx k l) (X k<|Su.cS l):=λo p t=>by
 have c:∀{x:ag},x.Perm (rg n)->Su.Go n k x:=λ{x} hx=>⟨by rw[hx.length_eq,Wd.mZ],nb hx h0 h1⟩;unfold Su.bx;rw[Su.Hs<|Su.Gd.nil.adds _,Su.Na];show 0+_=_;rw[cX,Su.U5 h0 h1 (λe d=>c<|h e d) t<|c p];rfl
end He
namespace He
open PySem L2 Am Po
open Fw (Two rg QC)
open Su (qI Ps cS)
abbrev cv:Pl->(Int->Int)->Int->Int
 | [],_,_=>0
 | q::p,g,t=>q.2 * g (t-q.1)+cv p g t
def Y0(p:Pl)(g h:Int->Int)(t:Int):cv p (λt=>g t+h t) t=cv p g t+cv p h t:=by
 induction p with
 | nil=>rfl
 | cons q p c=>
  show q.2 * (g (t-q.1)+h (t-q.1))+cv p _ t=(q.2 * g (t-q.1)+cv p g t)+(q.2 * h (t-q.1)+cv p h t);rw[c,Int.mul_add];lia
def HM(p:Pl)(t:Int):cv p (λ_=>0) t=0:=by
 induction p with
 | nil=>rfl
 | cons q p c=>
  show q.2 * 0+cv p _ t=0;rw[c,jl];rfl
def Zx(p q:Pl)(t:Int):cf (times p q) t=cv p (cf q) t:=by
 rw[Su.EL]
 induction p with
 | nil=>rfl
 | cons a p c=>
  show cf ((q.map λb=>(a.1+b.1,a.2 * b.2))++IY p q) t=_;rw[Su.qT,Su.IJ,c];rfl
abbrev LC (p:Pl)(f:Fn):Fn:=λo t=>cv p (f o) t
abbrev RG (G:ag->Fn):Ps->Fn
 | []=>λ_ _=>0
 | e::m=>add (LC e.2<|G e.1)<|RG G m
def ZT{n k:Nat}{m:Ps}(h0:1<=k)(h1:k<n)(hm:∀x∈m,x.1.Perm<|rg n):∀x∈Su.bx k m,x.1.Perm (rg n):=Su.sS (P:=λo=>o.Perm<|rg n) (Su.qD (P:=λo=>o.Perm<|rg n) _ (nofun) λx c=>by
 obtain⟨f,hf,c⟩:=fW.mp c
 rcases bg.mp c with z|z
 ·rw[z];exact E3 (hm f hf) h0 h1
 ·split at z
  ·rw[aM.mp z];exact hm f hf
  ·cases z)
abbrev scl (p:Pl)(l:Ps):Ps:=l.map λx=>(x.1,times p x.2)
def Wh(p:Pl)(l:Ps):cS (scl p l)=LC p (cS l):=by
 funext o t
 induction l with
 | nil=>exact(HM p t).symm
 | cons e l d=>
  show(if e.1=o then cf (times p e.2) t else 0)+cS (scl p l) o t=cv p (λt=>(if e.1=o then cf e.2 t else 0)+cS l o t) t;rw[Y0,d];congr 1;by_cases c:e.1=o
  ·rw[aS c,Zx,show(λt=>if e.1=o then cf e.2 t else 0)=cf e.2 from funext λt=>aS c]
  ·rw[aQ c,show(λt=>if e.1=o then cf e.2 t else(0:Int))=λ_=>0 from funext λt=>aQ c,HM]
abbrev B (f:Fn):Fn:=λo=>f<|bk o
abbrev d0:Int->Int:=λt=>if t=0 then 1 else 0
end He
namespace He
open PySem L2 Am Po
open Fw (Two rg QC)
open Su (qI Ps cS Gd vS toS adds bx)
def Mu{D:Ps}(h:Gd D){e:ag×Pl}(he:e∈D):vS D e.1=e.2:=by
 rcases Su.wg (D:=D) (o:=e.1)with⟨c,h1,h2,h3⟩|⟨h1,_⟩
 ·rw[h3,C1 h.nd c h1 e he h2]
 ·exact absurd (eO he) h1
def F9{D:Ps}(h:Gd D):(D.map Prod.fst).map (λk=>(k,vS D k))=D:=by
 rw[bD]
 conv=>rhs;rw[<- jx D]
 exact b9 λe c=>by
  show(e.1,vS D e.1)=e;rw[Mu h c]
def HL{D:Ps}(h:Gd D)(o:ag)(t:Int):cS D o t=cf (vS D o) t:=by
 conv=>lhs;rw[<- F9 h]
 rw[Su.GC h.nd];split
 ·rfl
 ·rename_i c
  rcases Su.wg (D:=D) (o:=o)with⟨e,h1,h2,_⟩|⟨_,h2⟩
  ·exact absurd (h2 ▸ eO h1) c
  ·rw[h2];rfl
def Gw{D:Ps}(h:Gd D):Gd (toS D):=by
 refine⟨?_,λe c=>?_⟩
 ·unfold toS;rw[bD,show(Prod.fst ∘ λo=>(o,vS D o))=id from rfl,jx];exact((kC _).nodup_iff.mpr h.nd).filter _
 ·obtain⟨o,_,rfl⟩:=br.mp c;exact h.v o
structure Cn (l:Ps):Prop where
 gd:Gd l
 eq:toS l=l
theorem Cn.toS{D:Ps}(h:Gd D):Cn (toS D):=⟨Gw h,Su.O9 (Gw h) h λo t=>by rw[<- HL (Gw h),Su.Hs h]⟩
def Qi{P:Ps}(h:Gd P)(hn:∀e∈P,e.2≠[]):zy P=toS P:=by
 symm
 have all:(mO<|P.map Prod.fst).filter (λo=>!(vS P o).isEmpty)=mO (P.map Prod.fst):=by
  rw[gb];intro o d;obtain⟨e,c,rfl⟩:=br.mp<|(kC _).mem_iff.mp d;rw[Mu h c]
  cases f:e.2 with
  | nil=>exact absurd f (hn e c)
  | cons=>rfl
 have ts:toS P=(mO<|P.map Prod.fst).map λo=>(o,vS P o):=by unfold toS;rw[all]
 refine Hu h.nd ?_ ?_
 ·rw[ts];have:=(kC<|P.map Prod.fst).map λo=>(o,vS P o)
  rwa [F9 h]at this
 ·rw[ts,bD,show(Prod.fst ∘ λo=>(o,vS P o))=id from rfl,jx];exact uy _
abbrev ff (o:ag):bj:=((List.range<|o.length-1).find? λi=>qI o<|i+1).map (·+1)
def SH{o:ag}{k:Nat}(h:ff o=some k):1<=k/\k<o.length/\qI o k=true:=by
 obtain⟨i,c,rfl⟩:=aW.mp h;have h1:=c5.mp<|cY c;have h2:qI o (i+1)=true:=gz (p:=λi=>qI o<|i+1) c;exact⟨(),(),h2⟩
def ZG(k:Nat)(l:Ps):Cn (bx k l):=.toS<|Gd.nil.adds _
def Jt(l:Ps)(o:ag)(t:Int):cS (toS<|adds [] l) o t=cS l o t:=by
 rw[Su.Hs<|Gd.nil.adds _,Su.Na];exact cX _
abbrev AB (l m:Ps):Ps:=toS<|adds []<|l++m
def TY{n:Nat}{l m:Ps}(pl:∀x∈l,x.1.Perm<|rg n)(pm:∀x∈m,x.1.Perm<|rg n):Cn (AB l m)/\(∀x∈AB l m,x.1.Perm<|rg n)/\cS (AB l m)=add (cS l) (cS m):=
 ⟨.toS<|Gd.nil.adds _,Su.sS (P:=λo=>o.Perm<|rg n)<|Su.qD (P:=λo=>o.Perm<|rg n) _ (nofun) λx c=>(bE.mp c).elim (pl x)<|pm x,funext λo=>funext λt=>by
  show cS (toS<|adds []<|l++m) o t=_;rw[Jt,Su.MM];rfl⟩
abbrev one (n:Nat):Ps:=[(rg n,[((0:Int),(1:Int))])]
def W7(o:ag){p:Pl}(hp:Ok p)(h0:p≠[]):Cn [(o,p)]:=by
 have g:Gd [(o,p)]:=⟨bQ.mpr ⟨(λz=>nomatch z),dh⟩,λe c=>by rw[aM.mp c];exact hp⟩;exact⟨g,(Qi g λe c=>by rw[aM.mp c];exact h0).symm⟩
def XI:Ok [((0:Int),(1:Int))]:=⟨c_ _ _,λp hp=>by rw[aM.mp hp];decide⟩
end He
namespace He
open PySem L2 Am Po
open Fw (Two rg QC)
open Su (qI Ps cS Gd vS toS adds bx)
abbrev arr:Nat->ag->List (ag)
 | 0,_=>[[]]
 | m+1,l=>l.flatMap λx=>(arr m<|l.erase x).map (x::·)
theorem D3:∀{m:Nat}{l o:ag},o.Perm l->l.length=m->o∈arr m l
 | 0,l,o,p,h=>by
  have:l=[]:=c8.mp h;subst this;rw[p.eq_nil];exact aM.mpr rfl
 | m+1,l,[],p,h=>by rw[<- p.length_eq]at h;cases h
 | m+1,l,x::o,p,h=>by
  obtain⟨h1,h2⟩:=List.cons_perm_iff_perm_erase.mp p;refine fW.mpr ⟨x,h1,br.mpr ⟨o,D3 h2 ?_,rfl⟩⟩;rw[List.length_erase_of_mem h1,h];rfl
def BC{α:Type}[DecidableEq α]{ks L:List α}(nd:ks.Nodup)(h:∀x∈ks,x∈L):ks.length<=L.length:=by
 have:=pig L.length (ks.map λx=>L.idxOf x) ?_ λi c=>?_
 ·rwa [aG]at this
 ·refine cT.mpr<|nd.imp_of_mem λ{a b} ha hb hab z=>hab ?_;have e1:=List.getElem_idxOf<|gr.mpr<|h a ha;have e2:=List.getElem_idxOf<|gr.mpr<|h b hb;rw[<- e1,<- e2];congr 1
 ·obtain⟨x,d,rfl⟩:=br.mp c;exact gr.mpr<|h x d
def Rk:∀n,n<6->(arr n<|rg n).length<=120:=by decide +kernel
def many{n:Nat}(hn:n<6){ks:List<|ag}(nd:ks.Nodup)(h:∀o∈ks,o.Perm<|rg n):ks.length<=120:=
 bF (BC nd λo c=>D3 (h o c)<|Wd.mZ n) (Rk n hn)
structure FB (n P C:Nat)(f:Fn):Prop where
 c:∀o,o.Perm (rg n)->∀t,(f o t).natAbs<=C
 p:∀o,o.Perm (rg n)->∀t:Int,P<t.natAbs->f o t=0
def FB.mono{n P:Nat}{f:Fn}(h:FB n P C f)(hp:P<=P')(hc:C<=C'):FB n P' C' f:=⟨λo d t=>bF (h.c o d t) hc,λo d t e=>h.p o d t ()⟩
def FB.eq{n P:Nat}{f g:Fn}(h:FB n P C f)(e:EqP n g f):FB n P C g:=⟨λo d t=>by rw[e o d t];exact h.c o d t,λo d t j=>by rw[e o d t];exact h.p o d t j⟩
theorem FB.X{n P k:Nat}{f:Fn}(h:FB n P C f)(h0:1<=k)(h1:k<n):FB n (P+1) (3 * C) (X k f):=by
 refine⟨λo e t=>?_,λo e t g=>?_⟩
 ·have a:=h.c _ (E3 e h0 h1) t;have b:=h.c o e<|t+1;have d:=h.c o e<|t-1;unfold He.X dl;split<;>omega
 ·have a:=h.p _ (E3 e h0 h1) t (by omega);have b:=h.p o e (t+1) (by omega);have d:=h.p o e (t-1) (by omega);unfold He.X dl;split<;>omega
theorem FB.add{n P:Nat}{f g:Fn}(h:FB n P C f)(h':FB n P C' g):FB n P (C+C') (add f g):=by
 refine⟨λo d t=>?_,λo d t e=>?_⟩
 ·have a:=h.c o d t;have b:=h'.c o d t;show(f o t+g o t).natAbs<=_;omega
 ·show f o t+g o t=0;rw[h.p o d t e,h'.p o d t e];rfl
structure PB (Q c:Nat)(p:Pl):Prop where
 c:∀q∈p,q.2.natAbs<=c
 p:∀q∈p,q.1.natAbs<=Q
theorem YL{n P c:Nat}{f:Fn}(h:FB n P C f){o:ag}(po:o.Perm<|rg n):∀{p:Pl},PB Q c p->(∀t,(cv p (f o) t).natAbs<=p.length * (c * C))/\∀t:Int,P+Q<t.natAbs->cv p (f o) t=0
 | [],_=>⟨λ_=>bM _,λ_ _=>rfl⟩
 | q::p,b=>by
  obtain⟨j,k⟩:=YL h po (p:=p) ⟨λx d=>b.c x<|aK _ d,λx d=>b.p x<|aK _ d⟩;have g:=b.c q<|aN ..;have m:=b.p q<|aN ..;refine⟨λt=>?_,λt e=>?_⟩
  ·show(q.2 * f o (t-q.1)+cv p (f o) t).natAbs<=(p.length+1) * (c * C);refine bF (Int.natAbs_add_le _ _) ?_;rw[Int.natAbs_mul,iP,Nat.add_comm];exact Nat.add_le_add (j t) (jy g<|h.c o po _)
  ·show q.2 * f o (t-q.1)+cv p (f o) t=0;rw[k t e,h.p o po _<|by omega,jl];rfl
theorem FB.LC{n P c:Nat}{f:Fn}(h:FB n P C f){p:Pl}(b:PB Q c p):FB n (P+Q) (p.length * (c * C)) (LC p f):=⟨λo d t=>(YL h d b).1 t,λo d t e=>(YL h d b).2 t e⟩
theorem G2:∀{l:Pl}{a b:Int},l.Pairwise (λp q=>p.1<q.1)->(∀p∈l,a<=p.1/\p.1<=b)->l.length<=(b-a+1).toNat
 | [],_,_,_,_=>bM _
 | p::l,a,b,h,hb=>by
  obtain⟨h1,h2⟩:=cB.mp h;have p1:=hb p<|aN ..;have i:=G2 (l:=l) (a:=a+1) (b:=b) h2 λq c=>by
   have:=h1 q c;have:=hb q (aK _ c)
   lia
  rw[bC]
  lia
def YU{p:Pl}{P c:Nat}(h:Ok p)(b:PB P c p):p.length<=2 * P+1:=by
 have:=G2 (a:=-(P:Int)) (b:=P) h.up λq d=>by have:=b.p q d;omega
 omega
def FB.pb{n P:Nat}{l:Ps}(h:FB n P C<|cS l)(hc:Gd l)(pl:∀x∈l,x.1.Perm<|rg n){e:ag×Pl}(he:e∈l):PB P C e.2/\e.2.length<=2 * P+1:=by
 have ok:=hc.ok e he;have f:∀q∈e.2,cS l e.1 q.1=q.2:=λq d=>by
  rw[HL hc,Mu hc he];exact Su.Ok.zH ok d
 have b:PB P C e.2:=⟨λq d=>by rw[<- f q d];exact h.c _ (pl e he) _,λq d=>by
  refine Nat.le_of_not_lt λz=>ok.nz q d ?_;rw[<- f q d];exact h.p _ (pl e he) _ z⟩
 exact⟨b,YU ok b⟩
structure Sz (n P C:Nat)(l:Ps):Prop where
 cn:Cn l
 pm:∀x∈l,x.1.Perm (rg n)
 fb:FB n P C<|cS l
def Sz.pb{n P:Nat}{l:Ps}(h:Sz n P C l){e:ag×Pl}(he:e∈l):PB P C e.2/\e.2.length<=2 * P+1:=h.fb.pb h.cn.gd h.pm he
def Sz.many{n P:Nat}{l:Ps}(hn:n<6)(h:Sz n P C l):l.length<=120:=by
 have:=He.many hn h.cn.gd.nd λo d=>by obtain⟨e,c,rfl⟩:=br.mp d;exact h.pm e c
 rwa [aG]at this
def Sz.mono{n P:Nat}{l:Ps}(h:Sz n P C l)(hp:P<=P')(hc:C<=C'):Sz n P' C' l:=⟨h.cn,h.pm,h.fb.mono hp hc⟩
theorem Sz.bx{n P k:Nat}{l:Ps}(h:Sz n P C l)(h0:1<=k)(h1:k<n):Sz n (P+1) (3 * C) (bx k l):=⟨ZG _ _,ZT h0 h1 h.pm,(h.fb.X h0 h1).eq<|acr h.pm h0 h1⟩
def Sz.sum{n P c:Nat}{l:Ps}(h:Sz n P C l)(h':Sz n P c m):Sz n P (C+c) (AB l m):=by
 obtain⟨a,b,d⟩:=TY h.pm h'.pm;exact⟨a,b,by rw[d];exact h.fb.add h'.fb⟩
end He
namespace Su
open Am Po PySem L2
def KG{D:Es}{r:Nat}{p:Pl}:∃e,fE (rA D o r p) o=some e/\e.2.1=r:=by
 unfold rA;by_cases c:(fE D o).isSome=true
 ·rw[aS c];obtain⟨e,d⟩:=cN.mp c;unfold fE at d ⊢;rw[ie];have eq:((λe:En=>decide<|e.1=o) ∘ λe:En=>if e.1=o then(e.1,r,p)else e)=λe:En=>decide (e.1=o):=by
   funext x
   show decide ((if x.1=o then(x.1,r,p)else x).1=o)=_;by_cases z:x.1=o
   ·rw[aS z]
   ·rw[aQ z]
  rw[eq,d];have:=gz d;have:=bK this;exact⟨_,rfl,by show(if e.1=o then(e.1,r,p)else e).2.1=r;rw[aS this]⟩
 ·rw[aQ c];have c:fE D o=none:=Option.not_isSome_iff_eq_none.mp c;unfold fE at c ⊢;rw[List.find?_append,c];exact⟨(o,r,p),by rw[bV,aY rfl];rfl,rfl⟩
end Su
namespace He
open PySem L2 Am Po
open Fw (Two rg QC)
open Su (qI Ps cS Gd vS toS adds bx)
def Sz.of{n P:Nat}{l:Ps}(h:Cn l)(pm:∀x∈l,x.1.Perm<|rg n)(pb:∀e∈l,PB P C e.2):Sz n P C l:=by
 refine⟨h,pm,⟨λo j t=>?_,λo j t k=>?_⟩⟩
 ·rw[HL h.gd]
  rcases Su.wg (D:=l) (o:=o)with⟨e,h1,_,h3⟩|⟨_,h2⟩
  ·rw[h3];exact Su.aav (h.gd.ok e h1) (λq d=>(pb e h1).c q d) t
  ·rw[h2];exact bM _
 ·rw[HL h.gd]
  rcases Su.wg (D:=l) (o:=o)with⟨e,h1,_,h3⟩|⟨_,h2⟩
  ·rw[h3];have:∀q∈e.2,q.1≠t:=λq d z=>by have:=(pb e h1).p q d;rw[z]at this;lia
   clear h3;revert this;generalize e.2=p0;intro this
   induction p0 with
   | nil=>rfl
   | cons q p f=>
    have z:=this q<|aN ..;have i:=f λx g=>this x<|aK _ g;show(if q.1=t then q.2 else 0)+cf p t=0;rw[aQ z,i];rfl
  ·rw[h2];rfl
def SJ{o:ag}:((nN 1 (o.length:Int)).filter λk=>decide<|o.getD (k-1).toNat 0>o.getD k.toNat 0).head?=(ff o).map λk:Nat=>(k:Int):=by
 rw[List.head?_filter];unfold nN ff;rw[ie,show((o.length:Int)-1).toNat=o.length-1 by lia,fQ];have:((λk:Int=>decide<|o.getD (k-1).toNat 0>o.getD k.toNat 0) ∘ λk:Nat=>(1:Int)+(k:Int))=λi:Nat=>qI o (i+1):=by
  funext i
  show decide (o.getD ((1:Int)+(i:Int)-1).toNat 0>o.getD ((1:Int)+(i:Int)).toNat 0)=decide _;rw[show((1:Int)+(i:Int)-1).toNat=i+1-1 by lia,show((1:Int)+(i:Int)).toNat=i+1 by lia]
 rw[this];congr 1
 funext i
 show(1:Int)+(i:Int)=((i+1:Nat):Int)
 lia
end He
namespace He
open PySem L2 Am Po
open Fw (Two rg QC)
open Su (qI Ps cS Gd vS toS adds bx)
abbrev Y (k:Nat)(f:Fn):Fn:=λo t=>X k f o t-dl (f o) t
abbrev Yw (w:am)(f:Fn):Fn:=w.foldl (λf k=>Y k f) f
abbrev Gi (p:Pl)(l:Ps):Ps:=toS<|adds []<|scl p l
def YY(p:Pl)(l:Ps):cS (Gi p l)=LC p (cS l):=by
 funext o t
 unfold Gi;rw[Jt,Wh]
def V_{n:Nat}{p:Pl}{l:Ps}(pl:∀x∈l,x.1.Perm<|rg n):Cn (Gi p l)/\∀x∈Gi p l,x.1.Perm (rg n):=
 ⟨.toS<|Gd.nil.adds _,Su.sS (P:=λo=>o.Perm<|rg n) (Su.qD (P:=λo=>o.Perm<|rg n) _ (nofun) λx c=>by
  obtain⟨y,d,rfl⟩:=br.mp c;exact pl y d)⟩
structure Fwd (n:Nat)(W:ag->am):Prop where
 r:∀o,o.Perm (rg n)->Wd.xG (rg n) (W o)
 e:∀o,o.Perm (rg n)->Wd.led (rg n) (W o)=o
end He
namespace He
open PySem L2 Am Po
open Fw (Two rg QC Dn)
open Su (qI Ps cS Gd vS toS adds bx)
theorem Sz.Gi{n P c:Nat}{l:Ps}(h:Sz n P C l){p:Pl}(b:PB Q c p):Sz n (P+Q) (p.length * (c * C)) (Gi p l):=by
 obtain⟨d,e⟩:=V_ (p:=p) h.pm;exact⟨d,e,by rw[YY];exact h.fb.LC b⟩
end He
namespace Su
open PySem L2 Am Po
abbrev RB (Q:Nat)(p:Pl):Prop:=∀q∈p,q.1.natAbs<=Q
theorem ym:∀(ps d:Pl) {k:Int},k∈(qW d ps).map Prod.fst->k∈d.map Prod.fst\/k∈ps.map Prod.fst
 | [],_,_,h=>.inl h
 | p::ps,d,k,h=>by
  rcases ym ps (acc d p.1 p.2) (k:=k) h with z|z
  ·have e:(acc d p.1 p.2).map Prod.fst=_:=F0;rw[e]at z;split at z
   ·exact .inl z
   ·rcases bE.mp z with y|y
    ·exact .inl y
    ·exact .inr<|by rw[aM.mp y];exact aN ..
  ·exact .inr<|aK _ z
def Km{d:Pl}{q:Int×Int}(h:q∈KY d):q.1∈d.map Prod.fst:=by
 obtain⟨k,c,rfl⟩:=br.mp h;exact(sortI_perm _).mem_iff.mp (ck.mp c).1
def RB.plus{a:Pl}(ha:RB Q a)(hb:RB Q b):RB Q (qL a b):=λq d=>by
 rcases ym _ _ (Km d)with z|z
 ·cases z
 ·obtain⟨x,c,e⟩:=br.mp z;rw[<- e];exact(bE.mp c).elim (ha x) (hb x)
theorem RB.times{R:Nat}{a:Pl}(ha:RB Q a)(hb:RB R b):RB (Q+R) (times a b):=λq f=>by
 rcases ym _ _ (Km f)with z|z
 ·cases z
 ·obtain⟨x,c,e⟩:=br.mp z;obtain⟨y,d,c⟩:=fW.mp c;obtain⟨w,hw,rfl⟩:=br.mp c;rw[<- e];have:=ha y d;have:=hb w hw;show(y.1+w.1).natAbs<=_
  lia
def RB.mono{R:Nat}{a:Pl}(h:RB Q a)(hq:Q<=R):RB R a:=λq c=>bF (h q c) hq
def RB.len{p:Pl}(ok:Ok p)(h:RB Q p):p.length<=2 * Q+1:=by
 have:=He.G2 (a:=-(Q:Int)) (b:=Q) ok.up λq c=>by have:=h q c;lia
 lia
def RK{S:jF}{d:Nat}{D:Pl}(hd:mz S d=some (iv D))(hl:D.length<64):∃S',jZ [none,some 0] (kD<|jY (f1 wY)<|jC (jB 0)<|jH) (j4 0) (qQ<|jI (sd true) (jI Av (jB 1)<|jB 0)<|eC<|.int 0) (pD<|jC (jB 0)<|jC (jI Av (jB 1)<|jB 0)<|jH) [.ref d] S=.ok (.ref<|S.length+1) S'/\jE S' (S.length+1)=some (pl<|KY D)/\kK S S':=by
 have f:mz (S++[.lst<|(sortI<|D.map Prod.fst).map .int]) d=some (iv D):=Xm hd;have j:(S++[O.lst<|(sortI<|D.map Prod.fst).map A.int]).length=S.length+1:=by simp
 have m:wY (.ref d) S=.ok (.ref S.length) (S++[.lst<|(sortI<|D.map Prod.fst).map .int]):=by
  show opt (mz S d) _=_;rw[hd,j7,NG<|show(iv D).length<64 by unfold iv;rw[aG];exact hl,SA]
 have p:=Ls (n:=S.length) (xs:=(sortI<|D.map Prod.fst).map A.int) (cap:=[some 0]) (src:=kD<|jY (f1 wY)<|jC (jB 0)<|jH) (t:=qQ<|jI (sd true) (jI Av (jB 1)<|jB 0)<|eC<|.int 0) (e:=pD<|jC (jB 0)<|jC (jI Av (jB 1)<|jB 0)<|jH) (τ:=[.ref d]) (S:=S) (S1:=S++[.lst<|(sortI<|D.map Prod.fst).map .int])
  (kR (by dsimp[j8,bools,m]) jR) jR (λx=>match x with | .int k=>val D k != 0|_=>false) (λx=>match x with | .int k=>pA (k,val D k)|_=>.non) (λx g=>by
   obtain⟨k,c,rfl⟩:=br.mp g;have c:=(sortI_perm _).mem_iff.mp c;dsimp[j8,bools,J1,f,EJ c];rfl) (λx g _=>by
   obtain⟨k,c,rfl⟩:=br.mp g;have c:=(sortI_perm _).mem_iff.mp c;dsimp[j8,bools,J1,f,EJ c];exact nF<|show 2<=16777216 by decide) (by rw[aG,(sortI_perm _).length_eq,aG];lia)
 refine⟨_,p.trans<|by rw[j],?_,Kp.refl.lay.lay⟩;rw[<- j,jR];congr 1;unfold pl KY;rw[bD,iL,bD];rfl
def Tc{S:jF}{d:Nat}{D:Es}(hd:ku S d=some (D.map kv))(hne:∀e∈D,e.1≠[])(hl:D.length<64):zb (.ref d) S=.ok (.ref S.length) (S++[.lst<|(mO<|D.map Prod.fst).map Bt]):=by
 have g:(D.map kv).map Prod.fst=D.map Prod.fst:=by rw[bD];rfl
 show opt (ku S d) _=_;rw[hd,j7,g,NG<|Wu (λk f=>by obtain⟨e,c,rfl⟩:=br.mp f;exact hne e c)<|by rw[aG];exact hl];rfl
abbrev Fg (F:ae->jF->R A):Prop:=∀{S:jF}{d r:Nat}{D:Es}{o:ag}{p:Pl}{k b:Nat},ku S d=some (D.map kv)->At S D->Vl k b D->jE S r=some (pl p)->D.length<64->k+p.length<64 ->
  ∃(L:Nat) (c:jF),F [.ref d,.tup<|o.map .int,.ref r] S=.ok .non c/\ku c d=some ((rA D o L<|qL (vS (sm D) o) p).map kv)/\At c (rA D o L<|qL (vS (sm D) o) p)/\S.length<=L/\Kp (·=d) S c
structure Fil3 (T:jF)(d b i j:Nat)(P:Ps)(D:Es):Prop where
 dd:ku T d=some (D.map kv)
 aa:At T D
 ss:sm D=P
 vv:Vl (2 * j+1) b D
 rb:∀e∈D,RB j e.2.2
 kk:∀e∈D,e.1≠[]
 ll:D.length<=i
 pw:Ap D
def Fil3.mono{d:Nat}{P:Ps}{D:Es}(h:Fil3 T d b i j P D)(hi:i<=i'):Fil3 T d b i' j P D:=⟨h.dd,h.aa,h.ss,h.vv,h.rb,h.kk,bF h.ll hi,h.pw⟩
def Fil3.new{d:Nat}(hd:ku S d=some []):Fil3 S d b 0 j [] []:=⟨hd,(nofun),rfl,(nofun),(nofun),(nofun),aL _,List.Pairwise.nil⟩
def Fil3.vp{d:Nat}{P:Ps}{D:Es}(h:Fil3 S d b i j P D)(k:kK S T):Fil3 T d b i j P D:=⟨k.dct _ _ (λz=>z) h.dd,h.aa.vp k,h.ss,h.vv,h.rb,h.kk,h.ll,h.pw⟩
def Fil3.add{F:ae->jF->R A}(hF:Fg F){T:jF}{d r:Nat}{P:Ps}{D:Es}{o:ag}{p:Pl}(h:Fil3 T d b i j P D)(hr:jE T r=some (pl p))(hp:RB j p)(lp:p.length<=2 * j+1)(ho:o≠[])(hb:b<=T.length)(hl:j<=15)(hi:i<63) :
  ∃(D':Es) (T':jF),F [.ref d,.tup<|o.map .int,.ref r] T=.ok .non T'/\Fil3 T' d b (i+1) j (zB P o p) D'/\Kp (·=d) T T':=by
 have t:=h.ll;obtain⟨L,T',e,h1,h2,h3,k⟩:=hF (o:=o) h.dd h.aa h.vv hr () ();have g:RB j (vS (sm D) o):=by
  rw[Ly]
  cases e:fE D o with
  | none=>exact λq m=>nomatch m
  | some f=>exact h.rb f (tW e).1
 have rn:=g.plus hp;refine⟨_,T',e,⟨h1,h2,by rw[O0,h.ss];rfl,λe c=>?_,λe c=>?_,λe c=>?_,?_,h.pw.put λe c z=>by have:=mq<|h.aa e c;lia⟩,k⟩
 ·rcases tK c with z|z
  ·exact h.vv e z
  ·rw[z];exact⟨AO _ _,RB.len (AO _ _) rn,by show b<=L;lia⟩
 ·rcases tK c with z|z
  ·exact h.rb e z
  ·rw[z];exact rn
 ·rcases tK c with z|z
  ·exact h.kk e z
  ·rw[z];exact ho
 ·have:=Tz (D:=D) (o:=o) (r:=L) (p:=qL (vS (sm D) o) p)
  lia
def zN{d n w:Nat}{P:Ps}{es:Es}{src:Ic}{c:Am.Sm}{g:Tg}(Fm:A->A->ae)(G:En->Ps->Ps)(hg:∀(e:En) (y z:A) (T:jF),g (ent e) (Fm y z) T=.ok (Fm (.tup<|e.1.map .int)<|.ref e.2.1) T)
  {x3 x4:A} (hs:src (Fm x3 x4) S=.ok (kB n (es.map ent).length) S1) (hn:jE S1 n=some (es.map ent)) (hd:Fil3 S1 d b i0 j P D0)
  (step:∀(i:Nat) (e:En) (T:jF) (Q:Ps) (D:Es),i<es.length->e∈es->Kp (·=d) S1 T->Fil3 T d b (i0+w * i) j Q D->∃(D':Es) (T':jF),c (Fm (.tup<|e.1.map .int)<|.ref e.2.1) T=.nx (Fm (.tup<|e.1.map .int)<|.ref e.2.1) T'/\Fil3 T' d b (i0+w * (i+1)) j (G e Q) D'/\Kp (·=d) T T') :
  ∃(y3 y4:A) (D:Es) (S':jF),m_ src g c (Fm x3 x4) S=.nx (Fm y3 y4) S'/\Fil3 S' d b (i0+w * es.length) j (es.foldl (λQ e=>G e Q) P) D/\Kp (·=d) S1 S':=by
 have m:(es.map ent).length=es.length:=aG ..;refine rC (n:=n) (xs:=es.map ent) (S1:=S1) hs (λi τ T=>(∃y3 y4,τ=Fm y3 y4)/\(∃D,Fil3 T d b (i0+w * i) j ((es.take i).foldl (λQ e=>G e Q) P) D)/\Kp (·=d) S1 T)
  (λr=>∃(y3 y4:A) (D:Es) (S':jF),r=.nx (Fm y3 y4) S'/\Fil3 S' d b (i0+w * es.length) j (es.foldl (λQ e=>G e Q) P) D/\Kp (·=d) S1 S') ⟨⟨_,_,rfl⟩,⟨D0,hd⟩,Kp.refl⟩ (λi τ T h=>h.2.2.lst _ _ (cK<|uK hd.dd hn) hn) ?_ ?_
 ·rintro i z τ T p ⟨⟨y3,y4,rfl⟩,⟨D,f⟩,kp⟩;rw[aV]at p;obtain⟨e,k,rfl⟩:=aW.mp p;refine⟨Fm (.tup<|e.1.map .int)<|.ref e.2.1,T,hg _ _ _ _,.inl ?_⟩;obtain⟨D',T',e1,t,q⟩:=step i e T _ D (aI.mp k).1 (bq k) kp f;refine⟨_,T',e1,⟨_,_,rfl⟩,⟨D',?_⟩,kp.trans q⟩;rw[bY,k,eF];exact t
 ·rintro τ T ⟨⟨y3,y4,rfl⟩,⟨D,f⟩,kp⟩;rw[m,bU]at f;exact⟨y3,y4,D,T,rfl,f,kp⟩
end Su
namespace He
open Su Po
open Fw (rg)
def aaY:∀n,n<5->(arr n<|rg n).length<=24:=by decide +kernel
def Sz.m24{n P:Nat}{l:Ps}(hn:n<5)(h:Sz n P C l):l.length<=24:=by
 have:(l.map Prod.fst).length<=24:=bF (BC h.cn.gd.nd λo d=>by obtain⟨e,c,rfl⟩:=br.mp d;exact D3 (h.pm e c)<|Wd.mZ n) (aaY n hn)
 rwa [aG]at this
def Sz.rb{n P:Nat}{l:Ps}(h:Sz n P C l){e:ag×Pl}(he:e∈l):RB P e.2:=(h.pb he).1.p
end He
namespace K71
open PySem L2 Am
abbrev PM (S:jF)(b:Nat):Prop:=∃g st:Int,jE S b=some [.int g,.int st]/\0<=g/\0<=st/\st<4294967296
def PM.kp{c:Nat->Prop}(h:PM S b)(k:Kp c S S')(hb:¬c b):PM S' b:=by
 obtain⟨g,st,e,q⟩:=h;exact⟨g,st,k.lst b _ hb e,q⟩
def JV{ns:ag}{k:Int}(h0:0<=k):∃c,o9 [.frz<|ns.map .int,.int k] S=.ok (.int c) S:=by
 unfold o9 vY vP;dsimp[j8,bools,lX,Nat.reduceAdd,Nat.reduceSub,aG];by_cases d:k<(ns.length:Int)
 ·have hn:k.toNat<ns.length:=()
  have e:qZ (ns.map A.int) k=some (.int ns[k.toNat]):=Cv (k:=k.toNat) ()<|aF hn;rw[aY d];dsimp[j8,bools,e];exact⟨_,rfl⟩
 ·rw[bw d];dsimp[j8,bools];exact⟨_,rfl⟩
def Ko{S:jF}{c k:Int}(h0:0<=k)(h1:k<=100):∃S',qE [.int c,.int k] S=.ok (.ref S.length) S'/\PM S' S.length/\kK S S':=by
 have e3:Ws (.int 10) (.int 18)=λS=>R.ok (.int 1000000000000000000) S:=by
  funext S;exact oM ⟨by decide,by decide,by decide⟩
 have e:∀x:Int,yK (.int x) (.int 2147483647)=λS=>R.ok (.int<|x % 2147483647) S:=λx=>by funext S;exact B4 ⋯
 have d:∀x:Int,A5 (.int x) (.int 69621)=λS=>R.ok (.int<|x * 69621) S:=λx=>by funext S;exact mul_r ⋯ ⋯
 have f:∀x:Int,A5 (.int 7919) (.int x)=λS=>R.ok (.int<|7919 * x) S:=λx=>by funext S;exact Oo ⋯ ⋯
 have m:∀x:Int,0<=x % 2147483647:=λx=>iM _ ⋯;have g:∀x:Int,x % 2147483647<4294967296:=λx=>by have:=gF x (show(0:Int)<2147483647 by decide);lia
 have p:0<=(if c<0 then -c else c):=by split<;>lia
 unfold qE xM xX;dsimp[j8,bools,lX,Nat.reduceAdd,Nat.reduceSub,e3,e,d,f];by_cases j:(if c<0 then -c else c)<1000000000000000000
 ·rw[aY j];dsimp[j8,bools,e3,e,d,f];exact⟨_,rfl,⟨_,_,jR,Int.le_refl 0,m _,g _⟩,Kp.refl.lay⟩
 ·rw[bw j];dsimp[j8,bools,e3,e,d,f];exact⟨_,rfl,⟨_,_,jR,p,m _,g _⟩,Kp.refl.lay⟩
def Mn{S:jF}{g st:Int}(hl:jE S b=some [.int g,.int st])(hs:0<=st)(hs2:st<4294967296):∃d st',oq [.ref b] S=.ok (.int d) (S.set b<|.lst [.int g,.int st'])/\0<=st'/\st'<4294967296:=by
 have c:=mq hl;have e:Ec 2 1=some 1:=xU rfl ⋯;have e1:0<=(st * 48271+11) % 2147483647:=iM _ ⋯;have e2:(st * 48271+11) % 2147483647<2147483647:=gF _ ⋯;refine⟨(st * 48271+11) % 2147483647 * 16807 % 2147483629 / 8,(st * 48271+11) % 2147483647,?_,e1,()⟩;unfold oq vd uN;rw[w_];simp[hl,sP,yE,e,Oo (show -18446744073709551616<st by lia) (),B4<|show(0:Int)<2147483647 by decide,qz c,Om (show(0:Int)<8 by decide) ⋯,Oo (show -18446744073709551616<(st * 48271+11) % 2147483647 by lia) (),B4<|show(0:Int)<2147483629 by decide]
def digit{m:Int}(h:PM S b)(h1:1<=m)(h2:m<=1000):∃d S',kF [.ref b,.int m] S=.ok (.int d) S'/\0<=d/\d<m/\PM S' b/\Kp (·=b) S S':=by
 obtain⟨g,st,q,hg,hs,k⟩:=h;have t:=mq q;have K:Ec 2 0=some 0:=xU rfl ⋯;have j:∀d p c:Int,0<=d->d<m->0<=p->0<=c->c<4294967296->kF [.ref b,.int m] S=.ok (.int d) (S.set b<|.lst [.int p,.int c])->∃d S',kF [.ref b,.int m] S=.ok (.int d) S'/\0<=d/\d<m/\PM S' b/\Kp (·=b) S S':=
  λd p c L F J M B e=>⟨d,_,e,L,F,⟨p,c,qz t,J,M,B⟩,Kp.refl.set<|.inl rfl⟩
 by_cases f:0<g
 ·refine j (g % m) (g / m) st (iM _ ()) (gF _ ()) (Int.ediv_nonneg hg ()) hs k ?_;unfold kF rR rD;rw[w_];simp[q,sP,yE,f,B4<|show 0<m by lia,Om (show 0<m by lia)<|show m<1073741824 by lia,K]
 ·obtain⟨d,c,e1,G,C⟩:=Mn q hs k;refine j (d % m) g c (iM _ ()) (gF _ ()) hg G C ?_;unfold kF rR rD;rw[w_];simp[q,sP,yE,f,B4<|show 0<m by lia,e1,show ¬(1000<m)by lia]
theorem zT:∀(l:ag) (j:Nat) (h:j<l.length),(l[j]::l.eraseIdx j).Perm l
 | x::l,0,_=>dW _
 | x::l,j+1,h=>(List.Perm.swap x _ _).trans<|List.Perm.cons x<|zT l j<|Nat.lt_of_succ_lt_succ h
def KO{ls fs:ag}{j:Nat}(h:j<ls.length):((fs++[ls[j]])++ls.eraseIdx j).Perm (fs++ls):=by
 rw[cH];refine List.Perm.append_left fs ?_
 skip
 exact zT ls j h
def MB{d:Int}{n:Nat}(h0:0<=d)(h:d.toNat<n):seqIndex? d n=some d.toNat:=by
 unfold seqIndex?;simp
 lia
theorem B6{α β:Type}(f:α->β):∀(l:List α) (k:Nat),(l.map f).eraseIdx k=(l.eraseIdx k).map f
 | [],_=>rfl
 | _::_,0=>rfl
 | x::l,k+1=>c7 (f x::·)<|B6 f l k
def FF{n:Int}(h:PM S b)(h1:1<=n)(h2:n<=20):∃(xs:ag) (S':jF),mK [.ref b,.int n] S=.ok (.tup<|xs.map .int) S'/\xs.Perm (nN 1<|n+1)/\PM S' b/\Kp (·=b) S S':=by
 have T:b<S.length:=by obtain⟨_,_,e,_⟩:=h;exact mq e
 unfold mK uP ux;dsimp[j8,bools,lX,Nat.reduceAdd,Nat.reduceSub,Lx<|Of (show(-1000000:Int)<=1 by decide) ⋯ (show -1000000<=n+1 by lia) () (),bf];refine Ie (lo:=0) (hi:=n) (S1:=S++[.lst<|(nN 1<|n+1).map .int]++[.lst []]) (wQ (by dsimp[j8,bools])<|sj () ())
  (λi τ S1=>∃(M:A) (f fs:ag),τ=[.ref b,.int n,.ref S.length,.ref<|S.length+1,M]/\jE S1 S.length=some (f.map .int)/\jE S1 (S.length+1)=some (fs.map .int)/\(f.length:Int)+i=n/\(fs++f).Perm (nN 1<|n+1)/\PM S1 b/\Kp (·=b) S S1)
  (λr=>∃(xs:ag) (S':jF),RS.end (RS.seq r _)=.ok (.tup<|xs.map .int) S'/\xs.Perm (nN 1<|n+1)/\PM S' b/\Kp (·=b) S S') ?_ ?_ ?_
 ·refine⟨.unb,nN 1<|n+1,[],rfl,j9 jR,?_,by rw[uD];lia,dW _,h.kp (c:=λ_=>False) (Kp.refl.lay.lay) λz=>z,Kp.refl.lay.lay⟩;have:jE (S++[.lst<|(nN 1<|n+1).map .int]++[.lst []]) (S++[O.lst<|(nN 1<|n+1).map .int]).length=some []:=jR;simpa using this
 ·rintro i τ S1 hi ⟨M,f,fs,rfl,F,B,hn,hp,C,K⟩;left;obtain⟨d,S2,e2,d0,V,G,j⟩:=digit (m:=(f.length:Int)) C () ();have k:=j.lst S.length _ () F;have p:=j.lst (S.length+1) _ () B;have t:d.toNat<f.length:=()
  have U:=mq p;have P:=mq k;have N:fs.length<=20:=by
   have:=hp.length_eq;rw[bf,uD]at this
   lia
  have J:seqIndex? d f.length=some d.toNat:=MB d0 t;have L:jE (S2.set S.length<|.lst<|(f.map A.int).eraseIdx d.toNat) (S.length+1)=some (fs.map .int):=by rw[mj ()];exact p
  unfold vN;dsimp[j8,bools,F,B,aG,e2,k,GZ,oM<|show -(2 ^ 63:Int)<=d/\d<2 ^ 63 by lia,J,aV,aF t,fu,L,qm<|show fs.length<16777216 by lia];refine⟨_,_,rfl,_,f.eraseIdx d.toNat,fs++[f[d.toNat]],rfl,?_,?_,?_,(KO t).trans hp,?_,?_⟩
  ·rw[mj (),qz P,B6]
  ·rw[qz<|by rw[cu];exact U,bz];rfl
  ·rw[List.length_eraseIdx_of_lt t];lia
  ·obtain⟨g,st,e,q⟩:=G;exact⟨g,st,by rw[mj (),mj ()];exact e,q⟩
  ·exact((K.trans j).set<|.inr<|aL _).set (.inr ())
 ·rintro τ S1 ⟨M,f,fs,rfl,F,B,hn,hp,C,K⟩;have:f=[]:=c8.mp ();subst this;exact⟨fs,S1,by dsimp[j8,bools,B],by simpa using hp,C,K⟩
open Po (Pl Ok Bd)
def Qv{S:jF}{d:Nat}{D:Pl}(hd:mz S d=some (Po.iv D))(hl:D.length<64):∃S',lB [.ref d] S=.ok (.ref<|S.length+1) S'/\jE S' (S.length+1)=some (Po.pl<|Po.KY D)/\kK S S':=by
 obtain⟨S',e,h1,h2⟩:=Su.RK hd hl;refine⟨S',?_,h1,h2⟩;unfold lB qb pY;dsimp[j8,bools,lX,Nat.reduceAdd,Nat.reduceSub];rw[show jZ [none,some 0] _ _ _ _ _ _=_ from e];rfl
def Rq{S:jF}{n:Nat}{a b:Pl}(hn:jE S n=some (Po.pl a))(hm:jE S m=some (Po.pl b))(ha:Ok a)(hl:a.length+b.length<64) :
  ∃(L:Nat) (S':jF),zM [.ref n,.ref m] S=.ok (.ref L) S'/\jE S' L=some (Po.pl<|Po.qL a b)/\S.length<=L/\kK S S':=by
 have c:mz (S++[.qG<|Po.iv a]) S.length=some (Po.iv a):=GB;obtain⟨j,f,T,e,d,kp⟩:=RC (S:=S++[.qG<|Po.iv a]) (S1:=S++[.qG<|Po.iv a]) (x0:=.ref n) (x1:=.ref m) (x3:=.unb) (x4:=.unb) (src:=xx) (l:=b) (show xx _ _=_ from kR (by dsimp[j8,bools])<|j9 hm) (j9 hm) c ();have ln:=Po.uJ b a;obtain⟨S',e2,h1,h2⟩:=Qv d ();have k1:kK S T:=(Kp.refl.lay (o:=.qG<|Po.iv a)).old kp λq g _ z=>()
 refine⟨T.length+1,S',?_,by rw[h1,<- Po.R_ ha];rfl,by have:=k1.len;lia,k1.trans h2⟩;unfold zM GY GS;dsimp[j8,bools,lX,Nat.reduceAdd,Nat.reduceSub,B8,hn,Po.Pn,Po.IZ,Po.IC ha];rw[show m_ xx _ F3 _ _=_ from e];dsimp[j8,bools,e2]
def yv(f:Int×Int->A)(hf:∀p τ S,Rg (f p) τ S=Rg (Po.pA p) τ S){S:jF}{n:Nat}{a b:Pl}(hn:jE S n=some (a.map f))(hm:jE S m=some (Po.pl b))(hl:a.length * b.length<64)(ha:∀p∈a,p.2.natAbs<big)(hb:∀p∈b,p.2.natAbs<big) :
  ∃(L:Nat) (S':jF),rP [.ref n,.ref m] S=.ok (.ref L) S'/\jE S' L=some (Po.pl<|Po.times a b)/\S.length<=L/\kK S S':=by
 have c:mz (S++[.qG []]) S.length=some []:=GB;obtain⟨B,g,t,j,T,e,d,kp⟩:=GP f hf (S:=S++[.qG []]) (x3:=.unb) (x4:=.unb) (x5:=.unb) (x6:=.unb) (j9 hn) (j9 hm) c () ha hb;have ln:=Po.uJ (Po.IY a b) [];rw[Po.Iu,eg,bW]at ln;obtain⟨S',e2,h1,h2⟩:=Qv d ();have k1:kK S T:=(Kp.refl.lay (o:=.qG [])).old kp λq k _ z=>()
 refine⟨T.length+1,S',?_,h1,by have:=k1.len;lia,k1.trans h2⟩;unfold rP Dt DA;dsimp[j8,bools,lX,Nat.reduceAdd,Nat.reduceSub,LJ];rw[show m_ Cd _ Cp _ _=_ from e];dsimp[j8,bools,e2]
def Ag{S:jF}{n:Nat}{a b:Pl}(hn:jE S n=some (Po.pl a))(hm:jE S m=some (Po.pl b))(hl:a.length * b.length<64)(ha:∀p∈a,p.2.natAbs<big)(hb:∀p∈b,p.2.natAbs<big) :
  ∃(L:Nat) (S':jF),rP [.ref n,.ref m] S=.ok (.ref L) S'/\jE S' L=some (Po.pl<|Po.times a b)/\S.length<=L/\kK S S':=yv Po.pA (λ_ _ _=>rfl) hn hm hl ha hb
end K71
namespace K71
open PySem L2 Am
open Po (Pl Ok Bd)
open Su (Es At Vl)
def Yg{S:jF}{d r:Nat}{D:Es}{o:ag}{p:Pl}{k:Nat}(hd:ku S d=some (D.map Su.kv))(hA:At S D)(hv:Vl k b D)(hr:jE S r=some (Po.pl p))(hl:D.length<64)(hk:k+p.length<64) :
  ∃(L:Nat) (S':jF),kN [.ref d,.tup<|o.map .int,.ref r] S=.ok .non S'/\ku S' d=some ((Su.rA D o L<|Po.qL (Su.vS (Su.sm D) o) p).map Su.kv)/\At S' (Su.rA D o L<|Po.qL (Su.vS (Su.sm D) o) p)/\S.length<=L/\Kp (·=d) S S':=by
 obtain⟨x,ex,j⟩:=Su.get_or (o:=o) hd hA;have vo:=hv.v o;obtain⟨L,S2,e2,h1,h2,k2⟩:=Rq j (j9 (o:=.lst []) hr) vo.1 ();have f:kK S S2:=(Kp.refl.lay).trans k2;have c:=f.dct _ _ (λz=>z) hd;have g:ku (S++[.lst []]) d=some (D.map Su.kv):=Su.D5 hd;refine⟨L,S2.set d<|.dct<|(Su.rA D o L<|Po.qL (Su.vS (Su.sm D) o) p).map Su.kv,?_,Su.HV<|Su.O5 c,?_,by simp at h2;lia,f.of0.ye<|.inl rfl⟩
 ·unfold kN tD tV;have q:newL [] S=.ok (.ref S.length) (S++[.lst []]):=mF (show 0<=16777216 by decide);dsimp[j8,bools,lX,Nat.reduceAdd,Nat.reduceSub,Su.R0,Su.Uo,hd,fu,q,Su.Ud,g,ex,e2,Su.DZ,Su.FY,c,qm<|show(D.map Su.kv).length<16777216 by rw[aG];lia,Su.OT (p:=Po.qL (Su.vS (Su.sm D) o) p)]
 ·refine(Su.At.put (hA.vp f) h1).kp (Kp.refl.ye<|.inl rfl) λe m z=>?_
  rcases Su.tK m with y|y
  ·exact Su.uK hd (hA e y) z
  ·rw[y]at z;exact Su.uK c h1 z
def GX{S:jF}{d:Nat}{D:Es}(hd:ku S d=some (D.map Su.kv))(hA:At S D)(hne:∀e∈D,e.1≠[])(hl:D.length<64) :
  ∃(n:Nat) (S':jF),oG [.ref d] S=.ok (.ref n) S'/\jE S' n=some ((Su.v9 D λp=>!p.isEmpty).map Su.ent)/\At S' (Su.v9 D λp=>!p.isEmpty)/\S.length<n/\kK S S':=by
 have g:=Su.Tc hd hne hl;obtain⟨n,S',e,h1,h2,h3,j⟩:=Su.QV (cap:=[some 0]) (τ:=[.ref d]) (src:=kD<|jY (f1 zb)<|jC (jB 0)<|jH) (t:=ue<|jI Bu (jB 1)<|jB 0) (e:=pD<|jC (jB 0)<|jC (jI Bu (jB 1)<|jB 0)<|jH) hd hA (kR (by dsimp[j8,bools,g]) jR) (λp=>!p.isEmpty)
  (λo r q T f c m=>⟨T,by
   have k:A.W4 (.ref r) T=some (!q.isEmpty):=by
    show(jE T r).map _=_;rw[m]
    cases q<;>rfl
   dsimp[j8,bools,Su.Bt,Su.yY,f,c,k],Kp.refl⟩)
  (λo r T f c=>by
   dsimp[j8,bools,Su.Bt,Su.yY,f,c];exact nF<|show 2<=16777216 by decide) ()
 refine⟨n,S',?_,h1,h2,h3,j⟩;unfold oG Ao zQ;dsimp[j8,bools,lX,Nat.reduceAdd,Nat.reduceSub,e]
def wM:Su.Fg kN:=λh1 h2 h3 d c h6=>Yg h1 h2 h3 d c h6
open Po (Pl Ok Bd)
open Su (Es At Vl)
structure Sm (S:jF)(n:Nat)(es:Es):Prop where
 l:jE S n=some (es.map Su.ent)
 a:At S es
def Sm.kp{n:Nat}(h:Sm S n es)(k:kK S S'):Sm S' n es:=⟨k.lst _ _ (λz=>z) h.l,h.a.vp k⟩
def CT{a b:ag}(h:a.length=b.length):pM [.tup<|a.map .int,.tup<|b.map .int] S=.ok .non S:=by
 unfold pM uL uH;have:((a.length:Int) == (b.length:Int))=true:=by rw[h];exact cG _
 dsimp[j8,lY,bools,lX,Nat.reduceAdd,Nat.reduceSub,aG,this,bR]
def EE{n:Nat}{xs:ae}(h:jE S n=some xs):A.W4 (.ref n) S=some (!xs.isEmpty):=by
 show(jE S n).map _=_;rw[h];rfl
def CA{n N:Nat}{es fs:Es}(h:Sm S n es)(h':Sm S m fs)(h1:∀e∈es,e.1.length=N)(h2:∀e∈fs,e.1.length=N):pP [.ref n,.ref m] S=.ok .non S:=by
 unfold pP uI uh;dsimp[j8,lY,bools,lX,Nat.reduceAdd,Nat.reduceSub,EE h.l,EE h'.l]
 cases es with
 | nil=>dsimp[j8,lY,bools,dg,je,bR]
 | cons e es=>cases fs with
  | nil=>dsimp[j8,lY,bools,dg,je,bR,bh,i8,cM,EE h'.l]
  | cons f fs=>
   have q:=CT (S:=S)<|(h1 e<|aN ..).trans (h2 f<|aN ..).symm;have d:=h.l;have c:=h'.l;rw[bh]at d c;dsimp[j8,lY,bools,bh,i8,cM,EE c,d,c,sP,Su.ent,q]
def ixD{l:ag}{k:Nat}{i:Int}(h:i=k)(hk:k<l.length):qZ (l.map A.int) i=some (.int<|l.getD k 0):=Cv h<|by rw[aJ,aF hk];rfl
def UB{l:ag}{k:Nat}:((l.map A.int).set (k-1)<|.int<|l.getD k 0).set k (.int<|l.getD (k-1) 0)=(Wd.ex l k).map A.int:=by
 unfold Wd.ex;rw[jm,jm]
def ab8{f g:A->A->jF->R A}{ca cb cc:Ex}{a c:A}(h1:ca τ S=.ok a S)(h2:cb τ S=.ok b S)(h3:f a b S=.ok (.bl true) S)(h4:cc τ S=.ok c S):Za f g ca cb cc τ S=g b c S:=by
 unfold Za;rw[h1,R.qq,h2,R.qq,h3,R.qq];unfold kCh;show(cc τ S).bind _=_;rw[h4];rfl
def Y6{i:Int}:q_ [.int i] S=.ok (.bl true) S:=by
 unfold q_ vZ vU;dsimp[j8,bools,lX,Nat.reduceAdd,Nat.reduceSub,show KZ .int "int" = some true from rfl,show KZ .int "bool" = some false from rfl,cM]
def abv{n k:Int}(h1:1<=k)(h2:k<n):nM [.int n,.int k] S=.ok (.bl true) S:=by
 unfold nM r_ su;have c:Za ZX Vc (eC<|.int 1) (jB 1) (jB 0) [.int n,.int k] S=.ok (.bl true) S:=by
  rw[ab8 (a:=.int 1) (b:=.int k) (c:=.int n) rfl rfl (by dsimp[j8,aY h1]) rfl];dsimp[j8,aY h2]
 dsimp[j8,bools,lX,Nat.reduceAdd,Nat.reduceSub,Y6,c]
def JD{xs:ag}{k:Nat}(h1:1<=k)(h2:k<xs.length)(hl:xs.length<=1000):∃S',nk [.tup<|xs.map .int,.int k] S=.ok (.tup<|(Wd.ex xs k).map .int) S'/\kK S S':=by
 have e1:=abv (S:=S) (n:=(xs.length:Int)) (k:=(k:Int)) () ();have e:qZ (xs.map A.int) (k:Int)=some (.int<|xs.getD k 0):=ixD rfl ();have f:qZ (xs.map A.int) ((k:Int)-1)=some (.int<|xs.getD (k-1) 0):=ixD (k:=k-1) () ();have j:Ec xs.length ((k:Int)-1)=some (k-1):=xU () ();have d:Ec xs.length (k:Int)=some k:=xU rfl ();have c:jE (S++[O.lst<|xs.map .int]) S.length=some (xs.map .int):=jR;have g:∀ys,jE ((S++[O.lst<|xs.map .int]).set S.length<|.lst ys) S.length=some ys:=λys=>qz (by simp);have e2:lO [.tup<|xs.map .int,.int k,.int<|(k:Int)+1] S=.ok (.tup<|(Wd.ex xs k).map .int) (((S++[O.lst<|xs.map .int]).set S.length<|.lst<|(xs.map A.int).set (k-1)<|.int<|xs.getD k 0).set S.length<|.lst<|(Wd.ex xs k).map .int):=by
  unfold lO n_ nY;dsimp[j8,bools,lX,Nat.reduceAdd,Nat.reduceSub,c,show(k:Int)+1-1=k by lia,e,f,oM<|show 2<=sizeLine by decide,oM<|show 2=2 from rfl,aG,j,g,cu,d,UB];rw[qz<|by simp];dsimp[j8,bools]
 unfold nk uw uC;dsimp[j8,lY,bools,lX,Nat.reduceAdd,Nat.reduceSub,aG,e1,bR,e2];exact⟨_,rfl,((Kp.refl.lay).set<|.inr<|aL _).set<|.inr<|aL _⟩
def ixG{xs:ag}{i:Int}(h1:0<=i)(h2:i<xs.length):qZ (xs.map A.int) i=some (.int<|xs.getD i.toNat 0):=ixD (k:=i.toNat) () ()
abbrev fl (xs:ag)(n:Nat):ag:=(nN 1 (n:Int)).filter λk=>decide<|xs.getD (k-1).toNat 0>xs.getD k.toNat 0
def wL{S:jF}{n:Nat}{xs:ag}(hlen:xs.length=n)(h2:n<=20):m8 [.tup<|xs.map .int] S=.ok (.ref S.length) (S++[.lst<|(fl xs n).map .int]):=by
 have c:=zL (lo:=1) (hi:=(n:Int)) (cap:=[some 0]) (src:=uc (eC<|.int 1)<|jY (f1 lZ)<|jC (jB 0)<|jH) (t:=qQ<|jI OV (jI kI (jB 1)<|jI aSub (jB 0)<|eC<|.int 1)<|jI kI (jB 1)<|jB 0) (e:=jB 0) (τ:=[.tup<|xs.map .int]) (S:=S) (S1:=S)
  (AX (S1:=S) (by dsimp[j8,bools]) (by dsimp[j8,bools,aG,hlen]) (sj () ())<|sj () ())
  (λk=>decide<|xs.getD (k-1).toNat 0>xs.getD k.toNat 0) (λk=>.int k) (λk h1 h2=>by
   have f:qZ (xs.map A.int) (k-1)=some (.int<|xs.getD (k-1).toNat 0):=ixG () ();have d:qZ (xs.map A.int) k=some (.int<|xs.getD k.toNat 0):=ixG () ();dsimp[j8,bools,f,d]) (λk _ _ _=>by dsimp[j8,bools]) ()
 unfold m8 Du C3;dsimp[j8,bools,lX,Nat.reduceAdd,Nat.reduceSub,c];rfl
theorem vg{t:Int}:∀(p:ag),Y_ S (.int t) (p.map .int)=some (decide<|t∈p)
 | []=>rfl
 | x::p=>by
  show(oX S 12 (.int x)<|.int t).bind (λa=>(Y_ S (.int t)<|p.map .int).map λb=>a || b)=_;rw[vg p];show some ((x == t) || decide (t∈p))=_;by_cases c:x=t
  ·subst c;rw[cG,aY (show x∈x::p from aN ..)];rfl
  ·rw[b8.mpr c];congr 1;rw[gf,fX];constructor
   ·exact λz=>aK _ z
   ·intro z
    rcases bg.mp z with z|z
    ·exact absurd z.symm c
    ·exact z
open Po (Pl Ok Bd)
open Su (Es At Vl AF)
def yQ{o:ag}{N k:Nat}(hl:o.length=N)(h1:1<=k)(h2:k<N):decide ((k:Int)∈fl o N)=Su.qI o k:=by
 unfold fl Su.qI;rw[fX,ck,EV,decide_eq_true_eq,show((k:Int)-1).toNat=k-1 by lia,fF];constructor
 ·exact λh=>h.2
 ·exact λh=>⟨⟨(),()⟩,h⟩
def UK{S:jF}{n N k P:Nat}{es:Es}(h:Sm S n es)(h1:∀e∈es,e.1.length=N/\(e.2.2.length<=2 * P+1/\Su.RB P e.2.2)/\∀p∈e.2.2,p.2.natAbs<big)(k1:1<=k)(k2:k<N)(hN:N<=20)(hl:P<=14)(hl':es.length<=24) :
  ∃(L:Nat) (S':jF) (rs:Es),mW [.ref n,.int k] S=.ok (.ref L) S'/\Sm S' L rs/\Su.sm rs=Su.bx k (Su.sm es)/\(∀e∈rs,Ok e.2.2/\e.2.2≠[]/\S.length<=e.2.1/\e.2.1<L)/\Su.Ap rs/\rs.length<=2 * es.length/\S.length<=L/\kK S S':=by
 have k0:kK S (S++[.dct []]):=Kp.refl.lay;have F:Su.RB 1 AF:=λp hp=>by
  rcases bg.mp hp with z|z
  ·rw[z];exact aL _
  ·rw[aM.mp z];exact aL _
 obtain⟨y3,y4,D,T,e1,f,kp⟩:=Su.zN (w:=2) (j:=1+P) (b:=S.length) (i0:=0) (S:=S++[.dct []]) (S1:=S++[.dct []]) (d:=S.length) (n:=n) (es:=es) (src:=nQ) (c:=mV) (g:=zm 2<|rE (j4 3)<|rE (j4 4)<|zx) (λy z=>[.ref n,.int k,.ref S.length,y,z]) (Su.gX k) (λ_ _ _ _=>rfl) (x3:=.unb) (x4:=.unb)
  (show nQ _ _=_ from kR (by dsimp[j8,bools])<|j9 h.l) (j9 h.l) (Su.Fil3.new Su.rF) λi e T Q D hi C B f=>by
   obtain⟨M,W,b3⟩:=h1 e C;have Z:=B.len;rw[bf]at Z;obtain⟨T0,e0,K⟩:=JD (S:=T) (xs:=e.1) (k:=k) k1 () ();have aT:=((h.a.vp k0).LZ B Su.rF).vp K;have f0:=f.vp K;have qtl:=K.len;rw[bW]at f0;have Y:Wd.ex e.1 k≠[]:=λz=>by have:=Wd.Dh e.1 k;rw[z]at this;simp at this;lia
   obtain⟨D1,T1,e1,f1,k1'⟩:=f0.add wM (o:=Wd.ex e.1 k) (aT e C) (W.2.mono ()) () Y () () ();have k1l:=k1'.len;have V:=wL (S:=T1) (xs:=e.1) (n:=N) M hN;have m:K6 false (.int k) (.ref T1.length) (T1++[.lst<|(fl e.1 N).map .int])=.ok (.bl<|Su.qI e.1 k) (T1++[.lst<|(fl e.1 N).map .int]):=by
    show opt (jE _ _) _=_;rw[jR,j7,vg,yQ M k1 k2];rfl
   have J:kK T1 (T1++[.lst<|(fl e.1 N).map .int]):=Kp.refl.lay;obtain⟨U,hU⟩:∃U,U=T1++[O.lst<|(fl e.1 N).map .int]:=⟨_,rfl⟩;rw[<- hU]at m J V;have fU:=f1.vp J;have G:Kp (·=S.length) T U:=(K.of0.trans k1').trans J.of0
   cases hf:Su.qI e.1 k with
   | false=>
    refine⟨D1,U,?_,?_,G⟩
    ·rw[hf]at m;unfold mV;dsimp[j8,lY,bools,e0,e1,V,m]
    ·rw[bW];unfold Su.gX;rw[hf,aQ<|by simp];exact fU.mono ()
   | true=>
    have aU:=(aT.LZ k1' f0.dd).vp J;have n0:jE (U++[.lst<|AF.map kA]) U.length=some (AF.map kA):=jR;obtain⟨L,T2,e2,l1,l2,k2'⟩:=yv kA (λ_ _ _=>rfl) n0 (j9 (o:=.lst<|AF.map kA)<|aU e C) (show 2 * e.2.2.length<64 by lia) (λp hp=>by
     rw[yX]
     rcases bg.mp hp with z|z
     ·rw[z];exact show 1<2 ^ 4096 by decide +kernel
     ·rw[aM.mp z];exact show 1<2 ^ 4096 by decide +kernel) b3
    have t:kK U T2:=(Kp.refl.lay).trans k2';have tl2:=t.len;have tle:=J.len;obtain⟨D2,T3,e3,f3,k3'⟩:=(fU.vp t).add wM (o:=e.1) l1 (Su.RB.times F W.2) (Su.RB.len (Po.Ag _ _)<|Su.RB.times F W.2) (λz=>by rw[z]at M;simp at M;lia) () () ();refine⟨D2,T3,?_,?_,(G.trans t.of0).trans k3'⟩
    ·rw[hf]at m;unfold mV;dsimp[j8,lY,bools,e0,e1,V,m];rw[show[((-1:Int),(1:Int)),((1:Int),(-1:Int))].map kA=AF.map kA from rfl];dsimp[j8,lY,bools,e2,e3]
    ·rw[bW];unfold Su.gX;rw[hf,aS rfl];exact f3
 have B:kK S T:=k0.old kp λq hq _ z=>()
 have fl:=f.ll;rw[bW]at fl;obtain⟨L,S',e2,r1,r2,r3,r4⟩:=GX f.dd f.aa f.kk ();have Z:=B.len;have fs:=f.ss;rw[Su.KD]at fs;refine⟨L,S',_,?_,⟨r1,r2⟩,by rw[Su.DF,fs];rfl,λe C=>?_,f.pw.out _,?_,(),B.trans r4⟩
 ·unfold mW sq rY;dsimp[j8,lY,bools,lX,Nat.reduceAdd,Nat.reduceSub,Su.wK];rw[show m_ nQ _ mV _ _=_ from e1];dsimp[j8,lY,bools,e2]
 ·obtain⟨m1,m2⟩:=Su.Dw C;obtain⟨v1,v2,v3⟩:=f.vv e m1;have lt:=mq<|f.aa e m1;exact⟨v1,λz=>(by rw[z]at m2;cases m2),v3,()⟩
 ·unfold Su.v9;rw[aG];refine bF (dm _ _) ?_;rw[(kC _).length_eq,aG];exact fl
end K71
namespace K71
open PySem L2 Am
open Po (Pl Ok Bd)
open Su (Es At Vl AF)
open He (Sz)
open Fw (rg)
def Sm.LZ{n d:Nat}(h:Sm S n es)(k:Kp (·=d) S S')(hd:ku S d=some kvs):Sm S' n es:=⟨k.lst _ _ (λz=>Su.uK hd h.l z.symm) h.l,h.a.LZ k hd⟩
def qO{N:Nat}{o:ag}(h:o.Perm<|rg N):o.length=N:=by rw[h.length_eq,Wd.mZ]
def nG{es:Es}{l:Su.Ps}(h:Su.sm es=l){e:Su.En}(he:e∈es):(e.1,e.2.2)∈l:=by rw[<- h];exact br.mpr ⟨e,he,rfl⟩
structure Kn (N:Nat)(Φ:ag->Su.Ps)(T:jF)(d:Nat)(K:Es):Prop where
 dd:ku T d=some (K.map Su.kv)
 gd:Su.Gd (Su.sm K)
 pm:∀e∈K,e.1.Perm (rg N)
 at_:∀e∈K,∃es:Es,Sm T e.2.1 es/\Su.sm es=Φ e.1
def Kn.vp{N d:Nat}{Φ:ag->Su.Ps}{K:Es}(h:Kn N Φ T d K)(k:kK T T'):Kn N Φ T' d K:=⟨k.dct _ _ (λz=>z) h.dd,h.gd,h.pm,λe c=>by obtain⟨es,a,b⟩:=h.at_ e c;exact⟨es,a.kp k,b⟩⟩
def Kn.many{N d:Nat}{Φ:ag->Su.Ps}{K:Es}(hN:N<6)(h:Kn N Φ T d K):K.length<=120:=by
 have:=He.many hN h.gd.nd λo g=>by
  obtain⟨e,c,rfl⟩:=br.mp g;obtain⟨f,hf,rfl⟩:=br.mp c;exact h.pm f hf
 rwa [aG,Su.AM]at this
def W0:Ok []:=⟨List.Pairwise.nil,nofun⟩
def Kn.put{N d r:Nat}{Φ:ag->Su.Ps}{K:Es}{o:ag}(hN:N<6)(h:Kn N Φ T d K)(po:o.Perm<|rg N)(hr:Sm T r es)(he:Su.sm es=Φ o) :
  ∃T' K',FT (.ref d) (.tup<|o.map .int) (.ref r) T=.ok Unit.unit T'/\Kn N Φ T' d K'/\Bu (.ref d) (.tup<|o.map .int) T'=.ok (.ref r) T'/\Sm T' r es/\Kp (·=d) T T':=by
 have k:Kp (·=d) T (T.set d<|.dct<|(Su.rA K o r []).map Su.kv):=Kp.refl.ye<|.inl rfl;have dd:ku (T.set d<|.dct<|(Su.rA K o r []).map Su.kv) d=some ((Su.rA K o r []).map Su.kv):=Su.HV<|Su.O5 h.dd;obtain⟨e,e1,e2⟩:=Su.KG (D:=K) (o:=o) (r:=r) (p:=[]);have f:=h.many hN;refine⟨_,Su.rA K o r [],?_,⟨dd,?_,λe he=>?_,λe c=>?_⟩,?_,hr.LZ k h.dd,k⟩
 ·rw[Su.FY,h.dd,j7,Su.OT (p:=[])];exact qm (show(K.map Su.kv).length<16777216 by rw[aG];lia)
 ·rw[Su.O0];exact h.gd.put W0
 ·rcases Su.tK he with z|z
  ·exact h.pm e z
  ·rw[z];exact po
 ·rcases Su.tK c with z|z
  ·obtain⟨fs,a,b⟩:=h.at_ e z;exact⟨fs,a.LZ k h.dd,b⟩
  ·rw[z];exact⟨es,hr.LZ k h.dd,he⟩
 ·rw[Su.yY,dd,j7,Su.vj,e1,fu,j7,e2]
def YI{d:Nat}{o:ag}:Ue true (.tup<|o.map .int) (.ref d) S=opt (ku S d) λkvs=>.ok (.bl<|!(mw kvs o).isSome) S:=by
 show opt (ku S d) (λkvs=>opt (A.ints<|o.map .int) λns=>_)=_;rw[ints_map];rfl
open Po (Pl Ok Bd)
open Su (Es At Vl)
open He (Sz)
structure Nw (b L:Nat)(rs:Es):Prop where
 ap:Su.Ap rs
 nw:∀e∈rs,b<=e.2.1/\e.2.1<L
def YS{S:jF}{n N P c:Nat}{fs:Es}(hN:N<5)(h0:1<=N)(h:Sm S n es)(h':Sm S m fs)(hz:Sz N P C<|Su.sm es)(hz':Sz N P c<|Su.sm fs)(hP:P<=15) :
  ∃(L:Nat) (S':jF) (rs:Es),sZ [.ref n,.ref m] S=.ok (.ref L) S'/\Sm S' L rs/\Su.sm rs=He.AB (Su.sm es) (Su.sm fs)/\Nw S.length L rs/\S.length<=L/\kK S S':=by
 have O:=CA h h' (λe k=>qO<|hz.pm _<|nG rfl k) λe k=>qO<|hz'.pm _<|nG rfl k;have t:=hz.m24 hN;have G:=hz'.m24 hN;rw[Su.AM]at t G;have Z:(es++fs).length=es.length+fs.length:=bf ..;have J:jE (S++[.dct []]) n=some (es.map Su.ent):=j9 h.l;have V:jE (S++[.dct []]) m=some (fs.map Su.ent):=j9 h'.l;have F:=Vr J V (by rw[aG,aG];lia);rw[<- bz]at F;have k0:kK S (S++[.dct []]++[.lst<|(es++fs).map Su.ent]):=Kp.refl.lay.lay;have hj:∀e∈es++fs,(Su.RB P e.2.2/\e.2.2.length<=2 * P+1)/\e.1≠[]:=λe k=>by
  have:e.1.length=N/\Su.RB P e.2.2/\e.2.2.length<=2 * P+1:=(bE.mp k).elim (λz=>⟨qO<|hz.pm _<|nG rfl z,hz.rb<|nG rfl z,(hz.pb<|nG rfl z).2⟩) λz=>⟨qO<|hz'.pm _<|nG rfl z,hz'.rb<|nG rfl z,(hz'.pb<|nG rfl z).2⟩;exact⟨this.2,λz=>by rw[z]at this;have:=this.1;simp at this;lia⟩
 obtain⟨y3,y4,D,T,e1,f,kp⟩:=Su.zN (w:=1) (j:=P) (b:=S.length) (i0:=0) (S:=S++[.dct []]) (S1:=S++[.dct []]++[.lst<|(es++fs).map Su.ent]) (d:=S.length) (src:=vF) (c:=vA) (g:=zm 2<|rE (j4 3)<|rE (j4 4) zx) (es:=es++fs) (λy z=>[.ref n,.ref m,.ref S.length,y,z]) (λe Q=>Su.zB Q e.1 e.2.2) (λ_ _ _ _=>rfl) (x3:=.unb) (x4:=.unb)
  (show vF _ _=_ from kR (by dsimp[j8,bools,F]) jR) jR (Su.Fil3.new<|Su.D5 Su.rF) λi e T Q D hi k p f=>by
   have aT:=((h.a.app h'.a).vp k0).LZ p<|Su.D5 Su.rF;have tl:=p.len;have K:=k0.len;rw[bW,eW]at f;rw[bW,eW];obtain⟨B,U⟩:=hj e k;obtain⟨Y,T',x1,f',W⟩:=f.add wM (o:=e.1) (aT e k) B.1 B.2 U () hP ();exact⟨Y,T',by unfold vA;dsimp[j8,lY,bools,x1],f',W⟩
 rw[bW,eW,Su.La]at f;have p:kK S T:=k0.old kp λq hq _ z=>()
 have fl:=f.ll;obtain⟨L,S',e2,r1,r2,r3,r4⟩:=GX f.dd f.aa f.kk ();have tl:=p.len;refine⟨L,S',_,?_,⟨r1,r2⟩,by rw[Su.DF,f.ss,Su.Gq];rfl,⟨f.pw.out _,λe k=>?_⟩,(),p.trans r4⟩
 ·unfold sZ D9 CU;dsimp[j8,lY,bools,lX,Nat.reduceAdd,Nat.reduceSub,O,Su.wK];rw[show m_ vF _ vA _ _=_ from e1];dsimp[j8,lY,bools,e2]
 ·obtain⟨t,G⟩:=Su.Dw k;obtain⟨v1,v2,M⟩:=f.vv e t;have lt:=mq<|f.aa e t;exact⟨M,()⟩
abbrev Sn (N P C:Nat)(S:jF)(n:Nat)(l:Su.Ps):Prop:=Sz N P C l/\∃es,Sm S n es/\Su.sm es=l
def Sn.kp{N P n:Nat}{l:Su.Ps}(h:Sn N P C S n l)(k:kK S S'):Sn N P C S' n l:=by
 obtain⟨a,es,b,c⟩:=h;exact⟨a,es,b.kp k,c⟩
def Sn.add{N P c n:Nat}{l k:Su.Ps}(h:Sn N P C S n l)(h':Sn N P c S m k)(hN:N<5)(h0:1<=N)(hP:P<=15) :
  ∃(L:Nat) (S':jF),sZ [.ref n,.ref m] S=.ok (.ref L) S'/\Sn N P (C+c) S' L (He.AB l k)/\kK S S':=by
 obtain⟨a,es,b,rfl⟩:=h;obtain⟨d,fs,g,rfl⟩:=h';obtain⟨L,S',j,e1,e,f,_,_,k1⟩:=YS hN h0 b g a d hP;exact⟨L,S',e1,⟨a.sum d,j,e,f⟩,k1⟩
def Sn.mono{N P n:Nat}{l:Su.Ps}(h:Sn N P C S n l)(hp:P<=P')(hc:C<=C'):Sn N P' C' S n l:=⟨h.1.mono hp hc,h.2⟩
end K71
namespace K71
open PySem L2 Am
open Po (Pl Ok Bd)
open Su (Es At Vl AF)
open He (Sz PB)
open Fw (rg)
def RX{S:jF}{n N P c:Nat}{q:Pl}(f:Int×Int->A)(hf:∀p τ S,Rg (f p) τ S=Rg (Po.pA p) τ S)(hN:N<5)(h0:1<=N)(h:Sm S n es)(hz:Sz N P C<|Su.sm es)(hq:jE S m=some (q.map f))(pq:PB Q c q)(lq:q.length<=2)(hP:P+Q<=15)(hC:C<big)(hc:c<big) :
  ∃(L:Nat) (S':jF) (rs:Es),qU [.ref m,.ref n] S=.ok (.ref L) S'/\Sm S' L rs/\Su.sm rs=He.Gi q (Su.sm es)/\S.length<=L/\kK S S':=by
 have k0:kK S (S++[.dct []]):=Kp.refl.lay;have U:=hz.m24 hN;rw[Su.AM]at U;obtain⟨y3,y4,D,T,e1,t,kp⟩:=Su.zN (w:=1) (j:=Q+P) (b:=S.length) (i0:=0) (S:=S++[.dct []]) (S1:=S++[.dct []]) (d:=S.length) (n:=n) (es:=es) (src:=tF) (c:=tH) (g:=zm 2<|rE (j4 3)<|rE (j4 4) zx) (λy z=>[.ref m,.ref n,.ref S.length,y,z]) (λe Q=>Su.zB Q e.1<|Po.times q e.2.2) (λ_ _ _ _=>rfl) (x3:=.unb) (x4:=.unb)
  (show tF _ _=_ from kR (by dsimp[j8,bools])<|j9 h.l) (j9 h.l) (Su.Fil3.new Su.rF) λi e T Q1 D hi B k G=>by
   have b:=hz.pb<|nG rfl B;have F:=k.len;rw[bf]at F;rw[bW,eW]at G;rw[bW,eW];have M:e.2.2.length<=2 * P+1:=b.2;have ll:q.length * e.2.2.length<=2 * (2 * P+1):=jy lq M;have J:Su.RB (Q+P) (Po.times q e.2.2):=Su.RB.times pq.p<|hz.rb<|nG rfl B;obtain⟨L,T1,W,K,l2,k1⟩:=yv f hf (k.lst _ _ (λz=>Su.uK (Su.rF (S:=S) (xs:=[])) (j9 (o:=.dct []) hq) z.symm)<|j9 hq) (((h.a.vp k0).LZ k Su.rF) e B) () (λp hp=>fm (pq.c p hp) hc) λp hp=>fm (b.1.c p hp) hC;have k1l:=k1.len;obtain⟨V,Z,x2,f',O⟩:=(G.vp k1).add wM (o:=e.1) K J (Su.RB.len (Po.Ag _ _) J) (λz=>by
    have:=qO<|hz.pm _<|nG rfl B;rw[show((e.1,e.2.2):ag×Pl).1=e.1 from rfl,z]at this;simp at this;lia) () () ()
   exact⟨V,Z,by unfold tH;dsimp[j8,bools,W,x2],f',k1.of0.trans O⟩
 rw[bW,eW,Su.LP]at t;have k:kK S T:=k0.old kp λq hq _ z=>()
 have fl:=t.ll;obtain⟨L,S',e2,r1,r2,r3,Y⟩:=GX t.dd t.aa t.kk ();have F:=k.len;refine⟨L,S',_,?_,⟨r1,r2⟩,by rw[Su.DF,t.ss];rfl,(),k.trans Y⟩;unfold qU Ad AY;dsimp[j8,bools,lX,Nat.reduceAdd,Nat.reduceSub,Su.wK];rw[show m_ tF _ tH _ _=_ from e1];dsimp[j8,bools,e2]
def Sn.Xg{N P c n:Nat}{l:Su.Ps}{q:Pl}(h:Sn N P C S n l)(f:Int×Int->A)(hf:∀p τ S,Rg (f p) τ S=Rg (Po.pA p) τ S)(hN:N<5)(h0:1<=N)(hq:jE S m=some (q.map f))(pq:PB Q c q)(lq:q.length<=2)(hP:P+Q<=15)(hC:C<big)(hc:c<big) :
  ∃(L:Nat) (S':jF),qU [.ref m,.ref n] S=.ok (.ref L) S'/\Sn N (P+Q) (q.length * (c * C)) S' L (He.Gi q l)/\kK S S':=by
 obtain⟨z,es,s,rfl⟩:=h;obtain⟨L,S',g,e1,d,e,_,k1⟩:=RX f hf hN h0 s z hq pq lq hP hC hc;exact⟨L,S',e1,⟨z.Gi pq,g,d,e⟩,k1⟩
end K71
namespace Kl
open Su Po He
open Fw (rg)
def VY{n k:Nat}{o:ag}(p:o.Perm<|rg n)(h0:1<=k)(h1:k<n):qI (Wd.ex o k) k=!qI o k:=by
 have c:o.length=n:=by rw[p.length_eq,Wd.mZ]
 have ne:=Fw.UJ p h0 ();unfold Su.qI;rw[Fw.VC h0 (),Fw.Vi h0 (),<- decide_not];exact fX.mpr ⟨λz=>(),λz=>()⟩
theorem HQ:∀(l:ag),2 * Iv.inv l<=l.length * (l.length-1)
 | []=>aL _
 | x::l=>by
  have h1:l.countP (λy=>decide<|y<x)<=l.length:=List.countP_le_length;have h2:=HQ l;show 2 * (l.countP (λy=>decide<|y<x)+Iv.inv l)<=(l.length+1) * l.length
  cases c:l.length with
  | zero=>rw[c]at h1 h2;lia
  | succ m=>
   rw[c]at h1 h2;have:(m+1) * (m+1-1)+2 * (m+1)=(m+1+1) * (m+1):=by
    rw[Nat.add_sub_cancel,add_mul (m+1) 1<|m+1,eW,Nat.mul_add (m+1) m 1];lia
   lia
abbrev step (k:Nat)(low:ag->Ps)(told:Ps)(e:ag×Pl):Ps:=if val e.2 1≠0/\qI e.1 k=true then AB told (Gi [(0,-val e.2 1)]<|low e.1)else told
abbrev first (k:Nat)(less:Ps):Ps:=AB (Su.bx k less)<|Gi [(1,1)] less
abbrev kp:Nat->ag->Ps
 | 0,_=>[]
 | f+1,w=>match ff w with
  | none=>[(w,[(0,1)])]
  | some k=>(kp f<|Wd.ex w k).foldl (step k<|kp f)<|first k (kp f<|Wd.ex w k)
abbrev Lo (n:Nat)(w o:ag):Prop:=o.Perm (rg n)/\(o=w\/Iv.inv o<Iv.inv w)
def Lo.le{n:Nat}{w:ag}(h:Lo n w o):Iv.inv o<=Iv.inv w:=by
 rcases h.2 with z|z
 ·rw[z];exact aL _
 ·exact dJ z
def Cm{P:ag->Prop}{l m:Ps}(h:∀e∈l,P e.1)(h':∀e∈m,P e.1):∀e∈AB l m,P e.1:=
 sS (qD (P:=P) _ (nofun) λx c=>(bE.mp c).elim (h x)<|h' x)
def Fv{P:ag->Prop}{p:Pl}{l:Ps}(h:∀e∈l,P e.1):∀e∈Gi p l,P e.1:=
 sS (qD (P:=P) _ (nofun) λx d=>by
  obtain⟨e,c,rfl⟩:=br.mp d;exact h e c)
def Ut{P:ag->Prop}{k:Nat}{l:Ps}(h:∀e∈l,P e.1/\P (Wd.ex e.1 k)):∀e∈Su.bx k l,P e.1:=
 sS (qD (P:=P) _ (nofun) λx c=>by
  obtain⟨e,d,c⟩:=fW.mp c
  rcases bg.mp c with z|z
  ·rw[z];exact(h e d).2
  ·split at z
   ·rw[aM.mp z];exact(h e d).1
   ·exact nomatch z)
theorem Cc{P:ag->Prop}{k:Nat}{low:ag->Ps}:∀{less told:Ps},(∀e∈told,P e.1)->(∀e∈less,∀g∈low e.1,P g.1)->∀e∈less.foldl (step k low) told,P e.1
 | [],_,h,_=>h
 | x::xs,told,h,h'=>Cc (less:=xs) (by
   unfold step;split
   ·exact Cm h (Fv λg hg=>h' x (aN ..) g hg)
   ·exact h) λe c=>h' e<|aK _ c
structure Dn (n:Nat)(w:ag)(k:Nat):Prop where
 h0:1<=k
 h1:k<n
 fw:qI w k=true
 pe:(Wd.ex w k).Perm (rg n)
 iv:Iv.inv w=Iv.inv (Wd.ex w k)+1
 ee:Wd.ex (Wd.ex w k) k=w
 fe:qI (Wd.ex w k) k=false
def Ga{n:Nat}{w:ag}{k:Nat}(pw:w.Perm<|rg n)(h:ff w=some k):Dn n w k:=by
 obtain⟨a,b,c⟩:=SH h;have d:w.length=n:=by rw[pw.length_eq,Wd.mZ]
 refine⟨a,(),c,E3 pw a (),Fw.Oz a b (by have:=bK c;lia),Fw.PF a b,?_⟩;rw[VY pw a (),c];rfl
def Nd{n k:Nat}{w:ag}(d:Dn n w k)(h:Lo n (Wd.ex w k) o):Lo n w o:=⟨h.1,.inr (by have:=h.le;have:=d.iv;lia)⟩
def aaM{n k:Nat}{w:ag}(d:Dn n w k)(h:Lo n (Wd.ex w k) o):Lo n w (Wd.ex o k):=by
 refine⟨E3 h.1 d.h0 d.h1,?_⟩;have c:o.length=n:=by rw[h.1.length_eq,Wd.mZ]
 rcases h.2 with z|z
 ·exact .inl (by rw[z];exact d.ee)
 ·have:=Fw.UD (l:=o) d.h0 (by have:=d.h1;lia);have:=d.iv;exact .inr ()
def aa1{n:Nat}{w:ag}(h:Lo n w o)(h':Lo n o u):Lo n w u:=⟨h'.1,by
 rcases h'.2 with z|z
 ·rw[z];exact h.2
 ·exact .inr (by have:=h.le;lia)⟩
theorem xj{n:Nat}:∀(f:Nat) {w:ag},w.Perm (rg n)->∀e∈kp f w,Lo n w e.1
 | 0,_,_,e,c=>nomatch c
 | f+1,w,pw,e,c=>by
  revert e;unfold kp;split
  ·intro e c;rw[aM.mp c];exact⟨pw,.inl rfl⟩
  ·rename_i k m;have d:=Ga pw m;have j:=xj f d.pe;exact Cc (Cm (Ut λe c=>⟨Nd d<|j e c,aaM d<|j e c⟩)<|Fv λe c=>Nd d<|j e c) λe c g hg=>aa1 (Nd d<|j e c)<|xj f (j e c).1 g hg
theorem fold_congr{k:Nat}{low low':ag->Ps}:∀{less told:Ps},(∀e∈less,low e.1=low' e.1)->less.foldl (step k low) told=less.foldl (step k low') told
 | [],_,_=>rfl
 | x::xs,told,h=>by
  rw[d_,d_,show step k low told x=step k low' told x from by unfold step;rw[h x<|aN ..]];exact fold_congr λe c=>h e<|aK _ c
theorem NT{n:Nat}:∀(f g:Nat) {w:ag},w.Perm (rg n)->Iv.inv w<f->Iv.inv w<g->kp f w=kp g w
 | 0,_,_,_,h,_=>absurd h (eo _)
 | f+1,0,_,_,_,h=>absurd h (eo _)
 | f+1,g+1,w,pw,h,h'=>by
  unfold kp;split
  ·rfl
  ·rename_i k j;have d:=Ga pw j;have iv:=d.iv;rw[NT f g d.pe () ()];exact fold_congr λe c=>by
    have l:=xj g d.pe e c;have:=l.le;exact NT f g l.1 () ()
abbrev K (w:ag):Ps:=kp (Iv.inv w+1) w
def Q9{w:ag}(h:ff w=none):K w=[(w,[(0,1)])]:=by
 unfold K kp;rw[h]
def OE{n k:Nat}{w:ag}(pw:w.Perm<|rg n)(h:ff w=some k):K w=(K<|Wd.ex w k).foldl (step k K) (first k (K<|Wd.ex w k)):=by
 have d:=Ga pw h;have iv:=d.iv;show kp (Iv.inv w+1) w=_;unfold kp;rw[h];show(kp (Iv.inv w)<|Wd.ex w k).foldl (step k<|kp<|Iv.inv w) _=_;rw[show kp (Iv.inv w) (Wd.ex w k)=K (Wd.ex w k)from by unfold K;rw[iv]];exact fold_congr λe c=>by
  have l:=xj _ d.pe e c;have:=l.le;exact NT _ _ l.1 () ()
def Mt{n:Nat}{w:ag}(pw:w.Perm<|rg n):∀e∈K w,Lo n w e.1:=xj _ pw
abbrev Cb:Nat->Nat
 | 0=>1
 | 1=>124
 | i+2=>4 * Cb (i+1)+120 * (Cb (i+1) * Cb i)
def HD:∀i,4 * Cb i+120 * (Cb i * Cb (i-1))<=Cb (i+1)
 | 0=>by decide
 | i+1=>aL _
theorem za:∀{j:Nat},i<=j->Cb i<=Cb j
 | 0,h=>by rw[Nat.le_zero.mp h];exact aL _
 | j+1,h=>by
  rcases Nat.lt_or_ge j i with z|z
  ·rw[show i=j+1 by lia];exact aL _
  ·have:=za z;have:=HD j
   lia
def Vn{P:Nat}{p:Pl}(h:PB P C p)(t:Int):(val p t).natAbs<=C:=by
 unfold val
 cases hf:p.find? λq=>decide (q.1=t)with
 | none=>exact bM _
 | some q=>exact h.c q<|cY hf
def T7{n P A B L k:Nat}{low:ag->Ps}{e:ag×Pl}(h:Sz n P A told)(hl:qI e.1 k=true->Sz n P L (low e.1))(hb:(val e.2 1).natAbs<=B):Sz n P (A+B * L) (step k low told e):=by
 unfold step;split
 ·rename_i z;have:=(hl z.2).Gi (p:=[(0,-val e.2 1)]) (Q:=0) (c:=B) ⟨λq d=>by rw[aM.mp d];show(-val e.2 1).natAbs<=B;rw[Int.natAbs_neg];exact hb,λq d=>by rw[aM.mp d];exact aL _⟩;exact(h.sum this).mono (aL _) (by show A+1 * (B * L)<=_;lia)
 ·exact h.mono (aL _)<|jf _ _
theorem IW{n P B L k:Nat}{low:ag->Ps}:∀{less told:Ps}{A:Nat},Sz n P A told->(∀e∈less,qI e.1 k=true->Sz n P L (low e.1))->(∀e∈less,(val e.2 1).natAbs<=B)->Sz n P (A+less.length * (B * L)) (less.foldl (step k low) told)
 | [],_,_,h,_,_=>h.mono (aL _) (jf _ _)
 | x::xs,told,A,h,hl,hb=>by
  have:=IW (less:=xs) (T7 (e:=x) h (hl x<|aN ..)<|hb x<|aN ..) (λe c=>hl e<|aK _ c) λe c=>hb e<|aK _ c;exact this.mono (aL _)<|by rw[bC,iP];lia
def Nf{n P k:Nat}{l:Ps}(h:Sz n P C l)(h0:1<=k)(h1:k<n):Sz n (P+1) (4 * C) (first k l):=by
 have:=h.Gi (p:=[(1,1)]) (Q:=1) (c:=1) ⟨λq d=>by rw[aM.mp d];exact aL _,λq d=>by rw[aM.mp d];exact aL _⟩;exact((h.bx h0 h1).sum this).mono (aL _) (by show 3 * C+1 * (1 * C)<=_;lia)
def W6{n:Nat}{w:ag}(pw:w.Perm<|rg n):Sz n 0 1 [(w,[(0,1)])]:=by
 refine Sz.of (W7 w XI λz=>nomatch z) (λx f=>by rw[aM.mp f];exact pw) λe d=>by
  rw[aM.mp d];exact⟨λq c=>by rw[aM.mp c];exact aL _,λq c=>by rw[aM.mp c];exact aL _⟩
def acg{n:Nat}(hn:n<6)(i:Nat):∀{w:ag},w.Perm (rg n)->Iv.inv w=i->Sz n i (Cb i) (K w):=by
 induction i using Nat.strongRecOn with
 | ind i g=>
  intro w f t
  cases hf:ff w with
  | none=>rw[Q9 hf];exact(W6 f).mono (bM _) (za (i:=0)<|bM _)
  | some k=>
   have d:=Ga f hf;have iv:=d.iv;obtain⟨j,rfl⟩:∃j,i=j+1:=⟨Iv.inv<|Wd.ex w k,()⟩;have p:Iv.inv (Wd.ex w k)=j:=()
   have z:=g j () d.pe p;have m:=z.many hn;rw[OE f hf];refine(IW (Nf z d.h0 d.h1) (L:=Cb<|j-1) (B:=Cb j) (λe c fe=>?_) λe c=>Vn (z.pb c).1 1).mono (aL _) (bF ?_<|HD j)
   ·have l:=Mt d.pe e c;have:Iv.inv e.1<j:=by
     rcases l.2 with q|q
     ·rw[q,d.fe]at fe;exact nomatch fe
     ·lia
    exact(g (Iv.inv e.1) () l.1 rfl).mono () (za ())
   ·exact Nat.add_le_add_left (iI _ m) _
def Ye{n:Nat}(hn:n<6){w:ag}(pw:w.Perm<|rg n):Sz n 10 (Cb 10) (K w):=by
 have:=HQ w;have c:w.length=n:=by rw[pw.length_eq,Wd.mZ]
 have:Iv.inv w<=10:=by
  rw[c]at this;have:n * (n-1)<=5 * 4:=jy () ()
  lia
 exact(acg hn _ pw rfl).mono this (za this)
end Kl
namespace K71
open PySem L2 Am
def Sn.bx{N P n k:Nat}{l:Su.Ps}(h:Sn N P C S n l)(hN:N<5)(k1:1<=k)(k2:k<N)(hP:P<=14)(hC:C<big) :
  ∃(L:Nat) (S':jF),mW [.ref n,.int k] S=.ok (.ref L) S'/\Sn N (P+1) (3 * C) S' L (Su.bx k l)/\kK S S':=by
 obtain⟨z,es,s,rfl⟩:=h;have B:=z.m24 hN;rw[Su.AM]at B;obtain⟨L,g,d,m,q,t,_,_,_,_,j⟩:=UK (P:=P) s (k:=k) (N:=N) (λe f=>by
  have b:=z.pb<|nG rfl f;exact⟨qO<|z.pm _<|nG rfl f,⟨b.2,z.rb<|nG rfl f⟩,λp hp=>fm (b.1.c p hp) hC⟩) k1 k2 () hP ()
 exact⟨L,g,m,⟨z.bx k1 k2,d,q,t⟩,j⟩
open Po (Pl Ok)
open Su (Es)
open He (Sz PB)
open Fw (rg)
def MW{n:Nat}{p:Pl}(h:jE S n=some (Po.pl p))(hp:Ok p):lA [.ref n] S=.ok (.int<|Po.val p 1) (S++[.qG<|Po.iv p]):=by
 unfold lA p5 pW;dsimp[j8,lY,bools,lX,Nat.reduceAdd,Nat.reduceSub,Cu,B8,h,Po.Pn,Po.IZ,Po.IC hp,Hw,GB,fu,Aq,Po.G3]
def CY:Kl.Cb 10<big:=by rw[yX];decide +kernel
def Sn.LZ{N P n d:Nat}{l:Su.Ps}(h:Sn N P C S n l)(k:Kp (·=d) S S')(hd:ku S d=some kvs):Sn N P C S' n l:=by
 obtain⟨a,es,b,c⟩:=h;exact⟨a,es,b.LZ k hd,c⟩
def Vw{N n:Nat}{o:ag}(hN:N<6)(po:o.Perm<|rg N)(h:Sm S n es)(e:Su.sm es=Kl.K o):Sn N 10 (Kl.Cb 10) S n (Kl.K o):=⟨Kl.Ye hN po,es,h,e⟩
def yH(x y:A):gd (([x,y]:ae).length<=sizeLine)=λr:Am.R A=>r:=by funext r;exact nF<|show 2<=16777216 by decide
def OL(x:A)(S:jF):newL [x] S=.ok (.ref S.length) (S++[.lst [x]]):=nF<|show 1<=16777216 by decide
abbrev Fnd (N d f:Nat)(Fs:ae->jF->R A):Prop:=∀(T:jF) (K:Es) (o:ag),Iv.inv o<f->o.Perm (rg N)->Kn N Kl.K T d K ->
  ∃(r:Nat) (c:jF) (g e:Es),Fs [.tup<|o.map .int,.ref d] T=.ok (.ref r) c/\Kn N Kl.K c d g/\Sm c r e/\Su.sm e=Kl.K o/\Kp (·=d) T c
def Tt{Fs:ae->jF->R A}{N d f n L k:Nat}{K:Es}{e:Su.En}{x:A}(h5:N<5)(ih:Fnd N d f Fs)(hk:Kn N Kl.K T d K)(ht:Sn N 11 A' T L told)(pe:e.1.Perm<|rg N)(he:Iv.inv e.1<f)(le:jE T e.2.1=some (Po.pl e.2.2))(oe:Ok e.2.2)(be:(Po.val e.2.2 1).natAbs<big)(k1:1<=k)(k2:k<N) :
  ∃(v:A) (L' A'':Nat) (T':jF) (K':Es),nA Fs [x,.int k,.ref d,.ref n,.ref L,.tup<|e.1.map .int,.ref e.2.1,y] T=.nx [x,.int k,.ref d,.ref n,.ref L',.tup<|e.1.map .int,.ref e.2.1,v] T'/\Kn N Kl.K T' d K'/\Sn N 11 A'' T' L' (Kl.step k Kl.K told (e.1,e.2.2))/\Kp (·=d) T T':=by
 have hN:N<6:=()
 have h1:=MW le oe;have P:=qO pe;obtain⟨T1,B⟩:∃T1,T1=T++[O.qG<|Po.iv e.2.2]:=⟨_,rfl⟩;have C:kK T T1:=by rw[B];kl_no
 rw[<- B]at h1;unfold nA;by_cases h0:Po.val e.2.2 1=0
 ·have b0:(Po.val e.2.2 1 == 0)=true:=iC.mpr h0;refine⟨.int<|Po.val e.2.2 1,L,A',T1,K,?_,hk.vp C,?_,C.of0⟩
  ·dsimp[j8,lY,bools,h1,b0,bR]
  ·unfold Kl.step;rw[aQ λz=>z.1 h0];exact ht.kp C
 ·have b0:(Po.val e.2.2 1 == 0)=false:=b8.mpr h0;have M:=wL (S:=T1) (xs:=e.1) (n:=N) P ();have g:K6 false (.int k) (.ref T1.length) (T1++[.lst<|(fl e.1 N).map .int])=.ok (.bl<|Su.qI e.1 k) (T1++[.lst<|(fl e.1 N).map .int]):=by
   show opt (jE _ _) _=_;rw[jR,j7,vg,yQ P k1 k2];rfl
  obtain⟨T2,t⟩:∃T2,T2=T1++[O.lst<|(fl e.1 N).map .int]:=⟨_,rfl⟩;have Z:kK T1 T2:=by rw[t];kl_no
  rw[<- t]at g M;have j:=C.trans Z
  cases hf:Su.qI e.1 k with
  | false=>
   rw[hf]at g;refine⟨.int<|Po.val e.2.2 1,L,A',T2,K,?_,hk.vp j,?_,j.of0⟩
   ·dsimp[j8,lY,bools,h1,b0,cM,M,g]
   ·unfold Kl.step;rw[aQ λz=>by rw[hf]at z;exact nomatch z.2];exact ht.kp j
  | true=>
   rw[hf]at g;obtain⟨T3,p⟩:∃T3,T3=T2++[O.lst [.tup [.int 0,.int<|-Po.val e.2.2 1]]]:=⟨_,rfl⟩;have q3:kK T2 T3:=by rw[p];kl_no
   have W:jE T3 T2.length=some (([(0,-Po.val e.2.2 1)]:Pl).map Po.pA):=by rw[p];exact jR
   have m:=j.trans q3;obtain⟨r,T4,K4,rs,x4,n4,s4,e4,J⟩:=ih T3 K e.1 he pe<|hk.vp m;have Y:=(hk.vp m).dd;have l4:=J.lst _ _ (λz=>Su.uK Y W z.symm) W;obtain⟨L5,T5,x5,s5,k5⟩:=(Vw hN pe s4 e4).Xg Po.pA (λ_ _ _=>rfl) h5 () l4 (Q:=0) (c:=(Po.val e.2.2 1).natAbs) ⟨λq G=>by rw[aM.mp G];show(-_:Int).natAbs<=_;rw[Int.natAbs_neg];exact aL _,λq G=>by rw[aM.mp G];exact aL _⟩ (show 1<=2 by decide) ⋯ CY be;obtain⟨L6,T6,x6,U,V⟩:=(((ht.kp m).LZ J Y).kp k5).add (s5.mono ⋯ (aL _)) h5 () ⋯;have st:Kl.step k Kl.K told (e.1,e.2.2)=He.AB told (He.Gi [(0,-Po.val e.2.2 1)]<|Kl.K e.1):=by unfold Kl.step;rw[aS ⟨h0,hf⟩]
   rw[<- st]at U;refine⟨.int<|Po.val e.2.2 1,L6,_,T6,K4,?_,(n4.vp k5).vp V,U,((m.of0.trans J).trans k5.of0).trans V.of0⟩;have F:LQ (.int<|Po.val e.2.2 1) T2=.ok (.int<|-Po.val e.2.2 1) T2:=rfl;dsimp[j8,lY,bools,h1,b0,cM,M,g,F,yH,OL,<- p,x4,x5,x6]
end K71
namespace K71
open PySem L2 Am
open Po (Pl Ok)
open Su (Es)
open He (Sz PB)
open Fw (rg)
def Er:gd (2<=sizeLine)=λr:Am.R A=>r:=by funext r;exact nF<|show 2<=16777216 by decide
def Uv{Fs:ae->jF->R A}{N d f n k:Nat}{x:A}{wl:ag}(h5:N<5)(ih:Fnd N d f Fs)(hk:Kn N Kl.K S d K0)(ht:Sn N 11 A0 S L0 told)(pw:wl.Perm<|rg N)(iw:Iv.inv wl<f)(hs:Sm S n es)(hse:Su.sm es=Kl.K wl)(k1:1<=k)(k2:k<N) :
  ∃(y5 y6 y7:A) (L' A'':Nat) (S':jF) (K':Es),m_ (pC Fs) (zm 2<|rE (j4 5)<|rE (j4 6) zx) (nA Fs) [x,.int k,.ref d,.ref n,.ref L0,.unb,.unb,.unb] S=.nx [x,.int k,.ref d,.ref n,.ref L',y5,y6,y7] S'/\Kn N Kl.K S' d K'/\Sn N 11 A'' S' L' ((Kl.K wl).foldl (Kl.step k Kl.K) told)/\Kp (·=d) S S':=by
 have g:(es.map Su.ent).length=es.length:=aG ..;have M:N<6:=()
 have q:=Kl.Ye M pw;refine rC (n:=n) (xs:=es.map Su.ent) (S1:=S) (show pC Fs _ _=_ from kR (by dsimp[j8,bools]) hs.l)
  (λi τ T=>∃(y5 y6 y7:A) (L' A'':Nat) (K':Es),τ=[x,.int k,.ref d,.ref n,.ref L',y5,y6,y7]/\Kn N Kl.K T d K'/\Sn N 11 A'' T L' ((Su.sm<|es.take i).foldl (Kl.step k Kl.K) told)/\Kp (·=d) S T)
  (λr=>∃(y5 y6 y7:A) (L' A'':Nat) (S':jF) (K':Es),r=.nx [x,.int k,.ref d,.ref n,.ref L',y5,y6,y7] S'/\Kn N Kl.K S' d K'/\Sn N 11 A'' S' L' ((Kl.K wl).foldl (Kl.step k Kl.K) told)/\Kp (·=d) S S')
  ⟨_,_,_,L0,A0,K0,rfl,hk,ht,Kp.refl⟩ (λi τ T h=>?_) ?_ ?_
 ·obtain⟨_,_,_,_,_,_,_,_,_,kp⟩:=h;exact kp.lst _ _ (λz=>Su.uK hk.dd hs.l z.symm) hs.l
 ·rintro i z τ T p ⟨y5,y6,y7,L',A'',K',rfl,j,c,kp⟩;rw[aV]at p;obtain⟨e,B,rfl⟩:=aW.mp p;have C:=bq B;have m:(e.1,e.2.2)∈Kl.K wl:=nG hse C;have t:=Kl.Mt pw _ m;have pb:=q.pb m;obtain⟨v,P,O,T1,L,e1,F,J,G⟩:=Tt (Fs:=Fs) (n:=n) (x:=x) (y:=y7) h5 ih j c (e:=e) t.1 (fm t.le iw) ((hs.LZ kp hk.dd).a e C) (q.cn.gd.ok _ m) (fm (Kl.Vn pb.1 1) CY) k1 k2;refine⟨[x,.int k,.ref d,.ref n,.ref L',.tup<|e.1.map .int,.ref e.2.1,y7],T,rfl,.inl ⟨_,T1,e1,_,_,_,P,O,L,rfl,F,?_,kp.trans G⟩⟩;rw[bY,B,Su.Gq,eF];exact J
 ·rintro τ T ⟨y5,y6,y7,L',A'',K',rfl,j,c,kp⟩;rw[g,bU,hse]at c;exact⟨y5,y6,y7,L',A'',T,K',rfl,j,c,kp⟩
def Uk{Fs:ae->jF->R A}{N d f k:Nat}{w:ag}(h5:N<5)(ih:Fnd N d f Fs)(hk:Kn N Kl.K S d K0)(pw:w.Perm<|rg N)(hf:He.ff w=some k)(iw:Iv.inv w<f+1) :
  ∃(r:Nat) (S':jF) (K' rs:Es),kP lz (k_ Fs) [.tup<|w.map .int,.int k,.ref d] S=.ok (.ref r) S'/\Kn N Kl.K S' d K'/\Sm S' r rs/\Su.sm rs=Kl.K w/\Kp (·=d) S S':=by
 have V:N<6:=()
 have e:=Kl.Ga pw hf;have iv:=e.iv;obtain⟨S1,W,k1⟩:=JD (S:=S) (xs:=w) (k:=k) e.h0 (by rw[qO pw];exact e.h1) (by rw[qO pw];lia);obtain⟨r2,S2,K2,rs2,x2,T,L,e2,k2⟩:=ih S1 K0 (Wd.ex w k) () e.pe<|hk.vp k1;have F:=Vw V e.pe L e2;obtain⟨L3,S3,x3,s3,k3⟩:=F.bx h5 e.h0 e.h1 ⋯ CY;obtain⟨p,g⟩:∃p,p=S3++[O.lst [.tup [.int 1,.int 1]]]:=⟨_,rfl⟩;have G:kK S3 p:=by rw[g];kl_no
 have l4:jE p S3.length=some (([(1,1)]:Pl).map Po.pA):=by rw[g];exact jR
 have B:=k3.trans G;obtain⟨L5,S5,U,s5,k5⟩:=(F.kp B).Xg Po.pA (λ_ _ _=>rfl) h5 (by have:=e.h1;lia) l4 (Q:=1) (c:=1) ⟨λq t=>by rw[aM.mp t];exact aL _,λq t=>by rw[aM.mp t];exact aL _⟩ ⋯ ⋯ CY (by rw[yX];decide +kernel);have m:=G.trans k5;obtain⟨L6,S6,x6,Z,k6⟩:=(s3.kp m).add s5 h5 (by have:=e.h1;lia) ⋯;have j:=(k3.trans m).trans k6;obtain⟨y5,y6,y7,P,A7,S7,Y,x7,n7,J,k7⟩:=Uv (x:=.tup<|w.map .int) h5 ih (T.vp j) Z e.pe () (L.kp j) e2 e.h0 e.h1;have eq:(Kl.K<|Wd.ex w k).foldl (Kl.step k Kl.K) (He.AB (Su.bx k<|Kl.K<|Wd.ex w k)<|He.Gi [(1,1)]<|Kl.K<|Wd.ex w k)=Kl.K w:=(Kl.OE pw hf).symm;rw[eq]at J;obtain⟨_,C,m7,M⟩:=J;refine⟨P,S7,Y,C,?_,n7,m7,M,((k1.of0.trans k2).trans j.of0).trans k7⟩;unfold k_ lz;dsimp[j8,lY,bools,lX,Nat.reduceAdd,Nat.reduceSub,W,x2,x3,Er,yH,OL,<- g,U,x6,↓x7]
theorem Jp{N d:Nat}(h5:N<5):∀(f:Nat),Fnd N d f (mX f)
 | 0=>λ_ _ _ h _ _=>absurd h (eo _)
 | f+1=>λS K o hf J hK=>by
  have hN:N<6:=()
  have Z:=qO J;show ∃(r:Nat) (S':jF) (L rs:Es),kP oS (oE<|mX f) [.tup<|o.map .int,.ref d] S=.ok (.ref r) S'/\_;have B:Ue true (.tup<|o.map .int) (.ref d) S=.ok (.bl<|!(mw (K.map Su.kv) o).isSome) S:=by rw[YI,hK.dd,j7]
  unfold oE oS
  cases T:Su.fE K o with
  | some e=>
   obtain⟨m1,rfl⟩:=Su.tW T;obtain⟨rs,r1,r2⟩:=hK.at_ e m1;have C:mw (K.map Su.kv) e.1=some (.ref e.2.1):=by rw[Su.vj,T];rfl
   have q:Bu (.ref d) (.tup<|e.1.map .int) S=.ok (.ref e.2.1) S:=by rw[Su.yY,hK.dd,j7,C,j7]
   rw[C]at B;refine⟨e.2.1,S,K,rs,?_,hK,r1,r2,Kp.refl⟩;dsimp[j8,lY,bools,lX,Nat.reduceAdd,Nat.reduceSub,B,iR,bR,q]
  | none=>
   have C:mw (K.map Su.kv) o=none:=by rw[Su.vj,T];rfl
   rw[C]at B;have Y:=wL (S:=S) (xs:=o) (n:=N) Z ();have F:(fl o N).head?=(He.ff o).map λk:Nat=>(k:Int):=by
    have:=He.SJ (o:=o);rw[Z]at this;exact this
   obtain⟨S1,j⟩:∃S1,S1=S++[O.lst<|(fl o N).map .int]:=⟨_,rfl⟩;have k1:kK S S1:=by rw[j];kl_no
   have G:jE S1 S.length=some ((fl o N).map .int):=by rw[j];exact jR
   rw[<- j]at Y;have M:=EE G
   cases c:He.ff o with
   | none=>
    have fe:fl o N=[]:=by
     rw[c]at F;exact List.head?_eq_none_iff.mp F
    obtain⟨S2,g⟩:∃S2,S2=S1++[O.lst [.tup [.int 0,.int 1]]]:=⟨_,rfl⟩;have k2:kK S1 S2:=by rw[g];kl_no
    have l2:jE S2 S1.length=some (Po.pl [(0,1)]):=by rw[g];exact jR
    obtain⟨S3,m⟩:∃S3,S3=S2++[O.lst [.tup [.tup<|o.map .int,.ref S1.length]]]:=⟨_,rfl⟩;have k3:kK S2 S3:=by rw[m];kl_no
    have l3:jE S3 S2.length=some (([(o,S1.length,[(0,1)])]:Es).map Su.ent):=by rw[m];exact jR
    have sm:Sm S3 S2.length [(o,S1.length,[(0,1)])]:=⟨l3,λe he=>by rw[aM.mp he];exact k3.lst _ _ (λz=>z) l2⟩;have kq:Su.sm [(o,S1.length,[((0:Int),(1:Int))])]=Kl.K o:=by rw[Kl.Q9 c];rfl
    have p:=(k1.trans k2).trans k3;obtain⟨W,L,e1,P,q,U,kp⟩:=(hK.vp p).put hN J sm kq;refine⟨S2.length,W,L,_,?_,P,U,kq,p.of0.trans kp⟩;rw[fe]at M;dsimp[j8,lY,bools,lX,Nat.reduceAdd,Nat.reduceSub,B,isSome_none,cM,Y,M,dg,je,bR,Er,yH,OL,<- g,<- m,Su.DZ,e1,q]
   | some k=>
    obtain⟨t,ft⟩:∃t,fl o N=(k:Int)::t:=by
     rw[c]at F;exact List.head?_eq_some_iff.mp F
    rw[ft]at M G;obtain⟨r3,S3,K3,V,x3,n3,s3,q3,k3⟩:=Uk h5 (Jp h5 f) (hK.vp k1) J c hf;obtain⟨W,L,e1,P,q,U,kp⟩:=n3.put hN J s3 q3;refine⟨r3,W,L,V,?_,P,U,q3,(k1.of0.trans k3).trans kp⟩;dsimp[j8,lY,bools,lX,Nat.reduceAdd,Nat.reduceSub,B,isSome_none,cM,Y,M,bh,i8,bR];rw[bh]at G;dsimp[j8,lY,bools,G,sP,↓x3,Su.DZ,e1,q]
end K71
namespace K71
open PySem L2 Am
def Xp{n:Nat}{d:List<|m9×A}(h:oY S n=some d)(h':jE S m=some xs):n≠m:=λz=>by
 subst z;have e1:=pQ h;rw[jS h']at e1
 cases e1
def Wz{n:Nat}{d:List<|m9×A}(h:oY S n=some d)(h':ku S m=some xs):n≠m:=λz=>by
 subst z;have e1:=pQ h;rw[nJ h']at e1
 cases e1
def Kp.vK{b:Nat->Prop}(h:Kp b S S')(n:Nat)(d:List<|m9×A)(hb:¬b n)(e:oY S n=some d):oY S' n=some d:=zD<|h.obj n _ hb<|pQ e
def JK(x w:ag):Ea (.tup [.tup<|x.map .int,.tup<|w.map .int])=some (x,w):=by
 unfold Ea;dsimp only;rw[ints_map,ints_map];rfl
def Sd{d:Nat}{S:jF}{x w:ag}{v:A}:E9 (.ref d) (.tup [.tup<|x.map .int,.tup<|w.map .int]) v S=opt (oY S d) λkvs=>gd (kvs.length<sizeLine) (.ok Unit.unit<|S.set d<|.vK<|yp kvs (x,w) v):=by
 show opt (oY S d) (λkvs=>opt (Ea _) _)=_;rw[JK];rfl
def TV{co ci:Ex}{a:A}:Um co ci a τ S=(co τ S).bind λo S1=>(ci τ S1).bind λi S2=>(E9 o i a S2).bind λ_ S3=>.ok τ S3:=rfl
def Ma{S:jF}:GV τ S=.ok (.ref S.length) (S++[.vK []]):=rfl
def Pz{k:m9}{v:A}{kvs:List<|m9×A}:(yp kvs k v).length<=kvs.length+1:=by
 unfold yp;split
 ·rw[aG];lia
 ·rw[bf];exact aL _
def isQ{kvs:List<|m9×A}{k:m9}:(pN kvs k).isSome=decide (k∈kvs.map (·.1)):=by
 unfold pN;rw[fG]
 cases h:kvs.find? λkv=>decide (kv.1=k)with
 | none=>
  refine(bw λz=>?_).symm;obtain⟨p,hp,e⟩:=br.mp z;have:=gE.mp h p hp;exact this<|aY e
 | some p=>
  refine(aY ?_).symm;have h1:=cY h;have h2:=gz h;have h2:=bK h2;exact br.mpr ⟨p,h1,h2⟩
def Lv{kvs:List<|m9×A}{k q:m9}{v:A}:q∈(yp kvs k v).map (·.1) ↔ q∈kvs.map (·.1)\/q=k:=by
 unfold yp;split
 ·rename_i h;rw[isQ]at h;have h:=bK h;have:(kvs.map λp=>if p.1=k then(p.1,v)else p).map (·.1)=kvs.map (·.1):=by
   rw[bD];refine b9 λp _=>?_;show(if p.1=k then(p.1,v)else p).1=p.1;split<;>rfl
  rw[this];constructor
  ·exact .inl
  ·rintro(z|z)
   ·exact z
   ·rw[z];exact h
 ·rw[bz,bE,bh,dg,aM]
structure Ks (S:jF)(d m:Nat)(ps:List m9):Prop where
 ex:∃kvs,oY S d=some kvs/\kvs.length<=m/\(∀q,q∈kvs.map (·.1) ↔ q∈ps)/\∀p∈kvs,p.2=.int 1
def Ks.put{d:Nat}{x w:ag}{v:A}(h:Ks S d m ps)(hm:m<16777216)(hv:v=.int 1):∃S',E9 (.ref d) (.tup [.tup<|x.map .int,.tup<|w.map .int]) v S=.ok Unit.unit S'/\Ks S' d (m+1) (ps++[(x,w)])/\Kp (·=d) S S':=by
 obtain⟨c,h1,h2,h3,e⟩:=h.ex;have f:d<S.length:=(aI.mp<|pQ h1).1;refine⟨S.set d<|.vK<|yp c (x,w) v,?_,⟨yp c (x,w) v,zD<|by rw[bJ f],bF Pz (),λq=>?_,λp hp=>?_⟩,Kp.refl.ye<|.inl rfl⟩
 ·rw[Sd,h1,j7];exact qm ()
 ·rw[Lv,h3,bE,aM]
 ·unfold yp at hp;split at hp
  ·obtain⟨q,g,rfl⟩:=br.mp hp;split
   ·exact hv
   ·exact e q g
  ·rcases bE.mp hp with z|z
   ·exact e p z
   ·rw[aM.mp z];exact hv
def Ks.kp{d:Nat}{b:Nat->Prop}(h:Ks S d m ps)(k:Kp b S S')(hb:¬b d):Ks S' d m ps:=by
 obtain⟨c,h1,h2⟩:=h.ex;exact⟨c,Kp.vK k _ _ hb h1,h2⟩
def Ks.mono{d:Nat}(h:Ks S d m ps)(hm:m<=m'):Ks S d m' ps:=by
 obtain⟨c,h1,h2,h3⟩:=h.ex;exact⟨c,h1,bF h2 hm,h3⟩
def Ks.ne{d n:Nat}(h:Ks S d m ps)(h':jE S n=some xs):d≠n:=by
 obtain⟨c,h1,_⟩:=h.ex;exact Xp h1 h'
def Ks.nd{d n:Nat}(h:Ks S d m ps)(h':ku S n=some xs):d≠n:=by
 obtain⟨c,h1,_⟩:=h.ex;exact Wz h1 h'
def Ks.get{d:Nat}{ps:List m9}{x w:ag}(h:Ks S d m ps):Ck (.ref d) [.tup [.tup<|x.map .int,.tup<|w.map .int],.int 0] S=.ok (.int<|if (x,w)∈ps then 1 else 0) S:=by
 obtain⟨kvs,h1,h2,h3,f⟩:=h.ex;show opt (oY S d) (λkvs=>opt (Ea _) _)=_;rw[h1,j7,JK,j7];congr 1;have e:=isQ (kvs:=kvs) (k:=(x,w));rw[fX.mpr<|h3 (x,w)]at e
 cases c:pN kvs (x,w)with
 | none=>
  rw[c]at e;have:(x,w)∉ps:=dB e.symm;rw[aQ this];rfl
 | some v=>
  rw[c]at e;have:(x,w)∈ps:=bK e.symm;rw[aS this];unfold pN at c;obtain⟨p,hp,rfl⟩:=aW.mp c;exact f p<|cY hp
theorem Ks.dq{d:Nat}(h:Ks S d m ps):dq? (.ref d) S=some Unit.unit:=by
 obtain⟨c,h1,_⟩:=h.ex;show(oY S d).map _=_;rw[h1];rfl
open Po (Pl Ok)
open Su (Es)
open He (Sz PB)
open Fw (rg)
abbrev V0 (u:ag)(e:ag×Pl):List m9:=if Po.val e.2 1=0 then[]else[(e.1,u),(u,e.1)]
abbrev ldK (u:ag):List m9:=(Kl.K u).flatMap<|V0 u
abbrev Ld (os:List<|ag):List m9:=os.flatMap ldK
def Kn.kpq{N d L:Nat}{Φ:ag->Su.Ps}{K:Es}(h:Kn N Φ T d K)(k:Kp (·=L) T T')(hL:Ks T L m ps):Kn N Φ T' d K:=⟨k.dct _ _ (λz=>hL.nd h.dd z.symm) h.dd,h.gd,h.pm,λe c=>by
 obtain⟨es,a,b⟩:=h.at_ e c;exact⟨es,⟨k.lst _ _ (λz=>hL.ne a.l z.symm) a.l,λe c=>k.lst _ _ (λz=>hL.ne (a.a e c) z.symm)<|a.a e c⟩,b⟩⟩
def Sm.kpq{n L:Nat}(a:Sm T n es)(k:Kp (·=L) T T')(hL:Ks T L m ps):Sm T' n es:=⟨k.lst _ _ (λz=>hL.ne a.l z.symm) a.l,λe c=>k.lst _ _ (λz=>hL.ne (a.a e c) z.symm)<|a.a e c⟩
def QF{N d L n c:Nat}{K:Es}{u:ag}{e:Su.En}(hk:Kn N Kl.K T d K)(hL:Ks T L m ps)(le:jE T e.2.1=some (Po.pl e.2.2))(oe:Ok e.2.2)(hm:m+2<16777216)(hv:Po.val e.2.2 1≠0->Po.val e.2.2 1=1) :
  ∃(v:A) (T':jF),qf [.ref n,.ref d,.ref L,.tup<|u.map .int,.tup<|e.1.map .int,.ref e.2.1,y] T=.nx [.ref n,.ref d,.ref L,.tup<|u.map .int,.tup<|e.1.map .int,.ref e.2.1,v] T'/\Ks T' L (m+2) (ps++V0 u (e.1,e.2.2))/\Kp (·=L) T T':=by
 have h1:=MW le oe;obtain⟨T1,f⟩:∃T1,T1=T++[O.qG<|Po.iv e.2.2]:=⟨_,rfl⟩;have g:kK T T1:=by rw[f];kl_no
 rw[<- f]at h1;unfold qf;by_cases h0:Po.val e.2.2 1=0
 ·have b0:(Po.val e.2.2 1 == 0)=true:=iC.mpr h0;refine⟨.int<|Po.val e.2.2 1,T1,?_,?_,g.of0⟩
  ·dsimp[j8,lY,bools,h1,b0,bR]
  ·unfold V0;rw[aS h0,bN];exact(hL.kp g λz=>z).mono ()
 ·have b0:(Po.val e.2.2 1 == 0)=false:=b8.mpr h0;obtain⟨T2,p,q,k2⟩:=(hL.kp g λz=>z).put (x:=e.1) (w:=u) (v:=.int<|Po.val e.2.2 1) () (by rw[hv h0]);obtain⟨T3,k,j,k3⟩:=q.put (x:=u) (w:=e.1) (v:=.int<|Po.val e.2.2 1) () (by rw[hv h0]);refine⟨.int<|Po.val e.2.2 1,T3,?_,?_,(g.of0.trans k2).trans k3⟩
  ·dsimp[j8,lY,bools,h1,b0,cM,TV,yH,p,k]
  ·unfold V0;rw[aQ h0];rw[cH]at j;exact j
end K71
namespace K71
open PySem L2 Am
open Po (Pl Ok)
open Su (Es)
open He (Sz PB)
open Fw (rg)
def NO{N d L n r:Nat}{K:Es}{u:ag}{rs:Es}(hN:N<6)(pu:u.Perm<|rg N)(hs:qc [.ref n,.ref d,.ref L,.tup<|u.map .int,y4,y5,y6] S=.ok (kB r (rs.map Su.ent).length) S1)(hk:Kn N Kl.K S1 d K)(hL:Ks S1 L m ps)(hr:Sm S1 r rs)(he:Su.sm rs=Kl.K u)(hm:m+240<16777216)(hv:∀e∈Kl.K u,Po.val e.2 1≠0->Po.val e.2 1=1) :
  ∃(z4 z5 z6:A) (S':jF),nU [.ref n,.ref d,.ref L,.tup<|u.map .int,y4,y5,y6] S=.nx [.ref n,.ref d,.ref L,.tup<|u.map .int,z4,z5,z6] S'/\Ks S' L (m+240) (ps++ldK u)/\Kp (·=L) S1 S':=by
 have k:(rs.map Su.ent).length=rs.length:=aG ..;have q:=Kl.Ye hN pu;have j:rs.length<=120:=by have:=q.many hN;rwa [<- he,Su.AM]at this
 unfold nU;refine rC (n:=r) (xs:=rs.map Su.ent) (S1:=S1) hs
  (λi τ T=>∃(z4 z5 z6:A),τ=[.ref n,.ref d,.ref L,.tup<|u.map .int,z4,z5,z6]/\i<=rs.length/\Ks T L (m+2 * i) (ps++(Su.sm<|rs.take i).flatMap (V0 u))/\Kp (·=L) S1 T)
  (λR=>∃(z4 z5 z6:A) (S':jF),R=.nx [.ref n,.ref d,.ref L,.tup<|u.map .int,z4,z5,z6] S'/\Ks S' L (m+240) (ps++ldK u)/\Kp (·=L) S1 S')
  ⟨_,_,_,rfl,bM _,by rw[jz];show Ks S1 L m (ps++[]);rw[bN];exact hL,Kp.refl⟩ (λi τ T h=>?_) ?_ ?_
 ·obtain⟨_,_,_,_,_,_,kp⟩:=h;exact kp.lst _ _ (λz=>hL.ne hr.l z.symm) hr.l
 ·rintro i z τ T p ⟨z4,z5,z6,rfl,_,g,kp⟩;rw[aV]at p;obtain⟨e,f,rfl⟩:=aW.mp p;have t:=bq f;have B:(e.1,e.2.2)∈Kl.K u:=nG he t;have G:=(aI.mp f).1;obtain⟨v,T1,e1,F,C⟩:=QF (n:=n) (u:=u) (e:=e) (y:=z6) (c:=0) (hk.kpq kp hL) g ((hr.kpq kp hL).a e t) (q.cn.gd.ok _ B) ()<|hv _ B;refine⟨[.ref n,.ref d,.ref L,.tup<|u.map .int,.tup<|e.1.map .int,.ref e.2.1,z6],T,rfl,.inl ⟨_,T1,e1,_,_,_,rfl,G,?_,kp.trans C⟩⟩;rw[bY,f,Su.Gq,f_,<- cH];have:((Su.sm (some e).toList).flatMap<|V0 u)=V0 u (e.1,e.2.2):=bN _;rw[this];exact F
 ·rintro τ T ⟨z4,z5,z6,rfl,_,g,kp⟩;rw[k,bU,he]at g;exact⟨z4,z5,z6,T,rfl,g.mono (),kp⟩
def N7{N n:Nat}{os:List<|ag}(h5:N<5)(hi:∀o∈os,o.Perm (rg N)/\Iv.inv o<8)(hv:∀o∈os,∀e∈Kl.K o,Po.val e.2 1≠0->Po.val e.2 1=1)(hn:jE S n=some (os.map λo=>.tup<|o.map .int))(hl:os.length<=120) :
  ∃(L:Nat) (S':jF),nO [.ref n] S=.ok (.ref L) S'/\Ks S' L 30000 (Ld os)/\kK S S':=by
 have hN:N<6:=()
 obtain⟨S1,f⟩:∃S1,S1=S++[O.dct []]:=⟨_,rfl⟩;have k1:kK S S1:=by rw[f];kl_no
 obtain⟨S2,g⟩:∃S2,S2=S1++[O.vK []]:=⟨_,rfl⟩;have k2:kK S1 S2:=by rw[g];kl_no
 have d1:ku S1 S.length=some []:=by rw[f];exact Su.rF
 have Z:=k2.dct _ _ (λz=>z) d1;have p2:oY S2 S1.length=some []:=zD (by rw[g];exact CZ);have l1:S1.length=S.length+1:=by rw[f,bf];rfl
 have h0:Kn N Kl.K S2 S.length []:=⟨Z,Su.Gd.nil,(nofun),(nofun)⟩;have t:Ks S2 S1.length 0 []:=⟨[],p2,aL _,λq=>Iff.rfl,nofun⟩;have j:=(k1.trans k2).lst _ _ (λz=>z) hn;have k:∃(c y4 y5 y6:A) (S':jF),m_ p6 (j4 3) nU [.ref n,.ref S.length,.ref S1.length,.unb,.unb,.unb,.unb] S2=.nx [.ref n,.ref S.length,.ref S1.length,c,y4,y5,y6] S'/\Ks S' S1.length 30000 (Ld os)/\Kp (λx=>x=S.length\/x=S1.length) S2 S':=by
  refine rC (n:=n) (xs:=os.map λo=>.tup<|o.map .int) (S1:=S2) (show p6 _ _=_ from kR (by dsimp[j8,bools]) j)
   (λi τ T=>∃(c y4 y5 y6:A) (K:Es),τ=[.ref n,.ref S.length,.ref S1.length,c,y4,y5,y6]/\i<=os.length/\Kn N Kl.K T S.length K/\Ks T S1.length (240 * i) (Ld<|os.take i)/\Kp (λx=>x=S.length\/x=S1.length) S2 T)
   (λR=>∃(c y4 y5 y6:A) (S':jF),R=.nx [.ref n,.ref S.length,.ref S1.length,c,y4,y5,y6] S'/\Ks S' S1.length 30000 (Ld os)/\Kp (λx=>x=S.length\/x=S1.length) S2 S')
   ⟨_,_,_,_,[],rfl,bM _,h0,by rw[jz];exact t,Kp.refl⟩ (λi τ T h=>?_) ?_ ?_
  ·obtain⟨_,_,_,_,_,_,_,_,_,kp⟩:=h;have:=mq hn;exact kp.lst _ _ (λz=>()) j
  ·rintro i z τ T G ⟨c,y4,y5,y6,K,rfl,_,J,p,kp⟩;rw[aV]at G;obtain⟨o,B,rfl⟩:=aW.mp G;have V:=bq B;obtain⟨W,io⟩:=hi o V;have C:=(aI.mp B).1;obtain⟨r,T1,K1,rs,x1,F,U,e1,M⟩:=Jp (d:=S.length) h5 8 T K o io W J;have m:Ks T1 S1.length (240 * i) (Ld<|os.take i):=p.kp M λz=>()
   obtain⟨z4,z5,z6,T2,x2,Y,P⟩:=NO (S:=T) (S1:=T1) (n:=n) (y4:=y4) (y5:=y5) (y6:=y6) hN W (show qc _ _=_ from kR (by dsimp[j8,lY,bools,show t_=mX 8 from rfl,x1]) U.l) F m U e1 ()<|hv o V;refine⟨_,T,rfl,.inl ⟨_,T2,x2,_,_,_,_,K1,rfl,C,F.kpq P m,?_,(kp.trans<|M.mono λ_ _ z=>.inl z).trans<|P.mono λ_ _ z=>.inr z⟩⟩;unfold Ld at Y ⊢;rw[bY,B,f_];have:(some o).toList.flatMap ldK=ldK o:=bN _;rw[this];exact Y.mono ()
  ·rintro τ T ⟨c,y4,y5,y6,K,rfl,_,J,p,kp⟩;rw[aG,bU]at p;exact⟨c,y4,y5,y6,T,rfl,p.mono (),kp⟩
 obtain⟨c,y4,y5,y6,S',x3,s3,k3⟩:=k;refine⟨S1.length,S',?_,s3,((k1.trans k2)).old k3 λq hq _ z=>()⟩;unfold nO r8 sE;dsimp[j8,lY,bools,lX,Nat.reduceAdd,Nat.reduceSub,Su.wK,Ma,<- f,<- g,↓x3]
end K71
namespace K71
open PySem L2 Am
def yS{s:Src}{xs:ae}{src:Ic}{t:Te}{e:Ex}(hs:src τ S=.ok s S1)(hk:s.k=xs.length)(b:Nat->Prop)(hg:∀T,Kp b S1 T->∀i:Nat,i<xs.length->s.get i T=xs[i]?)(hfin:∀T,Kp b S1 T->s.fin T=true)(p:A->Bool)(f:A->A)
  (step:∀x∈xs,∀T,Kp b S1 T->∃T1,t (x::lN cap τ) T=.ok (p x) T1/\Kp b T T1/\(p x=true->∃T2,e (x::lN cap τ) T1=.ok (f x) T2/\Kp b T1 T2)) (hl:xs.length<=16777216) :
  ∃S',jZ (none::cap) src (j4 0) t e τ S=.ok (.ref S'.length) (S'++[.lst<|(xs.filter p).map f])/\Kp b S1 S':=by
 have j:∀i,i<xs.length->xs.getD i .unb∈xs:=λi c=>by
  rw[aJ,aF c];exact cj c
 obtain⟨S',h1,h2⟩:=wV (s:=s) (g:=j4 0) (t:=t) (e:=e) (P:=λT=>Kp b S1 T) (T:=λd=>∃y,d=y::lN cap τ) (λi=>xs.getD i .unb) (λi=>p<|xs.getD i .unb) (λi=>f<|xs.getD i .unb) (λi T c h=>by
   rw[hk]at c;rw[hg T h i c,aJ,aF c];rfl) hfin
  (λi d T c m h=>by
   obtain⟨y,rfl⟩:=m;rw[hk]at c;obtain⟨T1,e1,k1,q⟩:=step _ (j i c) T h;refine⟨xs.getD i .unb::lN cap τ,T,T1,rfl,e1,⟨_,rfl⟩,λ_=>h.trans k1,λhp=>?_⟩;obtain⟨T2,e2,k2⟩:=q hp;exact⟨T2,e2,(h.trans k1).trans k2⟩) s.k 0 (lN (none::cap) τ) S1 rfl ⟨_,rfl⟩ Kp.refl
 refine⟨S',?_,h2⟩;unfold jZ;rw[hs,R.qq,h1,R.lJ,hk,<- fM,pB xs p f .unb];refine mF ?_;rw[aG];exact bF (dm _ _) hl
def zd{n:Nat}{xs:ae}{src:Ic}{t:Te}{e:Ex}(hs:src τ S=.ok (kB n xs.length) S1)(hx:jE S1 n=some xs)(p:A->Bool)(f:A->A)
  (step:∀x∈xs,∀T,kK S1 T->∃T1,t (x::lN cap τ) T=.ok (p x) T1/\kK T T1/\(p x=true->∃T2,e (x::lN cap τ) T1=.ok (f x) T2/\kK T1 T2)) (hl:xs.length<=16777216) :
  ∃S',jZ (none::cap) src (j4 0) t e τ S=.ok (.ref S'.length) (S'++[.lst<|(xs.filter p).map f])/\kK S1 S':=
 yS hs rfl _ (λT k i _=>by show(jE T n).bind _=_;rw[k.lst _ _ (λz=>z) hx];rfl) (λT k=>by
  show(match jE T n with
   | some ys=>decide (ys.length<=xs.length)
   | none=>false)=true
  rw[k.lst _ _ (λz=>z) hx];exact aY<|aL _) p f step hl
def aap(b:Bool)(xs:ae):A.Mj (.bl b::xs)=(A.Mj xs).map (b::·):=rfl
theorem VQ{α:Type}(f:α->Bool):∀(xs:List α),A.Mj (xs.map λx=>.bl<|f x)=some (xs.map f)
 | []=>rfl
 | x::xs=>by rw[bh,aap,VQ f xs];rfl
meta abbrev Os:=List<|ag
abbrev tq (o:ag):A:=.tup<|o.map .int
def uq(o:ag)(T:jF):uV (tq o) T=.ok (tq o) T:=rfl
abbrev Ze:A->Int
 | .int k=>k
 | _=>0
abbrev un:A->ag
 | .tup xs=>xs.map Ze
 | _=>[]
def BB(o:ag):un (tq o)=o:=by
 show(o.map A.int).map Ze=o;rw[bD];exact jx _
end K71
namespace Nu
open PySem L2
abbrev fac:Nat->Nat
 | 0=>1
 | n+1=>(n+1) * fac n
abbrev unr:Nat->ag->Nat->ag
 | 0,_,_=>[]
 | n+1,l,m=>l.getD (m / fac n) 0::unr n (l.eraseIdx<|m / fac n) (m % fac n)
end Nu
namespace Stp
open PySem L2 Iv
abbrev mm (a:ag)(i j:Nat):ag:=(a.drop<|i+1).take<|j-i-1
abbrev btw (x y m:Int):Bool:=decide (x<m) && decide (m<y)
abbrev isS (a:ag)(i j:Nat):Bool:=!(mm a i j).any λm=>btw (if a.getD j 0<a.getD i 0 then a.getD j 0 else a.getD i 0) (if a.getD j 0>a.getD i 0 then a.getD j 0 else a.getD i 0) m
end Stp
namespace Eu
open PySem L2 Bl
open Wd (ex)
open Fw (rg QC)
section
variable {n:Nat}
def ln{z:ag}(p:z.Perm<|rg n):z.length=n:=by rw[p.length_eq,Wd.mZ]
end
abbrev al (n:Nat):List (ag):=(List.range<|Nu.fac n).map<|Nu.unr n<|rg n
abbrev sg (z:ag):Int:=if Iv.inv z % 2=1 then -1 else 1
open Classical in
abbrev sm (n:Nat)(P:ag->Prop):Int:=((al n).map λz=>if P z then sg z else 0).sum
end Eu
namespace Eu
open PySem L2 Bl Am
open Fw (rg)
structure Done (n:Nat)(u w:ag)(es:List (ag×Bool)):Prop where
 nd:(es.map (·.1)).Nodup
 pm:∀e∈es,e.1.Perm (rg n)
 up:∀e∈es,Below u e.1
 fl:∀e∈es,(e.2=true ↔ Below e.1 w)
 st:u∈es.map (·.1)
 cl:∀e∈es,e.2=true->∀i j,i<j->j<n->e.1.getD i 0<e.1.getD j 0->Stp.isS e.1 i j=true->Iv.sw e.1 i j∈es.map (·.1)
abbrev ext (n:Nat)(p:ag):List (ag):=((rg n).filter λt=>decide<|t∉p).map λt=>p++[t]
abbrev inj (n:Nat):Nat->List (ag)
 | 0=>[[]]
 | k+1=>(inj n k).flatMap<|ext n
theorem ze{n:Nat}:∀{k:Nat}{p:ag},p∈inj n k ↔ p.length=k/\p.Nodup/\∀t∈p,t∈rg n
 | 0,p=>by
  unfold inj;rw[aM];constructor
  ·rintro rfl;simp
  ·rintro⟨h,_⟩;exact c8.mp h
 | k+1,p=>by
  unfold inj;rw[fW];constructor
  ·rintro⟨q,f,hp⟩;obtain⟨t,e,rfl⟩:=br.mp hp;obtain⟨h1,h2⟩:=ck.mp e;obtain⟨a,b,c⟩:=ze.mp f;have h2:t∉q:=bK h2;refine⟨by simp[a],?_,λx d=>?_⟩
   ·rw[cI];refine⟨b,by simp,λx d y g z=>h2 ?_⟩;have:y=t:=by simpa using g
    rw[<- this,<- z];exact d
   ·rcases bE.mp d with z|z
    ·exact c x z
    ·have:x=t:=by simpa using z
     rw[this];exact h1
  ·rintro⟨h1,h2,h3⟩
   rcases List.eq_nil_or_concat p with c|⟨q,t,c⟩
   ·rw[c]at h1;simp at h1
   ·rw[List.concat_eq_append]at c;subst c;rw[cI]at h2;refine⟨q,ze.mpr ⟨by simpa using h1,h2.1,λx d=>h3 x<|cJ _ d⟩,br.mpr ⟨t,ck.mpr ⟨h3 t<|by simp,aY λz=>h2.2.2 t z t (by simp) rfl⟩,rfl⟩⟩
def Ti{n:Nat}{p:ag}:p∈inj n n ↔ p.Perm (rg n):=by
 rw[ze];constructor
 ·rintro⟨h1,h2,h3⟩;exact yC h2 h3 (by rw[h1,Wd.mZ];exact aL _)
 ·intro c;exact⟨ln c,c.nodup_iff.mpr<|wA _ _,λt d=>c.mem_iff.mp d⟩
theorem I0{n:Nat}:∀(k:Nat),(inj n k).length<=n ^ k
 | 0=>aL _
 | k+1=>by
  have:∀(l:List<|ag),(l.flatMap<|ext n).length<=l.length * n:=λl=>by
   induction l with
   | nil=>exact bM _
   | cons p l c=>
    rw[fK,bf,bC,add_mul,eW];have:(ext n p).length<=n:=by
     unfold ext;rw[aG];exact bF (dm _ _)<|by rw[Wd.mZ];exact aL _
    lia
  unfold inj;exact bF (this _)<|by rw[Nat.pow_succ];exact iI _<|I0 k
end Eu
namespace K71
open PySem L2 Am
open Bl
open Fw (rg)
open Eu (inj ext)
meta abbrev ER (w:ag):A:=.tup<|w.map .int
def YF{S:jF}{n:Nat}{xs ys:ae}(h1:jE S n=some xs)(h2:jE S m=some ys)(h3:xs.length+ys.length<=16777216):Dr (.ref n) [.ref m] S=.ok .non (S.set n<|.lst<|xs++ys):=by
 show opt (jE S n) _=_;rw[h1];show opt (jE S m) _=_;rw[h2];exact NG h3
theorem xQ{f:A->A->bi}:∀{L:ae},(∀x∈L,f x x=some true)->pR f L L=some true
 | [],_=>rfl
 | x::L,h=>by
  show(f x x).bind (λp=>(pR f L L).map λq=>p && q)=_;rw[h x<|aN ..,xQ λy c=>h y<|aK _ c];rfl
def Wt{xs ys:ag}(h:xs.length+ys.length<=16777216):nE (.tup<|xs.map .int) (.tup<|ys.map .int) S=.ok (.tup<|(xs++ys).map .int) S:=by
 skip
 rw[bz];exact NG<|by rw[aG,aG];exact h
def aaC{n k:Nat}(h:n<=6)(hk:k<=n):n ^ k<=46656:=bF (Nat.pow_le_pow_left h k)<|bF (Nat.pow_le_pow_right ⋯ (show k<=6 by lia)) ⋯
theorem AA{n:Nat}(h:n<=6):∀(l:List<|ag),(l.flatMap<|ext n).length<=l.length * 6
 | []=>bM _
 | p::l=>by
  rw[fK,bf,bC,add_mul,eW];have:(ext n p).length<=n:=by
   unfold ext;rw[aG];exact bF (dm _ _)<|by rw[Wd.mZ];exact aL _
  have:=AA h l
  lia
def Tp{S:jF}{n:Nat}(h6:n<=6):∃(V:Nat) (S':jF),qB [.int n] S=.ok (.ref V) S'/\jE S' V=some ((inj n n).map ER)/\kK S S'/\S.length<=V:=by
 unfold qB yr xC;dsimp[j8,bools,lX,Nat.reduceAdd,Nat.reduceSub,oM<|show 0<=sizeLine from bM _];refine Ie (lo:=0) (hi:=(n:Int)) (S1:=S++[O.lst [.tup []]]) (show yD _ _=_ from wQ (by dsimp[j8,bools])<|sj () ())
  (λi τ T=>∃(F:Nat) (M N J:A),τ=[.int n,.ref F,M,N,J]/\jE T F=some ((inj n i).map ER)/\kK S T/\S.length<=F)
  (λr=>∃(V:Nat) (S':jF),RS.end (RS.seq r _)=.ok (.ref V) S'/\jE S' V=some ((inj n n).map ER)/\kK S S'/\S.length<=V) ⟨S.length,_,_,_,rfl,jR,Kp.refl.lay,aL _⟩ ?_ ?_
 ·rintro i τ T hi ⟨F,M,N,J,rfl,G,kp,C⟩;left;have lF:=mq G;have W:=kp.len;have hin:i<n:=()
  have il:=Eu.I0 (n:=n) i;have pw:=aaC h6 (show i<=n by lia);unfold yz;dsimp[j8,bools];have B:jE (T++[O.lst []]) F=some ((inj n i).map ER):=j9 G;obtain⟨k,U,Z,hW,kU⟩:=rC (n:=F) (xs:=(inj n i).map ER) (S1:=T++[O.lst []]) (g:=j4 4) (c:=uR) (τ:=[.int n,.ref F,.int<|0+(i:Int),.ref T.length,J]) (S:=T++[O.lst []]) (show yF _ _=_ from kR (by dsimp[j8,bools]) B)
   (λj τ d=>(∃k,τ=[.int n,.ref F,.int<|0+(i:Int),.ref T.length,k])/\jE d F=some ((inj n i).map ER)/\jE d T.length=some ((((inj n i).take j).flatMap<|ext n).map ER)/\kK S d)
   (λr=>∃(k:A) (U:jF),r=.nx [.int n,.ref F,.int<|0+(i:Int),.ref T.length,k] U/\jE U T.length=some ((inj n<|i+1).map ER)/\kK S U) ⟨⟨_,rfl⟩,B,jR,kp.lay⟩ (λj τ d hh=>hh.2.1) (by
    rintro j z τ d P ⟨⟨k,rfl⟩,q,f,m⟩;rw[aV]at P;obtain⟨p,hp,rfl⟩:=aW.mp P;have L:=(Eu.ze.mp<|bq hp).1;refine⟨[.int n,.ref F,.int<|0+(i:Int),.ref T.length,ER p],d,rfl,.inl ?_⟩;have Y:=zL (lo:=1) (hi:=(n:Int)+1) (cap:=[some 4]) (src:=uc (eC<|.int 1)<|jI nE (jB 0)<|eC<|.int 1) (t:=qQ<|jI (K6 true) (jB 0)<|jB 1) (e:=jI nE (jB 1)<|pD<|jC (jB 0)<|jH) (τ:=[.int n,.ref F,.int<|0+(i:Int),.ref T.length,ER p]) (S:=d) (S1:=d)
     (AX (S1:=d) (by dsimp[j8,bools]) (by dsimp[j8,bools]) (sj () ())<|sj () ())
     (λt=>decide<|t∉p) (λt=>ER<|p++[t]) (λt _ _=>by
      have e:K6 true (.int t) (ER p) d=.ok (.bl<|decide<|t∉p) d:=by
       show opt (Y_ d (.int t)<|p.map .int) _=_;rw[vg,j7];by_cases c:t∈p
       ·rw[aY c,bw λz=>z c];rfl
       ·rw[bw c,aY c];rfl
      dsimp[j8,bools,e]) (λt _ _ _=>by
      have e:nE (ER p) (.tup [.int t]) d=.ok (ER<|p++[t]) d:=Wt (ys:=[t]) (by rw[L];show _+1<=_;lia);dsimp[j8,bools,nF<|show([_]:ae).length<=16777216 by simp,e]) ()
    have ee:(((nN 1<|(n:Int)+1).filter λt=>decide<|t∉p).map λt=>ER<|p++[t])=(ext n p).map ER:=by unfold ext;rw[bD];rfl
    rw[ee]at Y;have ht:(inj n i).take (j+1)=(inj n i).take j++[p]:=by
     obtain⟨hj,e⟩:=aI.mp hp;rw[List.take_succ_eq_append_getElem hj,e]
    have fl1:=AA h6<|(inj n i).take j;have K:=AA h6 [p];rw[fK,jc,bN]at K;have htl:((inj n i).take j).length<=46656:=by rw[cO];lia
    have x1:=YF (S:=d++[.lst<|(ext n p).map ER]) (j9 f) jR (by
     rw[aG,aG];have:[p].length=1:=rfl
     lia)
    have lW:=mq f;unfold uR;dsimp[j8,bools,f,Y,x1];refine⟨_,_,rfl,⟨_,rfl⟩,?_,?_,m.lay.set<|.inr W⟩
    ·rw[mj ()];exact j9 q
    ·rw[qz<|by rw[bf];exact bI lW<|jf _ _,ht,f_,bz,fK,jc,bN]) (by
    rintro τ d ⟨⟨k,rfl⟩,q,f,m⟩;rw[aG,bU]at f;exact⟨k,d,rfl,f,m⟩)
  rw[Z];dsimp[j8,bools];exact⟨_,_,rfl,T.length,_,_,_,rfl,hW,kU,W⟩
 ·rintro τ T ⟨F,M,N,J,rfl,G,kp,C⟩;rw[show((n:Int)-0).toNat=n by lia]at G;dsimp[j8,bools];exact⟨F,T,rfl,G,kp,C⟩
end K71
namespace K71
open PySem L2 Am
abbrev G6 (r:ag)(x:Int):ag:=(nN 0 (r.length:Int)).filter λk=>decide<|r.getD k.toNat 0>x
meta abbrev Af:=List<|ag
abbrev tw (k:Int):Nat->Af->Af->Int->Nat->Option (Af×Af)
 | 0,_,_,_,_=>none
 | f+1,T0,Q0,x,p=>
  let T:=if p=T0.length then T0++[[]]else T0
  let Q:=if p=T0.length then Q0++[[]]else Q0
  if p<T.length/\p<Q.length/\T.length<=10/\Q.length<=10/\(T.getD p []).length<=10/\(Q.getD p []).length<=10 then
   match G6 (T.getD p []) x with
   | []=>some (T.set p<|T.getD p []++[x],Q.set p<|Q.getD p []++[k+1])
   | s::_=>tw k f (T.set p<|(T.getD p []).set s.toNat x) Q ((T.getD p []).getD s.toNat 0)<|p+1
  else none
structure Tw (B:Nat)(S:jF)(n m:Nat)(rs qs:am)(T Q:Af):Prop where
 t:Tab S n rs T
 q:Tab S m qs Q
 dj:∀r∈n::rs,r∉m::qs
 ge:∀r,r∈n::rs\/r∈m::qs->B<=r
def Tw.vp{B n:Nat}(h:Tw B S n m rs qs T Q)(k:kK S S'):Tw B S' n m rs qs T Q:=⟨h.t.vp k,h.q.vp k,h.dj,h.ge⟩
def Tw.Z7{B n i r:Nat}{S:jF}{T:Af}{ys:ag}(h:Tw B S n m rs qs T Q)(hi:rs[i]?=some r):Tw B (S.set r<|.lst<|ys.map .int) n m rs qs (T.set i ys) Q/\Kp (λr=>B<=r) S (S.set r<|.lst<|ys.map .int):=by
 have c:r∈n::rs:=aK _<|bq hi;refine⟨⟨h.t.set hi,h.q.kp (show Kp (·=r) S _ from Kp.refl.ye<|.inl rfl) λa d z=>h.dj r c<|z ▸ d,h.dj,h.ge⟩,Kp.refl.ye<|.inl<|h.ge r<|.inl c⟩
def Tw.abZ{B n i r:Nat}{S:jF}{Q:Af}{ys:ag}(h:Tw B S n m rs qs T Q)(hi:qs[i]?=some r):Tw B (S.set r<|.lst<|ys.map .int) n m rs qs T (Q.set i ys)/\Kp (λr=>B<=r) S (S.set r<|.lst<|ys.map .int):=by
 have c:r∈m::qs:=aK _<|bq hi;refine⟨⟨h.t.kp (show Kp (·=r) S _ from Kp.refl.ye<|.inl rfl) λa d z=>h.dj a d<|z ▸ c,h.q.set hi,h.dj,h.ge⟩,Kp.refl.ye<|.inl<|h.ge r<|.inr c⟩
def Tw.VH{B n:Nat}{S:jF}(h:Tw B S n m rs qs T Q):Tw B ((S++[O.lst []]).set n<|.lst<|(rs++[S.length]).map .ref) n m (rs++[S.length]) qs (T++[[]]) Q/\Kp (λr=>B<=r) S ((S++[O.lst []]).set n<|.lst<|(rs++[S.length]).map .ref):=by
 have hn:=h.ge n<|.inl<|aN ..;have ln:=h.t.lt n<|aN ..;have k:Kp (·=n) S ((S++[O.lst []]).set n<|.lst<|(rs++[S.length]).map .ref):=Kp.refl.lay.ye<|.inl rfl;refine⟨⟨h.t.push (ys:=[]),h.q.kp k λa e z=>h.dj n (aN ..)<|z ▸ e,λr c d=>?_,λr c=>?_⟩,Kp.refl.lay.ye<|.inl hn⟩
 ·rcases bg.mp c with z|z
  ·exact h.dj r (by rw[z];exact aN ..) d
  ·rcases bE.mp z with z|z
   ·exact h.dj r (aK _ z) d
   ·have:=h.q.lt r d;rw[aM.mp z]at this;exact dN _ this
 ·rcases c with c|c
  ·rcases bg.mp c with z|z
   ·rw[z];exact hn
   ·rcases bE.mp z with z|z
    ·exact h.ge r (.inl<|aK _ z)
    ·rw[aM.mp z];lia
  ·exact h.ge r<|.inr c
def Tw.sw{B n:Nat}(h:Tw B S n m rs qs T Q):Tw B S m n qs rs Q T:=⟨h.q,h.t,λr c d=>h.dj r d c,λr c=>h.ge r c.symm⟩
def WA{B n p:Nat}{T Q:Af}{row:A}(h:Tw B S n m rs qs T Q)(lT:T.length<=10)(lQ:Q.length<=10) :
  ∃(rs' qs':am) (S':jF),wD (qQ<|jI (sd false) (jB 5)<|jY (f1 lZ)<|jC (jB 1) jH) (jX (mL<|yI mE (jB 1)<|jC (nX jH) jH)<|mL<|yI mE (jB 2)<|jC (nX jH) jH) pJ [row,.ref n,.ref m,x3,x4,.int p,x6] S=.nx [row,.ref n,.ref m,x3,x4,.int p,x6] S' /\
   Tw B S' n m rs' qs' (if p=T.length then T++[[]]else T) (if p=T.length then Q++[[]]else Q)/\Kp (λr=>B<=r) S S':=by
 have f:=h.t.top;have ln:=h.t.len;have C:=h.q.len;by_cases c:p=T.length
 ·have b0:((p:Int) == ((rs.length:Nat):Int))=true:=by rw[iC,ln,c]
  obtain⟨h1,k1⟩:=h.VH;obtain⟨S1,d⟩:∃S1,S1=(S++[O.lst []]).set n (.lst<|(rs++[S.length]).map .ref):=⟨_,rfl⟩;rw[<- d]at h1 k1;obtain⟨h2,k2⟩:=h1.sw.VH;refine⟨_,_,_,?_,by rw[aS c,aS c];exact h2.sw,k1.trans k2⟩;have e:∀T:jF,newL ([]:ae) T=.ok (.ref T.length) (T++[.lst []]):=λT=>nF (show 0<=16777216 by decide);have k:jE (S++[O.lst []]) n=some (rs.map .ref):=j9 f;have j:jE (S1++[O.lst []]) m=some (qs.map .ref):=j9 h1.q.top;have g:∀{T:jF} {a:Nat} {xs:ae},jE T a=some xs->(A.ref a).lst? T=some xs:=λz=>z;dsimp[j8,lY,bools,f,aG,b0,g f,e,k,qm<|show rs.length<16777216 by lia,qm<|show qs.length<16777216 by lia];rw[show(S++[O.lst []]).set n (.lst<|rs.map A.ref++[.ref S.length])=S1 by rw[d,bz];rfl];dsimp[j8,lY,bools,h1.q.top,e,j,aG,qm<|show qs.length<16777216 by lia,bz];rfl
 ·have b0:((p:Int) == ((rs.length:Nat):Int))=false:=by rw[b8,ln];lia
  refine⟨rs,qs,S,?_,by rw[aQ c,aQ c];exact h,Kp.refl⟩;dsimp[j8,lY,bools,f,aG,b0]
end K71
namespace K71
open PySem L2 Am
def UC{a:Nat}{xs:ae}(h:jE S a=some xs)(h':jE S b=some []):oX S 12 (.ref a) (.ref b)=some xs.isEmpty:=by
 show(jE S a).bind (λxs=>(jE S b).bind λys=>pR (oX S 11) xs ys)=_;rw[h,bL,h',bL]
 cases xs<;>rfl
def Uw{B n p r q:Nat}{S:jF}{T Q:Af}{x k:Int}{row:A}(h:Tw B S n m rs qs T Q)(hr:rs[p]?=some r)(hq:qs[p]?=some q)(hR:(T.getD p []).length<=10)(hQ:(Q.getD p []).length<=10)(bS:B<=S.length) :
  ∃(y4:A) (p':Nat) (y6:A) (S':jF) (T' Q':Af),jX (kc (jZ [none,some 4,some 1,some 5] (qk<|jY (f1 lZ)<|jC (jI kI (jB 1)<|jB 5) jH) (j4 0) (qQ<|jI OV (jI kI (jI kI (jB 2)<|jB 3)<|jB 0)<|jB 1)<|jB 0)<|j4 6)
 (wD (qQ<|jI (sd false) (jB 6)<|nX jH)
 (jX (mL<|yI mE (jI kI (jB 1)<|jB 5)<|jC (jB 4) jH)
 (jX (mL<|yI mE (jI kI (jB 2)<|jB 5)<|jC (jI nE (jB 3)<|eC<|.int 1) jH)
 (kc (eC .non)<|j4 4)))
 (jX (kc (pD<|jC (jI kI (jI kI (jB 1)<|jB 5)<|jI kI (jB 6)<|eC<|.int 0)<|jC (jB 4) jH)<|zm 2<|rE (j4 4)<|rE (RV (jI kI (jB 1)<|jB 5)<|jI kI (jB 6)<|eC<|.int 0) zx)
 (kc (jI nE (jB 5)<|eC<|.int 1)<|j4 5))) [row,.ref n,.ref m,.int k,.int x,.int p,x6] S=.nx [row,.ref n,.ref m,.int k,y4,.int p',y6] S'/\Tw B S' n m rs qs T' Q'/\Kp (λr=>B<=r) S S' /\
   ((G6 (T.getD p []) x=[]/\y4=.non/\T'=T.set p (T.getD p []++[x])/\Q'=Q.set p (Q.getD p []++[k+1]))\/∃s t,G6 (T.getD p []) x=s::t/\y4=.int ((T.getD p []).getD s.toNat 0)/\p'=p+1/\T'=T.set p ((T.getD p []).set s.toNat x)/\Q'=Q):=by
 obtain⟨hp,d⟩:=h.t.rows.get hr;obtain⟨hpq,j⟩:=h.q.rows.get hq;have N:qZ (rs.map A.ref) (p:Int)=some (.ref r):=sH rfl (by rw[aV,hr];rfl);have a2:qZ (qs.map A.ref) (p:Int)=some (.ref q):=sH rfl (by rw[aV,hq];rfl);have Y:=h.t.top;have tq':=h.q.top;generalize hRR:T.getD p []=R at *
 generalize hQQ:Q.getD p []=U at *
 have M:=zL (lo:=0) (hi:=(R.length:Int)) (cap:=[some 4,some 1,some 5]) (t:=qQ<|jI OV (jI kI (jI kI (jB 2)<|jB 3)<|jB 0)<|jB 1) (e:=jB 0) (τ:=[row,.ref n,.ref m,.int k,.int x,.int p,x6]) (src:=qk<|jY (f1 lZ)<|jC (jI kI (jB 1)<|jB 5) jH) (S:=S) (S1:=S)
  (wQ (by dsimp[j8,lY,bools,Y,N,d,aG])<|sj () ()) (λk=>decide<|R.getD k.toNat 0>x) A.int
  (λk k0 k1=>by
   have:=AQ (r:=R) (i:=k) (k:=k.toNat) () ();show qQ (jI OV (jI kI (jI kI (jB 2)<|jB 3)<|jB 0)<|jB 1) [.int k,.int x,.ref n,.int p] S=_;dsimp[j8,lY,bools,Y,N,d,this]) (λk _ _ _=>by
   show jB 0 (.int k::_) S=_;dsimp[j8,lY]) ()
 obtain⟨S1,J⟩:∃S1,S1=S++[O.lst<|(G6 R x).map .int]:=⟨_,rfl⟩;have M:jZ [none,some 4,some 1,some 5] (qk<|jY (f1 lZ)<|jC (jI kI (jB 1)<|jB 5) jH) (j4 0) (qQ<|jI OV (jI kI (jI kI (jB 2)<|jB 3)<|jB 0)<|jB 1) (jB 0) [row,.ref n,.ref m,.int k,.int x,.int p,x6] S=.ok (.ref S.length) S1:=by rw[J];exact M
 have k1:kK S S1:=by rw[J];kl_no
 have g1:jE S1 S.length=some ((G6 R x).map .int):=by rw[J];exact jR
 obtain⟨S2,F⟩:∃S2,S2=S1++[O.lst []]:=⟨_,rfl⟩;have W:newL ([]:ae) S1=.ok (.ref S1.length) S2:=by rw[F];exact nF (show 0<=16777216 by decide)
 have k2:kK S1 S2:=by rw[F];kl_no
 have g2:jE S2 S1.length=some []:=by rw[F];exact jR
 have L:=k2.lst _ _ (λz=>z) g1;have g:=Az<|UC L g2;have c:=k1.trans k2;have h2:=h.vp c;have K:=h2.t.top;have V:=h2.q.top;have f:=c.lst _ _ (λz=>z) d;have G:=c.lst _ _ (λz=>z) j;have rq:r≠q:=λz=>h.dj r (aK _<|bq hr) (by rw[z];exact aK _<|bq hq);have rm:r≠m:=λz=>h.dj r (aK _<|bq hr) (by rw[z];exact aN ..)
 cases hs:G6 R x with
 | nil=>
  rw[hs]at g;obtain⟨h3,k3⟩:=h2.Z7 (ys:=R++[x]) hr;obtain⟨h4,k4⟩:=h3.abZ (ys:=U++[k+1]) hq;refine⟨.non,p,.ref S.length,_,_,_,?_,h4,(c.of0.trans k3).trans k4,.inl ⟨rfl,rfl,rfl,rfl⟩⟩;have P:jE (S2.set r<|.lst<|R.map A.int++[.int x]) m=some (qs.map .ref):=sV (by rw[bO rm];exact jS V);have C:jE (S2.set r<|.lst<|R.map A.int++[.int x]) q=some (U.map .int):=sV (by rw[bO rq];exact jS G);have g:sd false (.ref S.length) (.ref S1.length) S2=.ok (.bl true) S2:=g;dsimp[j8,lY,bools,↓M,W,g,K,N,f,aG,qm<|show R.length<16777216 by lia,P,a2,C,qm<|show U.length<16777216 by lia,bz,bh,dg]
 | cons s t=>
  rw[hs]at g L;have Z:s∈G6 R x:=by rw[hs];exact aN ..
  have Z:=EV.mp (ck.mp Z).1;have g:sd false (.ref S.length) (.ref S1.length) S2=.ok (.bl false) S2:=g;rw[bh]at L;have e1:qZ (R.map A.int) s=some (.int<|R.getD s.toNat 0):=AQ (k:=s.toNat) () ();have e2:Ec R.length s=some s.toNat:=xU () ();obtain⟨h3,k3⟩:=h2.Z7 (ys:=R.set s.toNat x) hr;refine⟨.int<|R.getD s.toNat 0,p+1,.ref S.length,_,_,_,?_,h3,c.of0.trans k3,.inr ⟨s,t,rfl,rfl,rfl,rfl,rfl⟩⟩;dsimp[j8,lY,bools,↓M,W,g,K,N,f,L,sP,e1,yH,aG,e2,jm];rfl
end K71
namespace K71
open PySem L2 Am
def acH{x:Int}:Ho true (.int x) .non S=.ok (.bl true) S:=rfl
def abz:Ho true .non .non S=.ok (.bl false) S:=rfl
def J0{t:Te}{c:Am.Sm}{N:Nat}(h:t τ S=.ok true S)(hb:c τ S=.nx τ' S'):lH t c (N+1) τ S=lH t c N τ' S':=by
 conv=>lhs;unfold lH
 rw[h];show(match c τ S with
  | .nx τ' S'=>lH t c N τ' S'
  | .ct τ' S'=>lH t c N τ' S'
  | .bk τ' S'=>.nx τ' S'
  | r=>r)=_
 rw[hb]
def UL{t:Te}{c:Am.Sm}{N:Nat}(h:t τ S=.ok false S):lH t c (N+1) τ S=.nx τ S:=by
 conv=>lhs;unfold lH
 rw[h];rfl
theorem QG{B n:Nat}{row:A}{k:Int}{res:Af×Af}:∀(f N:Nat) {S:jF}{rs qs:am}{T Q:Af}{x:Int}{p:Nat}{x6:A},f+1<=N->tw k f T Q x p=some res->Tw B S n m rs qs T Q->B<=S.length ->
  ∃(y4 y5 y6:A) (rs' qs':am) (S':jF),lH nj oW N [row,.ref n,.ref m,.int k,.int x,.int p,x6] S=.nx [row,.ref n,.ref m,.int k,y4,y5,y6] S'/\Tw B S' n m rs' qs' res.1 res.2/\Kp (λr=>B<=r) S S'
 | 0,_,_,_,_,_,_,_,_,_,_,h,_,_=>nomatch h
 | f+1,0,_,_,_,_,_,_,_,_,hN,_,_,_=>absurd hN (Nat.not_succ_le_zero _)
 | f+1,N+1,S,rs,qs,T,Q,x,p,x6,hN,h,hT,bS=>by
  obtain⟨C,d⟩:∃C,C=(if p=T.length then T++[[]]else T):=⟨_,rfl⟩;obtain⟨j,e⟩:∃j,j=(if p=T.length then Q++[[]]else Q):=⟨_,rfl⟩;unfold tw at h;dsimp only at h;rw[<- d,<- e]at h;by_cases g:p<C.length/\p<j.length/\C.length<=10/\j.length<=10/\(C.getD p []).length<=10/\(j.getD p []).length<=10
  case neg=>rw[aQ g]at h;cases h
  rw[aS g]at h;obtain⟨g1,g2,J,F,Z,V⟩:=g;have lT:T.length<=10:=by
   by_cases c:p=T.length
   ·rw[d,aS c,bf]at J;lia
   ·rw[d,aQ c]at J;exact J
  have lQ:Q.length<=10:=by
   by_cases c:p=T.length
   ·rw[e,aS c,bf]at F;lia
   ·rw[e,aQ c]at F;exact F
  obtain⟨rs',qs',S1,W,h1,k1⟩:=WA (p:=p) (x3:=.int k) (x4:=.int x) (x6:=x6) (row:=row) hT lT lQ;rw[<- d,<- e]at h1;have l1:=h1.t.len;have l2:=h1.q.len;have M:=k1.len;obtain⟨y4,P,y6,S2,T2,Q2,x2,h2,k2,cs⟩:=Uw (x:=x) (k:=k) (row:=row) (x6:=x6) h1 (aF<|show p<rs'.length by lia) (aF<|show p<qs'.length by lia) Z V ();have O:=k2.len;have L:oW [row,.ref n,.ref m,.int k,.int x,.int p,x6] S=.nx [row,.ref n,.ref m,.int k,y4,.int P,y6] S2:=by
   unfold oW;dsimp[j8,↓W];exact x2
  have t0:nj [row,.ref n,.ref m,.int k,.int x,.int p,x6] S=.ok true S:=by
   unfold nj;dsimp[j8,lY,bools,acH]
  rcases cs with⟨c1,rfl,rfl,rfl⟩|⟨s,t,c1,rfl,rfl,rfl,rfl⟩
  ·rw[c1]at h
   cases h
   obtain⟨N',rfl⟩:∃N',N=N'+1:=⟨N-1,()⟩;refine⟨.non,.int P,y6,rs',qs',S2,?_,h2,k1.trans k2⟩;rw[J0 t0 L];exact UL (by
    unfold nj;dsimp[j8,lY,bools,abz])
  ·rw[c1]at h;obtain⟨Y,z5,U,K,G,S3,x3,h3,k3⟩:=QG f N (x6:=y6) () h h2 ();refine⟨Y,z5,U,K,G,S3,?_,h3,(k1.trans k2).trans k3⟩;rw[J0 t0 L];exact x3
abbrev zu:Nat->ag->Af->Af->Option (Af×Af)
 | _,[],T,Q=>some (T,Q)
 | k,x::xs,T,Q=>match tw (k:Int) 20 T Q x 0 with
  | some r=>zu (k+1) xs r.1 r.2
  | none=>none
theorem EU:∀(xs:ag) (k:Nat) (x:Int) (T Q:Af),zu k (xs++[x]) T Q=(zu k xs T Q).bind λr=>(tw ((k+xs.length:Nat):Int) 20 r.1 r.2 x 0).bind λr=>some (r.1,r.2)
 | [],k,x,T,Q=>by
  show(match tw (k:Int) 20 T Q x 0 with
   | some r=>zu (k+1) [] r.1 r.2
   | none=>none)=_
  show _=(tw ((k+0:Nat):Int) 20 T Q x 0).bind _;rw[Nat.add_zero]
  cases tw (k:Int) 20 T Q x 0<;>rfl
 | y::xs,k,x,T,Q=>by
  show(match tw (k:Int) 20 T Q y 0 with
   | some r=>zu (k+1) (xs++[x]) r.1 r.2
   | none=>none)=Option.bind (match tw (k:Int) 20 T Q y 0 with
   | some r=>zu (k+1) xs r.1 r.2
   | none=>none) _
  cases tw (k:Int) 20 T Q y 0 with
  | none=>rfl
  | some r=>
   show zu (k+1) (xs++[x]) r.1 r.2=(zu (k+1) xs r.1 r.2).bind _;rw[EU xs (k+1) x r.1 r.2,bC,show k+1+xs.length=k+(xs.length+1)by lia]
def RI {xs ys:ag}{k:Nat}{T Q:Af}(h:zu k (xs++ys) T Q≠none):zu k xs T Q≠none:=by
 revert k T Q
 induction xs with
 | nil=>intro k T Q _ z;cases z
 | cons x xs c=>
  intro k T Q h z;revert h z;show(match tw (k:Int) 20 T Q x 0 with
   | some r=>zu (k+1) (xs++ys) r.1 r.2
   | none=>none)≠none->(match tw (k:Int) 20 T Q x 0 with
   | some r=>zu (k+1) xs r.1 r.2
   | none=>none)=none->False
  cases tw (k:Int) 20 T Q x 0 with
  | none=>exact λh _=>h rfl
  | some r=>exact λh z=>c h z
def CQ{S:jF}{res:Af×Af}(h:zu 0 o [] []=some res) :
  ∃(n m:Nat) (rs qs:am) (S':jF),jU [tq o] S=.ok (.tup [.ref n,.ref m]) S'/\Tw S.length S' n m rs qs res.1 res.2/\kK S S':=by
 obtain⟨S1,q⟩:∃S1,S1=S++[O.lst []]:=⟨_,rfl⟩;have k1:kK S S1:=by rw[q];kl_no
 have l1:jE S1 S.length=some []:=by rw[q];exact jR
 have n1:S1.length=S.length+1:=by rw[q,bf];rfl
 have G:newL ([]:ae) S=.ok (.ref S.length) S1:=by rw[q];exact nF (show 0<=16777216 by decide)
 obtain⟨S2,g⟩:∃S2,S2=S1++[O.lst []]:=⟨_,rfl⟩;have k2:kK S1 S2:=by rw[g];kl_no
 have l2:jE S2 S1.length=some []:=by rw[g];exact jR
 have B:newL ([]:ae) S1=.ok (.ref S1.length) S2:=by rw[g];exact nF (show 0<=16777216 by decide)
 have h0:Tw S.length S2 S.length S1.length [] [] [] []:=⟨Tab.nil<|k2.lst _ _ (λz=>z) l1,Tab.nil l2,(λr F N=>by rw[aM.mp F]at N;have:=aM.mp N;lia),λr F=>by
  rcases F with z|z
  ·rw[aM.mp z];exact aL _
  ·rw[aM.mp z];lia⟩
 have t:∃(j k f d:A) (rs qs:am) (S':jF),m_ qV (zm 2<|rE (j4 3)<|rE (j4 4) zx) rj [tq o,.ref S.length,.ref S1.length,.unb,.unb,.unb,.unb] S2=.nx [tq o,.ref S.length,.ref S1.length,j,k,f,d] S'/\Tw S.length S' S.length S1.length rs qs res.1 res.2/\Kp (λr=>S.length<=r) S2 S':=by
  refine YQ (xs:=o.map .int) (S1:=S2) (show qV _ _=_ from YG<|by dsimp[j8,lY,uq];rfl)
   (λi τ T=>∃(j k f d:A) (rs qs:am) (r:Af×Af),τ=[tq o,.ref S.length,.ref S1.length,j,k,f,d]/\zu 0 (o.take i) [] []=some r/\Tw S.length T S.length S1.length rs qs r.1 r.2/\Kp (λr=>S.length<=r) S2 T)
   (λZ=>∃(j k f d:A) (rs qs:am) (S':jF),Z=.nx [tq o,.ref S.length,.ref S1.length,j,k,f,d] S'/\Tw S.length S' S.length S1.length rs qs res.1 res.2/\Kp (λr=>S.length<=r) S2 S')
   ⟨_,_,_,_,[],[],([],[]),rfl,by rw[jz];rfl,h0,Kp.refl⟩ ?_ ?_
  ·rintro i z τ T L ⟨j,k,f,d,rs,qs,r,rfl,e,J,kp⟩;rw[aV]at L;obtain⟨x,M,rfl⟩:=aW.mp L;have Y:=(aI.mp M).1;have e1:o.take (i+1)=o.take i++[x]:=by rw[bY,M];rfl
   have ne:zu 0 (o.take<|i+1) [] []≠none:=by
    refine RI (ys:=o.drop<|i+1) ?_;rw[iy,h];exact λz=>nomatch z
   have e2:=EU (o.take i) 0 x [] [];rw[e,cO,bW,Nat.min_eq_left<|dJ Y]at e2;have e2:zu 0 (o.take i++[x]) [] []=(tw (i:Int) 20 r.1 r.2 x 0).bind λr=>some (r.1,r.2):=e2
   cases c:tw (i:Int) 20 r.1 r.2 x 0 with
   | none=>rw[c,<- e1]at e2;exact absurd e2 ne
   | some r2=>
    rw[c,<- e1]at e2;have len:=kp.len;have P:S2.length=S1.length+1:=by rw[g,bf];rfl
    obtain⟨U,W,z6,K,C,T1,x1,h1,q1⟩:=QG (row:=tq o) (p:=0) (x6:=d) 20 1000000 ⋯ c J ();refine⟨[tq o,.ref S.length,.ref S1.length,.int i,.int x,f,d],T,rfl,.inl ⟨[tq o,.ref S.length,.ref S1.length,.int i,U,W,z6],T1,?_,_,_,_,_,K,C,r2,rfl,e2,h1,kp.trans q1⟩⟩;unfold rj;dsimp[j8,lY,bools];exact x1
  ·rintro τ T ⟨j,k,f,d,rs,qs,r,rfl,e,J,kp⟩;rw[aG,bU,h]at e
   cases e
   exact⟨j,k,f,d,rs,qs,T,rfl,J,kp⟩
 obtain⟨j,k,f,d,rs,qs,S3,V,h3,k3⟩:=t;refine⟨S.length,S1.length,rs,qs,S3,?_,h3,(k1.trans k2).old k3 λn hn _ z=>()⟩;unfold jU tX tU;dsimp[j8,lY,bools,lX,Nat.reduceAdd,Nat.reduceSub,G,B,↓V,yH,Er]
end K71
namespace K71
open PySem L2 Am
def ZP{r:Nat}{R:ag}{x:Int}(h:jE S r=some (R.map .int))(hl:R.length<=1000):mS [.ref r,.int x] S=.ok (.int (Tb.fg R x:Nat)) S:=by
 unfold mS qh qi;dsimp[j8,bools,lX,Nat.reduceAdd,Nat.reduceSub];have g:=Tb.Vb R x;have d:=xh (t:=oR) (c:=oH)
  (λτ S1=>S1=S/\∃k:Nat,τ=[.ref r,.int x,.int k]/\k<=Tb.fg R x)
  (λτ S1=>match τ with
   | [_,_,.int k]=>R.length-k.toNat
   | _=>0)
  (λq=>RS.end (RS.seq q<|kZ<|jB 2)=.ok (.int (Tb.fg R x:Nat)) S) ?_ 1000000
 ·refine d _ _ ⟨rfl,0,rfl,bM _⟩ ?_;show R.length-_<_
  lia
 ·rintro τ S1 ⟨rfl,k,rfl,j⟩;unfold oR oH;dsimp[j8,bools,h,aG];by_cases h1:k<R.length
  ·have f:qZ (R.map A.int) (k:Int)=some (.int<|R.getD k 0):=AQ rfl h1;rw[aY<|show(k:Int)<R.length by lia];dsimp[j8,bools,h,f];by_cases h2:k=Tb.fg R x
   ·have hg:x<R.getD k 0:=by
     have:=List.findIdx_getElem (xs:=R) (p:=λy=>decide<|x<y) (w:=by subst h2;exact h1);have e:R.findIdx (λy=>decide<|x<y)=k:=h2.symm;dsimp[e]at this;rw[aJ,aF h1];simpa using this
    left;refine⟨S1,by rw[bw ()],?_⟩;dsimp[j8,bools,h2]
   ·have hg:R.getD k 0<=x:=by
     have:=List.not_of_lt_findIdx (xs:=R) (p:=λy=>decide<|x<y) (i:=k) (show k<Tb.fg R x by lia);rw[aJ,aF h1];simpa using this
    right;refine⟨S1,by rw[aY hg],.inl ⟨_,_,rfl,⟨rfl,k+1,rfl,()⟩,?_⟩⟩;show R.length-((k:Int)+1).toNat<R.length-(k:Int).toNat
    lia
  ·left;rw[bw<|show ¬(k:Int)<R.length by lia];have:k=Tb.fg R x:=()
   refine⟨S1,by dsimp[j8,bools],?_⟩;dsimp[j8,bools,this]
def YX{S:jF}{m:Nat}{qs:am}{T:List<|ag}{x:Int}(h:Tab S m qs T)(hl:T.length<=1000)(hr:∀i,(T.getD i []).length<=1000) :
  ∃(qs':am) (S':jF),mR [.ref m,.int x] S=.ok (.int (Tb.row T x:Nat)) S'/\Tab S' m qs' (Tb.put T x)/\Kp (·∈m::qs) S S'/\∀r∈qs',r∈qs\/S.length<=r:=by
 unfold mR pU pV;dsimp[j8,bools,lX,Nat.reduceAdd,Nat.reduceSub];have N:=h.len;have hm:m∈m::qs:=aN ..;have W:=xh (t:=oz) (c:=oO)
  (λτ S2=>∃(i:Nat) (U:List<|ag) (y:Int) (a3:A),τ=[.ref m,.int y,.int i,a3]/\i<=T.length/\Tab S2 m qs U/\Kp (·∈m::qs) S S2/\U.length=T.length/\(∀j,(U.getD j []).length<=1000)/\Tb.put T x=U.take i++Tb.put (U.drop i) y/\Tb.row T x=i+Tb.row (U.drop i) y)
  (λτ S1=>match τ with
   | [_,_,.int k,_]=>T.length-k.toNat
   | _=>0)
  (λq=>∃(qs':am) (S':jF),RS.end (RS.seq q<|jX (mL<|yI mE (jB 0)<|jC (nX<|jC (jB 1) jH) jH)<|kZ<|jB 2)=.ok (.int (Tb.row T x:Nat)) S'/\Tab S' m qs' (Tb.put T x)/\Kp (·∈m::qs) S S'/\∀r∈qs',r∈qs\/S.length<=r) ?_ 1000000
 ·refine W _ _ ⟨0,T,x,_,rfl,bM _,h,Kp.refl,rfl,hr,rfl,by rw[bW];rfl⟩ ?_;show T.length-_<_
  lia
 ·rintro τ S2 ⟨i,U,y,a3,rfl,hi0,h2,k2,hU,K,g,d⟩;unfold oz;dsimp[j8,bools,h2.top,aG,N];by_cases hi':i<T.length
  ·right;refine⟨S2,by rw[aY ()],?_⟩;have Z:i<qs.length:=()
   have M:i<U.length:=()
   generalize hr0:qs.getD i 0=r;have B:qs[i]?=some r:=by rw[<- hr0,aJ,aF Z];rfl
   obtain⟨_,f⟩:=h2.rows.get B;generalize hR:U.getD i []=R at f;have L:R.length<=1000:=by rw[<- hR];exact K i
   have e:U.drop i=R::U.drop (i+1):=by
    rw[fZ M,<- hR,aJ,aF M];rfl
   have C:r∈m::qs:=aK _<|bq B;have hnm:r≠m:=λz=>(bQ.mp h2.nd).1 (by rw[<- z];exact bq B);have P:qZ (qs.map A.ref) (i:Int)=some (.ref r):=sH rfl (by rw[aV,B];rfl);have Y:∀V,U.set i V=U.take i++V::U.drop (i+1):=λV=>by rw[List.set_eq_take_append_cons_drop,aS M]
   unfold oO;dsimp[j8,bools,h2.top,P,ZP f L,f,aG];by_cases p:Tb.fg R y=R.length
   ·right;rw[show(((Tb.fg R y:Nat):Int) == (R.length:Int))=true by rw[p];simp];dsimp[j8,bools,h2.top,P,f,aG,qm<|show R.length<16777216 by lia];have F:=h2.set (i:=i) (r:=r) (ys:=R++[y]) B;rw[bz]at F;rw[e,Tb.C4 p]at d;refine⟨_,_,rfl,qs,_,by rw[d];rfl,?_,k2.set<|.inl C,λr hr=>.inl hr⟩;rw[g,e,Tb.Ih p,<- Y];exact F
   ·left;have J:=Tb.Z6 p;have e1:qZ (R.map A.int) (Tb.fg R y:Int)=some (.int<|R.getD (Tb.fg R y) 0):=AQ rfl J;have e2:Ec R.length (Tb.fg R y:Int)=some (Tb.fg R y):=xU rfl J;rw[show(((Tb.fg R y:Nat):Int) == (R.length:Int))=false by rw[b8];lia];dsimp[j8,bools,h2.top,P,f,e1,aG,e2,nF<|show([_,_]:ae).length<=16777216 by simp,oM<|show([_,_]:ae).length=2 from rfl];have F:=h2.set (i:=i) (r:=r) (ys:=R.set (Tb.fg R y) y) B;rw[jm]at F;have l1:(U.take i).length=i:=by rw[cO];lia
    have d1:(U.set i<|R.set (Tb.fg R y) y).drop (i+1)=U.drop (i+1):=by
     rw[Y,List.drop_append,l1,Nat.add_sub_cancel_left,List.drop_of_length_le (by lia:(U.take i).length<=i+1)];simp
    have t1:(U.set i<|R.set (Tb.fg R y) y).take (i+1)=U.take i++[R.set (Tb.fg R y) y]:=by
     rw[Y,List.take_append,l1,Nat.add_sub_cancel_left,List.take_of_length_le (by lia:(U.take i).length<=i+1)];simp
    refine⟨_,_,rfl,⟨i+1,U.set i<|R.set (Tb.fg R y) y,_,_,rfl,(),F,k2.set<|.inl C,by rw[cu];exact hU,λj=>?_,?_,?_⟩,?_⟩
    ·rw[aJ,i7];by_cases hj:i=j
     ·rw[aS hj,aS M];simpa using L
     ·rw[aQ hj,<- aJ];exact K j
    ·rw[g,e,Tb.O4 p,t1,d1];simp
    ·rw[d,e,Tb.G8 p,d1];lia
    ·show T.length-((i:Int)+1).toNat<T.length-(i:Int).toNat
     lia
  ·left;have G:i=U.length:=()
   refine⟨S2,by rw[bw ()],?_⟩;rw[G,bU,List.drop_length]at g;rw[G,List.drop_length]at d;have lm:jE (S2++[O.lst [.int y]]) m=some (qs.map .ref):=j9 h2.top;dsimp[j8,bools,h2.top,lm,aG,qm<|show qs.length<16777216 by lia];have F:=h2.push (ys:=[y]);rw[bz]at F;refine⟨qs++[S2.length],_,by rw[d,G];rfl,?_,k2.lay.set<|.inl hm,λr hr=>?_⟩
   ·rw[g];exact F
   ·rcases bE.mp hr with z|z
    ·exact .inl z
    ·right;rw[aM.mp z];exact k2.len
def OF{S:jF}{L:Nat}{xs:ag}(h:jE S L=some (xs.map .int))(hl:xs.length<=100) :
  ∃(rs qs:am) (n m:Nat) (S':jF),pL [.ref L] S=.ok (.tup [.ref n,.ref m]) S'/\Tab S' n rs (Tb.tabs xs xs.length).1/\Tab S' m qs (Tb.tabs xs xs.length).2/\kK S S'/\(∀r∈n::rs,S.length<=r)/\(∀r∈m::qs,S.length<=r)/\∀r∈n::rs,r∉m::qs:=by
 have lL:=mq h;unfold pL zq Ae;dsimp[j8,bools,lX,Nat.reduceAdd,Nat.reduceSub];have lb:(S++[O.lst []]).length=S.length+1:=by rw[bf];rfl
 have k0:kK S (S++[O.lst []]++[O.lst []]):=Kp.refl.lay.lay;have h0:=k0.lst _ _ (λz=>z) h;have hs:zO [.ref L,.ref S.length,.ref (S++[O.lst []]).length,.unb,.unb,.unb] (S++[O.lst []]++[O.lst []])=.ok (Co L (xs.map A.int).length) (S++[O.lst []]++[O.lst []]):=TR (by dsimp[j8,bools]) h0;unfold m_;rw[hs];refine zW (s:=Co L (xs.map A.int).length)
  (λi τ S1=>∃(rs qs:am) (a3 a4 a5:A),τ=[.ref L,.ref S.length,.ref (S++[O.lst []]).length,a3,a4,a5]/\Tab S1 S.length rs (Tb.tabs xs i).1/\Tab S1 (S++[O.lst []]).length qs (Tb.tabs xs i).2/\kK S S1/\(∀r∈S.length::rs,S.length<=r)/\(∀r∈(S++[O.lst []]).length::qs,S.length<=r)/\∀r∈S.length::rs,r∉(S++[O.lst []]).length::qs)
  (λq=>∃(rs qs:am) (n m:Nat) (S':jF),RS.end (RS.seq q _)=.ok (.tup [.ref n,.ref m]) S'/\Tab S' n rs (Tb.tabs xs xs.length).1/\Tab S' m qs (Tb.tabs xs xs.length).2/\kK S S'/\(∀r∈n::rs,S.length<=r)/\(∀r∈m::qs,S.length<=r)/\∀r∈n::rs,r∉m::qs)
  ?_ ?_ (xs.map A.int).length 0 _ _ rfl
  ⟨[],[],_,_,_,rfl,Tab.nil<|j9 jR,Tab.nil jR,k0,(λr c=>by rw[aM.mp c];exact aL _),(λr c=>by rw[aM.mp c,lb];lia),λr c B=>by rw[aM.mp c]at B;have:=aM.mp B;lia⟩
 ·rintro i τ S1 W ⟨rs,qs,a3,a4,a5,rfl,N,K,k1,fr,J,P⟩;have W:i<(xs.map A.int).length:=W;rw[aG]at W;generalize hm:(S++[O.lst []]).length=m at K J P;obtain⟨z1,z2⟩:=Tb.GH xs i;have hL1:=k1.lst _ _ (λz=>z) h;obtain⟨F,S2,e2,f,k2,Z⟩:=YX (x:=xs.getD i 0) N () (λj=>by have:=z2 j;lia);have d:Tab S2 m qs (Tb.tabs xs i).2:=K.kp k2 λr c z=>P r z c;generalize hX:xs.getD i 0=x at e2 f;generalize hTT:(Tb.tabs xs i).1=T at N f z1 z2 e2;generalize hQQ:(Tb.tabs xs i).2=Q at K d;have hQl:Q.length=T.length:=by rw[<- hQQ,<- hTT];exact Tb.Oa xs i
  have hrl:=Tb.Qp T x;have lQ:=d.len;have Y:=k2.len;have ltQ:=K.lt;have ltT:=N.lt;have G:m∈m::qs:=aN ..;have nx:Tb.tabs xs (i+1)=(Tb.put T x,Tb.add Q (Tb.row T x)<|(i:Int)+1):=by rw[<- hTT,<- hQQ,<- hX];rfl
  have V:∀r∈S.length::F,S.length<=r:=λr c=>by
   rcases bg.mp c with z|z
   ·rw[z];exact aL _
   ·rcases Z r z with z|z
    ·exact fr r (aK _ z)
    ·exact bF k1.len z
  have g:∀r∈S.length::F,r∉m::qs:=λr c B=>by
   rcases bg.mp c with z|z
   ·exact P r (by rw[z];exact aN ..) B
   ·rcases Z r z with z|z
    ·exact P r (aK _ z) B
    ·have:=ltQ r B;lia
  have k02:kK S S2:=k1.old k2 λa ha _ z=>absurd (fr a z) ();refine⟨.tup [.int i,.int x],[.ref L,.ref S.length,.ref m,.int i,.int x,a5],S1,?_,by dsimp[j8,bools,oM<|show([_,_]:ae).length=2 from rfl],.inl ?_⟩
  ·show(jE S1 L).bind _=_;rw[hL1,bL,aV,aF W,<- hX,aJ,aF W];rfl
  unfold zR;dsimp[j8,bools,e2,d.top,aG,lQ,hQl];by_cases c:Tb.row T x=T.length
  ·rw[show(((Tb.row T x:Nat):Int) == (T.length:Int))=true by rw[c];simp];have lm:jE (S2++[O.lst []]) m=some (qs.map .ref):=j9 d.top;have hP:=d.push (ys:=[]);rw[dg]at hP;have hPq:=hP.rows.get (i:=qs.length) (r:=S2.length) (by simp);have M:=hPq.2;have e4:(Q++[([]:ag)]).getD qs.length []=[]:=by rw[aJ,lQ];simp
   rw[e4,dg]at M;have t:qZ ((qs++[S2.length]).map A.ref) (Tb.row T x:Int)=some (.ref S2.length):=sH (k:=qs.length) () (by simp);have p:=hP.top;rw[bz]at p t M;dsimp[j8,bools,d.top,lm,aG,qm<|show qs.length<16777216 by lia];dsimp[bh,dg]at p t M;dsimp[j8,bools,p,t,M,eg,qm<|show 0<16777216 by decide];have U:=hP.set (i:=qs.length) (r:=S2.length) (ys:=[(i:Int)+1]) (by simp);have s5:(Q++[[]]).set qs.length [(i:Int)+1]=Tb.add Q (Tb.row T x) ((i:Int)+1):=by
    rw[show Tb.row T x=Q.length by lia,Tb.Io,lQ];simp
   rw[s5,bz]at U;dsimp[bh,dg,jn]at U;have kk:Kp (λa=>a∈m::qs\/S2.length<=a) S2 (((S2++[O.lst []]).set m<|O.lst<|List.map A.ref qs++[A.ref S2.length]).set S2.length<|O.lst<|[]++[A.int<|(i:Int)+1]):=(Kp.refl.lay.set<|.inl<|.inl G).set<|.inr<|aL _;refine⟨_,_,rfl,F,qs++[S2.length],_,_,_,rfl,?_,?_,?_,V,λr c=>?_,λr c B=>?_⟩
   ·rw[nx];exact f.kp kk λr c z=>by
     rcases z with z|z
     ·exact g r c z
     ·exact absurd (f.lt r c) ()
   ·rw[nx];exact U
   ·exact(k02.lay.set<|.inr<|J m G).set (.inr<|bF k1.len Y)
   ·rcases bg.mp c with z|z
    ·rw[z];exact J m G
    ·rcases bE.mp z with z|z
     ·exact J r (aK _ z)
     ·rw[aM.mp z];exact bF k1.len Y
   ·have hrl:=f.lt r c
    rcases bg.mp B with z|z
    ·exact g r c (by rw[z];exact G)
    ·rcases bE.mp z with z|z
     ·exact g r c (aK _ z)
     ·have:=aM.mp z;lia
  ·rw[show(((Tb.row T x:Nat):Int) == (T.length:Int))=false by rw[b8];lia];have hrq:Tb.row T x<qs.length:=()
   generalize hq0:qs.getD (Tb.row T x) 0=q;have C:qs[Tb.row T x]?=some q:=by rw[<- hq0,aJ,aF hrq];rfl
   have M:=(d.rows.get C).2;have t:qZ (qs.map A.ref) (Tb.row T x:Int)=some (.ref q):=sH rfl (by rw[aV,C];rfl);have hbq:(Q.getD (Tb.row T x) []).length<=100:=by
    have e:=Tb.zZ Q<|Tb.row T x;have:=Tb.vW xs i;rw[hTT,hQQ]at this;rw[<- e,this,Tb.zZ];have:=z2<|Tb.row T x;lia
   have hmq:q∈m::qs:=aK _<|bq C;dsimp[j8,bools,d.top,t,M,aG,qm<|show(Q.getD (Tb.row T x) []).length<16777216 by lia];have U:=d.set (i:=Tb.row T x) (r:=q) (ys:=Q.getD (Tb.row T x) []++[(i:Int)+1]) C;rw[<- Tb.PJ Q (Tb.row T x) _ (),bz]at U;have kk:Kp (·∈m::qs) S2 (S2.set q<|O.lst<|(Q.getD (Tb.row T x) []).map A.int++[A.int<|(i:Int)+1]):=Kp.refl.set<|.inl hmq;refine⟨_,_,rfl,F,qs,_,_,_,rfl,?_,?_,?_,V,λr c=>J r c,λr c B=>g r c B⟩
   ·rw[nx];exact f.kp kk λr c z=>g r c z
   ·rw[nx];exact U
   ·exact k02.set<|.inr<|J q hmq
 ·rintro τ S1 ⟨rs,qs,a3,a4,a5,rfl,N,K,k1,fr,J,P⟩;have ek:(Co L (xs.map A.int).length).k=xs.length:=aG ..;rw[ek]at N K;refine⟨?_,?_⟩
  ·show(match jE S1 L with
    | some ys=>decide (ys.length=(xs.map A.int).length)
    | none=>false)=true
   rw[k1.lst _ _ (λz=>z) h];simp
  ·dsimp[j8,bools,nF<|show([_,_]:ae).length<=16777216 by simp];exact⟨rs,qs,_,_,_,rfl,N,K,k1,fr,J,P⟩
end K71
namespace K71
open PySem L2 Am
theorem E4{s:Src}{e:Ex}(P:Nat->ae->jF->Prop)(step:∀i acc T,i<s.k->P i acc T->∃x y T2,s.get i T=some x/\e (x::lN cap τ) T=.ok y T2/\P (i+1) (acc++[y]) T2)(hfin:∀acc T,P s.k acc T->s.fin T=true) :
  ∀k i τ' T acc,k+i=s.k->(∃y,τ'=y::lN cap τ)->P i acc T->∃zs S',n8 s (j4 0) lD e k i τ' T=.ok zs S'/\P s.k (acc++zs) S'/\zs.length=k
 | 0,i,τ',T,acc,hk,_,hP=>by
  have:i=s.k:=()
  subst this;exact⟨[],T,by unfold n8;rw[aS<|hfin _ _ hP],by rw[bN];exact hP,rfl⟩
 | k+1,i,τ',T,acc,hk,hy,hP=>by
  obtain⟨c,rfl⟩:=hy;obtain⟨x,y,T2,e1,e2,p2⟩:=step i acc T () hP;obtain⟨zs,S',h1,h2,h3⟩:=E4 P step hfin k (i+1) (x::lN cap τ) T2 (acc++[y]) () ⟨x,rfl⟩ p2;refine⟨y::zs,S',?_,by rw[cH]at h2;exact h2,by rw[bC,h3]⟩;unfold n8;rw[e1,j7];rw[Xl,R.lJ,show lD ((c::lN cap τ).set 0 x) T=.ok true T from rfl,R.lJ];show((e (x::lN cap τ) T).uY _)=_;rw[e2,R.lJ];show(n8 s (j4 0) lD e k (i+1) (x::lN cap τ) T2).uY _=_;rw[h1,R.lJ]
def oK{s:Src}{src:Ic}{e:Ex}(hs:src τ S=.ok s S1)(P:Nat->ae->jF->Prop)(p0:P 0 [] S1)(step:∀i acc T,i<s.k->P i acc T->∃x y T2,s.get i T=some x/\e (x::lN cap τ) T=.ok y T2/\P (i+1) (acc++[y]) T2)(hfin:∀acc T,P s.k acc T->s.fin T=true)(hl:s.k<=16777216) :
  ∃ys S',jZ (none::cap) src (j4 0) lD e τ S=.ok (.ref S'.length) (S'++[.lst ys])/\P s.k ys S':=by
 obtain⟨zs,S',h1,h2,h3⟩:=E4 P step hfin s.k 0 (lN (none::cap) τ) S1 [] rfl ⟨_,rfl⟩ p0;rw[jn]at h2;refine⟨zs,S',?_,h2⟩;unfold jZ;rw[hs,R.qq,h1,R.lJ];exact mF ()
def rJ{n k:Nat}{x:A}(h:jE T n=some xs){i:Nat}(hx:xs[i]?=some x):(kB n k).get i T=some x:=by
 show(jE T n).bind _=_;rw[h];exact hx
def rO{n:Nat}{xs:ae}(h:jE T n=some xs):(kB n xs.length).fin T=true:=by
 show(match jE T n with
  | some ys=>decide (ys.length<=xs.length)
  | none=>false)=true
 rw[h];exact aY<|aL _
meta abbrev M2:=List<|ag
structure Tq (S:jF)(R:Nat)(T:M2):Prop where
 ex:∃rs:am,jE S R=some (rs.map .ref)/\Rows S rs T
def Tq.kp{R:Nat}(h:Tq S R T)(k:kK S S'):Tq S' R T:=by
 obtain⟨c,h1,h2⟩:=h.ex;exact⟨c,k.lst _ _ (λz=>z) h1,h2.mono λr _ xs e=>k.lst _ _ (λz=>z) e⟩
abbrev C7 (ps:List m9)(k:Nat)(a b:ag):Int:=if a=b then(if Su.qI a k=true then 1 else -1)else if (Su.qI a k || !Su.qI b k)=true then 0 else if (a,b)∈ps then 1 else 0
def Vd{a:ag}:sd false (tq a) (tq b) S=.ok (.bl<|decide<|a=b) S:=by
 show opt (oX S 12 (tq a)<|tq b) _=_;rw[show oX S 12 (tq a) (tq b)=some (decide<|a=b)from qH a b];rfl
def Y3{N L k:Nat}{a b:ag}(hN:N<6)(la:a.length=N)(lb:b.length=N)(k1:1<=k)(k2:k<N)(hL:Ks S L m ps):∃S',ly [.int k,tq a,tq b,.ref L] S=.ok (.int<|C7 ps k a b) S'/\kK S S':=by
 have p:∀(T:jF) (x:ag),x.length=N->∃T1,m8 [tq x] T=.ok (.ref T.length) T1/\K6 false (.int k) (.ref T.length) T1=.ok (.bl<|Su.qI x k) T1/\K6 true (.int k) (.ref T.length) T1=.ok (.bl<|!Su.qI x k) T1/\kK T T1:=λT x t=>by
  have p:=wL (S:=T) (xs:=x) (n:=N) t ();refine⟨_,p,?_,?_,Kp.refl.lay⟩
  ·show opt (jE _ _) _=_;rw[jR,j7,vg,yQ t k1 k2];rfl
  ·show opt (jE _ _) _=_;rw[jR,j7,vg,yQ t k1 k2];rfl
 obtain⟨S1,e1,e,_,f⟩:=p S a la;obtain⟨S2,e2,_,q,j⟩:=p S1 b lb;unfold ly uQ uU;by_cases c:a=b
 ·refine⟨S1,?_,f⟩;unfold C7;rw[aS c];have eq:=Vd (S:=S1) (a:=a) (b:=b);rw[aY c]at eq
  cases hf:Su.qI a k with
  | true=>rw[hf]at e;dsimp[j8,lY,bools,uq,lX,Nat.reduceAdd,Nat.reduceSub,e1,e,eq];rfl
  | false=>rw[hf]at e;dsimp[j8,lY,bools,uq,lX,Nat.reduceAdd,Nat.reduceSub,e1,e,eq];rfl
 ·have eq:=Vd (S:=S1) (a:=a) (b:=b);rw[bw c]at eq
  cases hf:Su.qI a k with
  | true=>
   refine⟨S1,?_,f⟩;unfold C7;rw[aQ c,hf];rw[hf]at e;dsimp[j8,lY,bools,uq,lX,Nat.reduceAdd,Nat.reduceSub,e1,e,eq];rfl
  | false=>
   rw[hf]at e
   cases hg:Su.qI b k with
   | false=>
    refine⟨S2,?_,f.trans j⟩;unfold C7;rw[aQ c,hf,hg];rw[hg]at q;dsimp[j8,lY,bools,uq,lX,Nat.reduceAdd,Nat.reduceSub,e1,e,eq,e2,q];rfl
   | true=>
    refine⟨S2,?_,f.trans j⟩;unfold C7;rw[aQ c,hf,hg];rw[hg]at q;have g:=((hL.kp (f.trans j) λz=>z).get (x:=a) (w:=b));have d:=(hL.kp (f.trans j) λz=>z).dq;have g:Ck (.ref L) [.tup [tq a,tq b],.int 0] S2=.ok (.int<|if (a,b)∈ps then 1 else 0) S2:=g;dsimp[j8,lY,bools,uq,lX,Nat.reduceAdd,Nat.reduceSub,e1,e,eq,e2,q,bR,UA,d,yH,Er,g];rfl
abbrev Py (ps:List m9)(k:Nat)(os:Os)(a:ag):ag:=os.map λb=>C7 ps k a b
abbrev Ys (ps:List m9)(k:Nat)(os:Os):M2:=os.map λa=>Py ps k os a
def WM{N L k g:Nat}{os:Os}{a:ag}(hN:N<6)(la:a.length=N)(lo:∀o∈os,o.length=N)(k1:1<=k)(k2:k<N)(hL:Ks T L m ps)(hg:jE T g=some (os.map tq))(ll:os.length<=1000) :
  ∃T',jZ [none,some 1,some 0,some 2] (kD<|jB 3) (j4 0) lD (eFn ly<|jC (jB 1)<|jC (jB 2)<|jC (jB 0)<|jC (jB 3) jH) [tq a,.int k,.ref L,.ref g] T=.ok (.ref T'.length) (T'++[.lst<|(Py ps k os a).map .int])/\kK T T':=by
 obtain⟨T',c,q⟩:=zd (cap:=[some 1,some 0,some 2]) (t:=lD) (e:=eFn ly<|jC (jB 1)<|jC (jB 2)<|jC (jB 0)<|jC (jB 3) jH) (τ:=[tq a,.int k,.ref L,.ref g]) (S:=T) (S1:=T) (src:=kD<|jB 3) (xs:=os.map tq) (kR (by dsimp[j8,lY,bools]) hg) hg (λ_=>true) (λx=>.int<|C7 ps k a<|un x) (λx f U d=>⟨U,rfl,Kp.refl,λ_=>by
  obtain⟨o,j,rfl⟩:=br.mp f;obtain⟨U2,e2,p⟩:=Y3 (S:=U) hN la (lo o j) k1 k2<|hL.kp d λz=>z;refine⟨U2,?_,p⟩;show eFn ly (jC (jB 1)<|jC (jB 2)<|jC (jB 0)<|jC (jB 3) jH) [tq o,.int k,tq a,.ref L] U=_;rw[BB];dsimp[j8,lY,bools,uq,e2]⟩)<|by rw[aG];lia
 refine⟨T',?_,q⟩;have el:(((os.map tq).filter λ_=>true).map λx=>A.int<|C7 ps k a<|un x)=(Py ps k os a).map .int:=by
  unfold Py;rw[gb.mpr λ_ _=>rfl,bD,bD];refine b9 λo _=>?_;show A.int (C7 ps k a<|un<|tq o)=_;rw[BB];rfl
 rw[el]at c;exact c
def Rows.Vt{r:Nat}{x:ag}(h:Rows S rs T)(k:kK S S')(e:jE S' r=some (x.map .int)):Rows S' (rs++[r]) (T++[x]):=(h.mono λq _ xs z=>k.lst _ _ (λz=>z) z).app ⟨e,trivial⟩
def Xo{N L k g:Nat}{os:Os}(hN:N<6)(lo:∀o∈os,o.length=N)(k1:1<=k)(k2:k<N)(hL:Ks T L m ps)(hg:jE T g=some (os.map tq))(ll:os.length<=1000) :
  ∃R T',jZ [none,some 0,some 2,some 1] (kD<|jB 1) (j4 0) lD (jZ [none,some 1,some 0,some 2] (kD<|jB 3) (j4 0) lD<|eFn ly<|jC (jB 1)<|jC (jB 2)<|jC (jB 0)<|jC (jB 3) jH) [.int k,.ref g,.ref L] T=.ok (.ref R) T'/\Tq T' R (Ys ps k os)/\kK T T':=by
 obtain⟨ys,q,t,f,F,r1,B⟩:=oK (cap:=[some 0,some 2,some 1]) (e:=jZ [none,some 1,some 0,some 2] (kD<|jB 3) (j4 0) lD<|eFn ly<|jC (jB 1)<|jC (jB 2)<|jC (jB 0)<|jC (jB 3) jH) (τ:=[.int k,.ref g,.ref L]) (S:=T) (S1:=T) (src:=kD<|jB 1) (s:=kB g (os.map tq).length) (kR (by dsimp[j8,lY,bools]) hg)
  (λi acc U=>∃f:am,acc=f.map .ref/\Rows U f ((os.take i).map λa=>Py ps k os a)/\kK T U) ⟨[],rfl,trivial,Kp.refl⟩ (λi acc U d hP=>by
   obtain⟨f,rfl,C,c⟩:=hP;have d:i<(os.map tq).length:=d;rw[aG]at d;obtain⟨p,e1,j⟩:=WM (a:=os[i]) hN (lo _<|cj d) lo k1 k2 (hL.kp c λz=>z) (c.lst _ _ (λz=>z) hg) ll;refine⟨tq os[i],.ref p.length,_,rJ (c.lst _ _ (λz=>z) hg)<|by rw[aV,aF d];rfl,e1,f++[p.length],by rw[bz];rfl,?_,(c.trans j).lay⟩;rw[bY,aF d,bz];exact Rows.Vt C j.lay jR) (λacc U hP=>by
   obtain⟨_,_,_,c⟩:=hP;exact rO<|c.lst _ _ (λz=>z) hg) (by show(os.map tq).length<=_;rw[aG];lia)
 rw[show(kB g (os.map tq).length).k=os.length from aG ..,bU]at r1;subst F;exact⟨q.length,_,t,⟨f,jR,r1.mono λr _ xs z=>j9 z⟩,B.lay⟩
structure T3 (S:jF)(R:Nat)(Ts:List M2):Prop where
 ex:∃ms:am,jE S R=some (ms.map .ref)/\ms.length=Ts.length/\∀i m,ms[i]?=some m->Tq S m (Ts.getD i [])
abbrev ntN (N:Nat)(os:Os):List M2:=(List.range<|N-1).map λi=>Ys (Ld os) (i+1) os
def WK{N g:Nat}{os:Os}(h5:N<5)(hi:∀o∈os,o.Perm (Fw.rg N)/\Iv.inv o<8)(hv:∀o∈os,∀e∈Kl.K o,Po.val e.2 1≠0->Po.val e.2 1=1)(hg:jE S g=some (os.map tq))(ll:os.length<=120)(ne:os≠[])(h1:1<=N) :
  ∃R S',kj [.ref g] S=.ok (.ref R) S'/\T3 S' R (ntN N os)/\kK S S':=by
 obtain⟨L,S1,e1,P,k1⟩:=N7 (S:=S) h5 hi hv hg ll;have p:=k1.lst _ _ (λz=>z) hg;obtain⟨q,F,rfl⟩:∃o t,os=o::t:=by
  cases os with
  | nil=>exact absurd rfl ne
  | cons o t=>exact⟨o,t,rfl⟩
 have M:∀o∈q::F,o.length=N:=λo Z=>qO (hi o Z).1;have Y:=M q<|aN ..;have hs:uc (eC<|.int 1) (jY (f1 lZ)<|jC (jI kI (jB 0)<|eC<|.int 0) jH) [.ref g,.ref L] S1=.ok (qj 1 (N:Int)) S1:=AX (S1:=S1) (by dsimp[j8,bools]) (by rw[bh]at p;dsimp[j8,lY,bools,p,sP,uq,show lZ (tq q) S1=.ok (.int (N:Int)) S1 from by show Am.R.ok (A.int ((q.map A.int).length:Int)) S1=_;rw[aG,Y]]) (sj ⋯ ⋯)<|sj () ();obtain⟨ys,S',x1,d,y1,G,r1,kS⟩:=oK (cap:=[some 0,some 1]) (e:=jZ [none,some 0,some 2,some 1] (kD<|jB 1) (j4 0) lD<|jZ [none,some 1,some 0,some 2] (kD<|jB 3) (j4 0) lD<|eFn ly<|jC (jB 1)<|jC (jB 2)<|jC (jB 0)<|jC (jB 3) jH) (τ:=[.ref g,.ref L]) (S:=S1) (S1:=S1) (src:=uc (eC<|.int 1)<|jY (f1 lZ)<|jC (jI kI (jB 0)<|eC<|.int 0) jH) (s:=qj 1 (N:Int)) hs
  (λi acc U=>∃d:am,acc=d.map .ref/\d.length=i/\(∀j m,d[j]?=some m->Tq U m (Ys (Ld (q::F)) (j+1) (q::F)))/\kK S1 U) ⟨[],rfl,rfl,(λj m z=>by simp at z),Kp.refl⟩ (λi acc U f hP=>by
   obtain⟨d,rfl,lm,V,C⟩:=hP;have f:i<((N:Int)-1).toNat:=f;obtain⟨R,U',e2,W,J⟩:=Xo (T:=U) (k:=i+1) () M () () (P.kp C λz=>z) (C.lst _ _ (λz=>z) p) ();refine⟨.int ((i+1:Nat):Int),.ref R,U',?_,e2,d++[R],by rw[bz];rfl,by rw[bf,lm];rfl,λj m z=>?_,C.trans J⟩
   ·show(if i<((N:Int)-1).toNat then some (A.int<|1+(i:Int))else none)=_;rw[aS f,show 1+(i:Int)=((i+1:Nat):Int)by lia]
   ·rw[fR]at z;split at z
    ·exact(V j m z).kp J
    ·rename_i c;obtain⟨hj,e⟩:=aI.mp z;have:j=i:=by simp at hj;lia
     subst this;have:m=R:=by
      have:j-d.length=0:=()
      rw[this]at z;exact(aX z).symm
     rw[this];exact W) (λ_ _ _=>rfl) (by show((N:Int)-1).toNat<=_;lia)
 have O:(qj 1 (N:Int)).k=N-1:=by show((N:Int)-1).toNat=_;lia
 rw[O]at G;subst y1;refine⟨S'.length,_,?_,⟨d,jR,by unfold ntN;rw[aG,cA,G],λi m z=>?_⟩,(k1.trans kS).lay⟩
 ·unfold kj pT p7;dsimp[j8,lY,bools,lX,Nat.reduceAdd,Nat.reduceSub,e1,↓x1]
 ·have B:i<N-1:=by have:=(aI.mp z).1;lia
  unfold ntN;rw[aJ,aV,f7 B];exact(r1 i m z).kp Kp.refl.lay
end K71
namespace K71
open PySem L2 Am
open Eu (inj)
abbrev tP (o:ag):M2:=(Tb.tabs o o.length).1
abbrev tQ (o:ag):M2:=(Tb.tabs o o.length).2
structure Gd (o:ag):Prop where
 tw:zu 0 o [] []=some (tP o,tQ o)
 l4:o.length<=4
 l1:1<=o.length
def V8(o:ag):lZ (tq o) S=.ok (.int (o.length:Int)) S:=by
 show Am.R.ok (A.int ((o.map A.int).length:Int)) S=_;rw[aG]
abbrev UX (n:Nat)(a:ag):Os:=(inj n n).filter λb=>decide<|tP b=tP a
def OB{S:jF}{n:Nat}{a:ag}(h4:n<=4)(hg:∀o∈inj n n,Gd o)(ha:a∈inj n n)(la:a.length=n)(hl:(inj n n).length<=24):∃r S',ny [tq a] S=.ok (.ref r) S'/\jE S' r=some ((UX n a).map tq)/\S.length<=r/\kK S S':=by
 obtain⟨V,S1,e1,c,k1,_⟩:=Tp (S:=S) (n:=n) ();have c:jE S1 V=some ((inj n n).map tq):=c;have e0:=V8 (S:=S) a;rw[la]at e0;obtain⟨S2,f,k2⟩:=zd (cap:=[some 0]) (t:=qQ<|jI (sd false) (jI kI (eFn jU<|jC (jB 0) jH)<|eC<|.int 0)<|jI kI (eFn jU<|jC (jB 1) jH)<|eC<|.int 0) (e:=jB 0) (τ:=[tq a]) (S:=S) (S1:=S1) (src:=kD<|eFn qB<|jC (jY (f1 lZ)<|jC (jB 0) jH) jH) (kR (by dsimp[j8,lY,bools,uq,e0,e1]) c) c (λx=>decide<|tP (un x)=tP a) (λx=>x) (λx k T K=>by
  obtain⟨o,m,rfl⟩:=br.mp k;obtain⟨G,L,p,B,T1,f1,g,j⟩:=CQ (S:=T) (hg o m).tw;obtain⟨J,M,F,q,T2,f2,C,d⟩:=CQ (S:=T1) (hg a ha).tw;refine⟨T2,?_,j.trans d,λ_=>⟨T2,?_,Kp.refl⟩⟩
  ·show qQ (jI (sd false) (jI kI (eFn jU<|jC (jB 0) jH)<|eC<|.int 0)<|jI kI (eFn jU<|jC (jB 1) jH)<|eC<|.int 0) [tq o,tq a] T=_;rw[BB];dsimp[j8,lY,bools,uq,f1,f2,sP,Az<|(g.t.vp d).eq C.t]
  ·show jB 0 [tq o,tq a] T2=_;dsimp[j8,lY,uq])<|by rw[aG];lia
 have el:((((inj n n).map tq).filter λx=>decide<|tP (un x)=tP a).map λx=>x)=(UX n a).map tq:=by
  rw[List.map_id',iL];unfold UX;exact c7 (List.map tq) (List.filter_congr λo _=>by
   show decide (tP (un<|tq o)=tP a)=_;rw[BB])
 rw[el]at f;refine⟨S2.length,_,?_,jR,(k1.trans k2).len,(k1.trans k2).lay⟩;unfold ny sX tZ;dsimp[j8,lY,bools,lX,Nat.reduceAdd,Nat.reduceSub,↓f]
def TZ{S:jF}(o:ag)(h:o.length<=4):ud (tq o) S=.ok (.ref S.length) (S++[.lst<|o.map .int]):=rfl
def UR(h:Gd o):∃(rs qs:am) (n m L:Nat) (S1 S':jF),ud (tq o) S=.ok (.ref L) S1/\pL [.ref L] S1=.ok (.tup [.ref n,.ref m]) S'/\Tab S' n rs (tP o)/\Tab S' m qs (tQ o)/\kK S S':=by
 have c:=h.l4;obtain⟨rs,qs,n,m,S2,e2,d,e,k2,_⟩:=OF (S:=S++[.lst<|o.map .int]) (L:=S.length) jR ();exact⟨rs,qs,n,m,S.length,_,S2,TZ o c,e2,d,e,(show kK S _ from Kp.refl.lay).trans k2⟩
abbrev Rv (T:M2):ag:=T.map λr=>(r.length:Int)
def J5{S:jF}{n:Nat}{rs:am}{T:M2}{src:Ic}(h:Tab S n rs T)(hl:T.length<=100)(hs:src τ S0=.ok (kB n rs.length) S):jZ (none::cap) src (j4 0) lD (jY (f1 lZ)<|jC (jB 0) jH) τ S0=.ok (.ref S.length) (S++[.lst<|(Rv T).map .int]):=by
 have ln:=h.len;obtain⟨S1,x,k⟩:∃c,jZ (none::cap) src (j4 0) lD (jY (f1 lZ)<|jC (jB 0) jH) τ S0=.ok (.ref c.length) (c++[.lst<|(Rv T).map .int])/\c=S:=by
  obtain⟨ys,c,x,j,m⟩:=oK (cap:=cap) (e:=jY (f1 lZ)<|jC (jB 0) jH) (τ:=τ) (S:=S0) (S1:=S) (src:=src) (s:=kB n rs.length) hs
   (λi acc U=>acc=(Rv<|T.take i).map .int/\U=S) ⟨rfl,rfl⟩ (λi acc U d hP=>by
    obtain⟨rfl,rfl⟩:=hP;have d:i<rs.length:=d;have g:=(h.rows.get<|aF d).2;refine⟨.ref rs[i],.int ((T.getD i []).length:Int),U,rJ h.top<|by rw[aV,aF d];rfl,?_,?_,rfl⟩
    ·show jY (f1 lZ) (jC (jB 0) jH) (.ref rs[i]::lN cap τ) U=_;dsimp[j8,lY,bools,g,aG]
    ·have f:i<T.length:=()
     unfold Rv;rw[bY,aF f,bz,bz,aJ,aF f];rfl) (λacc U hP=>by
    rw[hP.2];have:=rO h.top;rw[aG]at this;exact this) (by show rs.length<=_;lia)
  rw[show(kB n rs.length).k=T.length from ln,bU]at j;subst j;exact⟨c,x,m⟩
 subst k;exact x
def Qc{S:jF}{n:Nat}{T:M2}(h:Tab S n rs T)(hl:T.length<=100):wW [.ref n] S=.ok (.ref S.length) (S++[.lst<|(Rv T).map .int]):=by
 have d:=h.top;have x:=J5 (cap:=[]) (src:=kD<|jB 0) (τ:=[.ref n]) (S0:=S) h hl (by
  have:=kR (c:=jB 0) (τ:=[.ref n]) (S:=S) (S1:=S) (by dsimp[j8,lY,bools]) d;rw[aG]at this;exact this)
 unfold wW DU DK;dsimp[j8,lY,bools,lX,Nat.reduceAdd,Nat.reduceSub,↓x]
end K71
namespace K71
open PySem L2 Am
def aa4{g:Nat}{t:Os}(hg:jE S g=some ((o::t).map tq))(h:Gd o)(hs:(tP o).length<=100):∃r S',nW [.ref g] S=.ok (.ref r) S'/\jE S' r=some ((Rv<|tP o).map .int)/\kK S S':=by
 obtain⟨e,d,n,m,L,S1,S2,e1,e2,c,f,k2⟩:=UR (S:=S) h;refine⟨S2.length,_,?_,jR,k2.lay (o:=.lst<|(Rv<|tP o).map .int)⟩;rw[bh]at hg;unfold nW wj v_;dsimp[j8,lY,bools,lX,Nat.reduceAdd,Nat.reduceSub,hg,sP,uq,e1,e2,Qc c hs]
def U9(h:Gd o):∃(m:Nat) (qs:am) (S':jF),kM [tq o] S=.ok (.ref m) S'/\Tab S' m qs (tQ o)/\kK S S':=by
 obtain⟨e,qs,n,m,L,S1,S2,e1,e2,d,c,k2⟩:=UR (S:=S) h;refine⟨m,qs,S2,?_,c,k2⟩;unfold kM rf qR;dsimp[j8,lY,bools,lX,Nat.reduceAdd,Nat.reduceSub,uq,e1,e2,yE]
structure Sc (S:jF)(r:Nat)(os:Os):Prop where
 ex:∃ms:am,jE S r=some (ms.map .ref)/\ms.length=os.length/\∀i m,ms[i]?=some m->∃qs,Tab S m qs<|tQ<|os.getD i []
def Sc.kp{r:Nat}{os:Os}(h:Sc S r os)(k:kK S S'):Sc S' r os:=by
 obtain⟨c,h1,h2,h3⟩:=h.ex;refine⟨c,k.lst _ _ (λz=>z) h1,h2,λi m z=>?_⟩;obtain⟨d,t⟩:=h3 i m z;exact⟨d,t.vp k⟩
def OZ{g:Nat}{os:Os}{e:Ex}{src:Ic}(hs:src τ S0=.ok (kB g (os.map tq).length) S)(hg:jE S g=some (os.map tq))(ll:os.length<=100)
  (step:∀o∈os,∀T:jF,∃(m:Nat) (qs:am) (T':jF),e (tq o::lN cap τ) T=.ok (.ref m) T'/\Tab T' m qs (tQ o)/\kK T T') :
  ∃r S',jZ (none::cap) src (j4 0) lD e τ S0=.ok (.ref r) S'/\Sc S' r os/\kK S S':=by
 obtain⟨ys,S',x,d,V,B,P,K⟩:=oK (cap:=cap) (e:=e) (τ:=τ) (S:=S0) (S1:=S) (src:=src) (s:=kB g (os.map tq).length) hs
  (λi acc U=>∃d:am,acc=d.map .ref/\d.length=i/\(∀j m,d[j]?=some m->∃qs,Tab U m qs<|tQ<|os.getD j [])/\kK S U) ⟨[],rfl,rfl,(λj m z=>by simp at z),Kp.refl⟩ (λi acc U f hP=>by
   obtain⟨d,rfl,M,G,p⟩:=hP;have f:i<(os.map tq).length:=f;rw[aG]at f;obtain⟨m,qs,O,e1,N,C⟩:=step os[i] (cj f) U;refine⟨tq os[i],.ref m,O,rJ (p.lst _ _ (λz=>z) hg)<|by rw[aV,aF f];rfl,e1,d++[m],by rw[bz];rfl,by rw[bf,M];rfl,λj F z=>?_,p.trans C⟩;rw[fR]at z;split at z
   ·obtain⟨q,J⟩:=G j F z;exact⟨q,J.vp C⟩
   ·rename_i c;obtain⟨L,_⟩:=aI.mp z;have:j=i:=by simp at L;lia
    subst this;have:F=m:=by
     have:j-d.length=0:=()
     rw[this]at z;exact(aX z).symm
    rw[this,aJ,aF f];exact⟨qs,N⟩) (λacc U hP=>by
   obtain⟨_,_,_,_,p⟩:=hP;exact rO<|p.lst _ _ (λz=>z) hg) (by show(os.map tq).length<=_;rw[aG];lia)
 rw[show(kB g (os.map tq).length).k=os.length from aG ..]at B;subst V;exact⟨S'.length,_,x,⟨d,jR,B,λi m z=>by
  obtain⟨qs,t⟩:=P i m z;exact⟨qs,t.vp Kp.refl.lay⟩⟩,K.lay⟩
abbrev sat (h:Os)(w:ag):Nat:=h.findIdx λo=>decide<|tQ o=tQ w
def VZ{r:Nat}{os:Os}{w:ag}(h:Sc S r os)(hm:Tab S m qs<|tQ w)(hi:sat os w<os.length):BO (.ref r) [.ref m] S=.ok (.int (sat os w:Nat)) S:=by
 obtain⟨d,h1,h2,h3⟩:=h.ex;have eq:∀(i:Nat) (z:Nat),d[i]?=some z->oX S 12 (.ref z) (.ref m)=some (decide<|tQ (os.getD i [])=tQ w):=λi z f=>by
  obtain⟨F,t⟩:=h3 i z f;exact t.eq hm
 have al:(d.map A.ref).all A.isRef=true:=by
  rw[all_map];exact eU.mpr λz _=>rfl
 have sm:∀z∈d.map A.ref,(oX S 12 z<|.ref m).isSome=true:=λz f=>by
  obtain⟨q,k,rfl⟩:=br.mp f;obtain⟨i,c,e⟩:=fP.mp k;rw[eq i q<|by rw[aF c,e]];rfl
 have C:(d.map A.ref).findIdx? (λz=>decide<|oX S 12 z (.ref m)=some true)=some (sat os w):=by
  rw[d8];have g0:∀(i:Nat) (c:i<(d.map A.ref).length),decide (oX S 12 (d.map A.ref)[i] (.ref m)=some true)=decide (tQ (os.getD i [])=tQ w):=λi c=>by
   have g:i<d.length:=by rw[aG]at c;exact c
   rw[dQ,eq i d[i] (aF g)];exact fX.mpr ⟨λz=>bK<|aX z,λz=>c7 some<|aY z⟩
  have gd:∀(i:Nat) (c:i<os.length),os.getD i []=os[i]:=λi c=>by rw[aJ,aF c];rfl
  refine⟨by rw[aG,h2];exact hi,?_,λj B=>?_⟩
  ·rw[g0,gd _ hi];exact List.findIdx_getElem (p:=λo=>decide<|tQ o=tQ w) (w:=hi)
  ·rw[g0,gd _ ()];have:=List.not_of_lt_findIdx (p:=λo=>decide<|tQ o=tQ w) B;exact Bool.eq_false_iff.mp this
 show opt (jE S r) _=_;rw[h1,j7,NG ⟨al,sm⟩,C,j7]
abbrev pr (w v:ag):A:=.tup [tq w,tq v]
abbrev z8 (g h:Os):ae:=g.map λw=>pr w<|h.getD (sat h w) []
def VU{r a:Nat}{g h:Os}{e:Ex}{src:Ic}(hs:src τ S0=.ok (kB a (g.map tq).length) S)(ha:jE S a=some (g.map tq))(hb:jE S b=some (h.map tq))(hc:Sc S r h)(hi:∀w∈g,sat h w<h.length)(ll:g.length<=100)
  (hcap:lN cap τ=[.ref b,.ref r])
  (step:∀w∈g,∀T:jF,∃(m:Nat) (qs:am) (T':jF),e [tq w,.ref b,.ref r] T=.ok (.ref m) T'/\Tab T' m qs (tQ w)/\kK T T') :
  ∃S',jZ (none::cap) src (j4 0) lD (pD<|jC (jB 0)<|jC (jI kI (jB 1)<|yI BO (jB 2)<|jC e jH) jH) τ S0=.ok (.ref S'.length) (S'++[.lst<|z8 g h])/\kK S S':=by
 obtain⟨S',x,k⟩:=zd (cap:=cap) (t:=lD) (e:=pD<|jC (jB 0)<|jC (jI kI (jB 1)<|yI BO (jB 2)<|jC e jH) jH) (τ:=τ) (S:=S0) (S1:=S) (src:=src) (xs:=g.map tq) hs ha (λ_=>true) (λx=>pr (un x)<|h.getD (sat h<|un x) []) (λx p T d=>⟨T,rfl,Kp.refl,λ_=>by
  obtain⟨w,hw,rfl⟩:=br.mp p;obtain⟨m,qs,T',e1,B,c⟩:=step w hw T;refine⟨T',?_,c⟩;rw[hcap,BB];have j:=(d.trans c).lst _ _ (λz=>z) hb;obtain⟨F,f,_⟩:=(hc.kp d).ex;have q:=VZ (hc.kp<|d.trans c) B<|hi w hw;have C:qZ (h.map tq) (sat h w:Int)=some (tq<|h.getD (sat h w) []):=sH rfl (by rw[aV,aF<|hi w hw,aJ,aF<|hi w hw];rfl);dsimp[j8,lY,bools,uq,f,e1,q,j,C,yH,Er];rfl⟩)<|by rw[aG];lia
 refine⟨S',?_,k⟩;have el:((((g.map tq).filter λ_=>true)).map λx=>pr (un x)<|h.getD (sat h<|un x) [])=z8 g h:=by
  unfold z8;rw[gb.mpr λ_ _=>rfl,bD];refine b9 λw _=>?_;show pr (un<|tq w) (h.getD (sat h<|un<|tq w) [])=_;rw[BB]
 rw[el]at x;exact x
end K71
namespace K71
open PySem L2 Am
abbrev Bh (g:Os):ag:=Rv<|tP<|g.headD []
structure Hg (g:Os):Prop where
 gd:∀o∈g,Gd o
 ne:g≠[]
 ll:g.length<=24
 sh:(tP<|g.headD []).length<=100
def Hg.one{g:Os}(h:Hg g):∃o t,g=o::t/\Gd o/\Bh g=Rv (tP o)/\(tP o).length<=100:=by
 cases g with
 | nil=>exact absurd rfl h.ne
 | cons o t=>exact⟨o,t,rfl,h.gd o<|aN ..,rfl,h.sh⟩
def so2{a:Nat}{g:Os}(hg:jE S a=some (g.map tq))(h:Hg g):∃r S',nW [.ref a] S=.ok (.ref r) S'/\jE S' r=some ((Bh g).map .int)/\kK S S':=by
 obtain⟨o,t,rfl,h1,h2,h3⟩:=h.one;rw[h2];exact aa4 hg h1 h3
def Zz{a:Nat}{g h:Os}(ha:jE S a=some (g.map tq))(hb:jE S b=some (h.map tq))(hg:Hg g)(hh:Hg h)(ne:Bh g≠Bh h):∃S',lK [.ref a,.ref b] S=.ex "NoPair" S'/\kK S S':=by
 obtain⟨r1,S1,e1,c,k1⟩:=so2 ha hg;obtain⟨r2,S2,e2,d,k2⟩:=so2 (k1.lst _ _ (λz=>z) hb) hh;refine⟨S2,?_,k1.trans k2⟩;have q:=CI<|M9 (k2.lst _ _ (λz=>z) c) d;rw[bw ne]at q;unfold lK vE vH;dsimp[j8,lY,bools,lX,Nat.reduceAdd,Nat.reduceSub,e1,e2,q,cM]
def aa2{S:jF}{a:Nat}{g h:Os}(ha:jE S a=some (g.map tq))(hb:jE S b=some (h.map tq))(hg:Hg g)(hh:Hg h)(eq:Bh g=Bh h)(hi:∀w∈g,sat h w<h.length):∃r S',lK [.ref a,.ref b] S=.ok (.ref r) S'/\jE S' r=some (z8 g h)/\S.length<=r/\kK S S':=by
 obtain⟨r1,S1,e1,J,k1⟩:=so2 ha hg;obtain⟨r2,S2,e2,K,k2⟩:=so2 (k1.lst _ _ (λz=>z) hb) hh;have q:=CI<|M9 (k2.lst _ _ (λz=>z) J) K;rw[aY eq]at q;have d:=k1.trans k2;have c:=d.lst _ _ (λz=>z) hb;have C:=d.lst _ _ (λz=>z) ha;have P:=hg.ll;have U:=hh.ll;obtain⟨L,S3,M,c3,k3⟩:=OZ (cap:=[]) (e:=eFn kM<|jC (jB 0) jH) (src:=kD<|jB 1) (τ:=[.ref a,.ref b,.unb]) (S0:=S2) (kR (by dsimp[j8,lY,bools]) c) c () (λo j T=>by
  obtain⟨m,p,B,e,t,k⟩:=U9 (S:=T)<|hh.gd o j;refine⟨m,p,B,?_,t,k⟩;show eFn kM (jC (jB 0) jH) [tq o] T=_;dsimp[j8,lY,bools,uq,e])
 have f:=k3.lst _ _ (λz=>z) C;obtain⟨G,N,O⟩:=VU (cap:=[some 1,some 2]) (e:=eFn kM<|jC (jB 0) jH) (src:=kD<|jB 0) (τ:=[.ref a,.ref b,.ref L]) (S0:=S3) (kR (by dsimp[j8,lY,bools]) f) f (k3.lst _ _ (λz=>z) c) c3 hi () rfl (λo j T=>by
  obtain⟨m,p,B,e,t,k⟩:=U9 (S:=T)<|hg.gd o j;refine⟨m,p,B,?_,t,k⟩;dsimp[j8,lY,bools,uq,e])
 have F:=(d.trans k3).trans O;refine⟨G.length,_,?_,jR,F.len,F.lay⟩;unfold lK vE vH;dsimp[j8,lY,bools,lX,Nat.reduceAdd,Nat.reduceSub,e1,e2,q,bR,↓M,↓N]
def Nv(h:Gd o):∃(m:Nat) (qs:am) (S':jF),jI kI (eFn jU<|jC (jB 0) jH) (eC<|.int 1)=jI kI (eFn jU<|jC (jB 0) jH) (eC<|.int 1)/\(∀τ,jI kI (eFn jU<|jC (jB 0) jH) (eC<|.int 1) (tq o::τ) S=.ok (.ref m) S')/\Tab S' m qs (tQ o)/\kK S S':=by
 obtain⟨j,d,e,c,T1,f1,f,g⟩:=CQ (S:=S) h.tw;exact⟨d,c,T1,rfl,λτ=>by dsimp[j8,lY,bools,uq,f1,yE],f.q,g⟩
def ZL{S:jF}{a:Nat}{g h:Os}(ha:jE S a=some (g.map tq))(hb:jE S b=some (h.map tq))(hg:Hg g)(hh:Hg h)(hi:∀w∈g,sat h w<h.length):∃r S',qA [.ref a,.ref b] S=.ok (.ref r) S'/\jE S' r=some (z8 g h)/\S.length<=r/\kK S S':=by
 have J:=hg.ll;have K:=hh.ll;obtain⟨B,S3,C,c3,k3⟩:=OZ (cap:=[]) (e:=jI kI (eFn jU<|jC (jB 0) jH)<|eC<|.int 1) (src:=kD<|jB 1) (τ:=[.ref a,.ref b,.unb]) (S0:=S) (kR (by dsimp[j8,lY,bools]) hb) hb () (λo d T=>by
  obtain⟨m,f,j,_,e,t,k⟩:=Nv (S:=T)<|hh.gd o d;exact⟨m,f,j,e _,t,k⟩)
 have c:=k3.lst _ _ (λz=>z) ha;obtain⟨q,F,G⟩:=VU (cap:=[some 1,some 2]) (e:=jI kI (eFn jU<|jC (jB 0) jH)<|eC<|.int 1) (src:=kD<|jB 0) (τ:=[.ref a,.ref b,.ref B]) (S0:=S3) (kR (by dsimp[j8,lY,bools]) c) c (k3.lst _ _ (λz=>z) hb) c3 hi () rfl (λo d T=>by
  obtain⟨m,f,j,_,e,t,k⟩:=Nv (S:=T)<|hg.gd o d;exact⟨m,f,j,e _,t,k⟩)
 have p:=k3.trans G;refine⟨q.length,_,?_,jR,p.len,p.lay⟩;unfold qA xB ya;dsimp[j8,lY,bools,lX,Nat.reduceAdd,Nat.reduceSub,↓C,↓F]
def aau{w v:ag}{k:Nat}:oX S (k+4) (pr w v) (pr w v)=some true:=by
 show pR (oX S<|k+3) [tq w,tq v] [tq w,tq v]=_;refine xQ λx c=>?_;have:∀o:ag,oX S (k+3) (tq o) (tq o)=some true:=λo=>by
  show pR (oX S<|k+2) (o.map .int) (o.map .int)=_;rw[qH,aY rfl]
 rcases bg.mp c with rfl|c
 ·exact this w
 ·rw[aM.mp c];exact this v
def VI{a:Nat}{g:Os}(ha:jE S a=some (z8 g h))(hb:jE S b=some (z8 g h)):oX S 12 (.ref a) (.ref b)=some true:=by
 show(jE S a).bind (λxs=>(jE S b).bind λys=>pR (oX S 11) xs ys)=_;rw[ha,bL,hb,bL];refine xQ λx c=>?_;obtain⟨w,_,rfl⟩:=br.mp c;exact aau (k:=7)
end K71
namespace K71
open PySem L2 Am
abbrev Me (g h:Os):am:=g.map λw=>h.findIdx λz=>decide<|z=h.getD (sat h w) []
abbrev SW (sp:am)(T:M2):M2:=sp.map λi=>sp.map λj=>(T.getD i []).getD j 0
theorem QW:∀(os:Os),(∀o∈os,o≠[])->Yh (os.map tq)=some os
 | [],_=>rfl
 | o::os,h=>by
  rw[bh];unfold Yh tq;dsimp only;rw[ints_map]
  cases d:o with
  | nil=>exact absurd d (h o<|aN ..)
  | cons x t=>
   show Option.map _ (Yh<|os.map tq)=_;rw[QW os λz c=>h z<|aK _ c];rfl
def Y8{h:Os}{v:ag}(hb:jE S b=some (h.map tq))(hn:∀o∈h,o≠[])(hv:v∈h):Cj (.ref b) [tq v] S=.ok (.int ((h.findIdx λz=>decide (z=v):Nat):Int)) S:=by
 have c:h.findIdx? (λz=>decide<|z=v)=some (h.findIdx λz=>decide<|z=v):=by
  rw[List.findIdx?_eq_some_iff_findIdx_eq];exact⟨List.findIdx_lt_length_of_exists ⟨v,hv,aY rfl⟩,rfl⟩
 show opt (jE S b) _=_;rw[hb,j7,QW h hn,j7];show opt (A.ints<|v.map .int) _=_;rw[ints_map,j7,c,j7]
def M4{a d:Nat}{g h:Os}(hb:jE S b=some (h.map tq))(hd:jE S d=some (z8 g h))(hn:∀o∈h,o≠[])(hi:∀w∈g,sat h w<h.length)(ll:g.length<=24) :
  ∃S',jZ [none,some 1] (kD<|jB 2) (j4 0) lD (yI Cj (jB 1)<|jC (jI kI (jB 0)<|eC<|.int 1) jH) [.ref a,.ref b,.ref d,.unb] S=.ok (.ref S'.length) (S'++[.lst<|(Me g h).map λ(k:Nat)=>A.int (k:Int)])/\kK S S':=by
 obtain⟨ys,S',x,f,j⟩:=oK (cap:=[some 1]) (e:=yI Cj (jB 1)<|jC (jI kI (jB 0)<|eC<|.int 1) jH) (τ:=[.ref a,.ref b,.ref d,.unb]) (S:=S) (S1:=S) (src:=kD<|jB 2) (s:=kB d (z8 g h).length) (kR (by dsimp[j8,lY,bools]) hd)
  (λi acc U=>acc=(Me (g.take i) h).map (λ(k:Nat)=>A.int (k:Int))/\U=S) ⟨rfl,rfl⟩ (λi acc U c hP=>by
   obtain⟨rfl,rfl⟩:=hP;have c:i<(z8 g h).length:=c;have hg:i<g.length:=by unfold z8 at c;rw[aG]at c;exact c
   have hw:=hi _<|cj hg;have hv:h.getD (sat h g[i]) []∈h:=by
    rw[aJ,aF hw];exact cj hw
   have m:=Y8 hb hn hv;refine⟨pr g[i] (h.getD (sat h g[i]) []),.int ((h.findIdx λz=>decide (z=h.getD (sat h g[i]) []):Nat):Int),U,rJ hd<|by unfold z8;rw[aV,aF hg];rfl,?_,?_,rfl⟩
   ·show yI Cj (jB 1) (jC (jI kI (jB 0)<|eC<|.int 1) jH) [pr g[i] (h.getD (sat h g[i]) []),.ref b] U=_;unfold pr;dsimp[j8,lY,bools,hb,yE,uq,m]
   ·unfold Me;rw[bY,aF hg,bz,bz];rfl) (λacc U hP=>by rw[hP.2];exact rO hd) (by show(z8 g h).length<=_;unfold z8;rw[aG];lia)
 rw[show(kB d (z8 g h).length).k=g.length from by show(z8 g h).length=_;unfold z8;rw[aG],bU]at f;subst f;exact⟨S',x,by rw[j];exact Kp.refl⟩
def RE{S:jF}{sp:am}{T:M2}(hs:jE S s=some (sp.map λ(k:Nat)=>A.int (k:Int)))(hT:Tq S m T)(hi:i<T.length)(hj:∀j∈sp,j<(T.getD i []).length)(ll:sp.length<=24) :
  jZ [none,some 2,some 0] (kD<|jB 1) (j4 0) lD (jI kI (jI kI (jB 1)<|jB 2)<|jB 0) [.int i,.ref s,.ref m] S=.ok (.ref S.length) (S++[.lst<|(sp.map λj=>(T.getD i []).getD j 0).map .int]):=by
 obtain⟨d,h1,h2⟩:=hT.ex;have f:i<d.length:=by rw[h2.len];exact hi
 have g:=(h2.get<|aF f).2;have B:qZ (d.map A.ref) (i:Int)=some (.ref d[i]):=sH rfl (by rw[aV,aF f];rfl);obtain⟨ys,C,x,p,q⟩:=oK (cap:=[some 2,some 0]) (e:=jI kI (jI kI (jB 1)<|jB 2)<|jB 0) (τ:=[.int i,.ref s,.ref m]) (S:=S) (S1:=S) (src:=kD<|jB 1) (s:=kB s (sp.map λ(k:Nat)=>A.int (k:Int)).length) (kR (by dsimp[j8,lY,bools]) hs)
  (λk acc U=>acc=((sp.take k).map λj=>(T.getD i []).getD j 0).map .int/\U=S) ⟨rfl,rfl⟩ (λk acc U c hP=>by
   obtain⟨rfl,rfl⟩:=hP;have c:k<(sp.map λ(k:Nat)=>A.int (k:Int)).length:=c;rw[aG]at c;have t:qZ ((T.getD i []).map A.int) (sp[k]:Int)=some (.int<|(T.getD i []).getD sp[k] 0):=AQ rfl<|hj _<|cj c;refine⟨.int (sp[k]:Int),.int<|(T.getD i []).getD sp[k] 0,U,rJ hs<|by rw[aV,aF c];rfl,?_,?_,rfl⟩
   ·show jI kI (jI kI (jB 1)<|jB 2) (jB 0) [.int (sp[k]:Int),.ref m,.int i] U=_;dsimp[j8,lY,bools,h1,B,g,t]
   ·rw[bY,aF c,bz,bz];rfl) (λacc U hP=>by rw[hP.2];exact rO hs) (by show(sp.map λ(k:Nat)=>A.int (k:Int)).length<=_;rw[aG];lia)
 rw[show(kB s (sp.map λ(k:Nat)=>A.int (k:Int)).length).k=sp.length from aG ..,bU]at p;subst p;rw[q]at x;exact x
def Sv{sp:am}{T:M2}(hs:jE S s=some (sp.map λ(k:Nat)=>A.int (k:Int)))(hT:Tq S m T)(hi:∀i∈sp,i<T.length/\∀j∈sp,j<(T.getD i []).length)(ll:sp.length<=24) :
  ∃R S',jZ [none,some 1,some 0] (kD<|jB 1) (j4 0) lD (jZ [none,some 2,some 0] (kD<|jB 1) (j4 0) lD<|jI kI (jI kI (jB 1)<|jB 2)<|jB 0) [.ref m,.ref s] S=.ok (.ref R) S'/\Tq S' R (SW sp T)/\kK S S':=by
 obtain⟨ys,S',x,d,B,p,t⟩:=oK (cap:=[some 1,some 0]) (e:=jZ [none,some 2,some 0] (kD<|jB 1) (j4 0) lD<|jI kI (jI kI (jB 1)<|jB 2)<|jB 0) (τ:=[.ref m,.ref s]) (S:=S) (S1:=S) (src:=kD<|jB 1) (s:=kB s (sp.map λ(k:Nat)=>A.int (k:Int)).length) (kR (by dsimp[j8,lY,bools]) hs)
  (λk acc U=>∃d:am,acc=d.map .ref/\Rows U d ((sp.take k).map λi=>sp.map λj=>(T.getD i []).getD j 0)/\kK S U) ⟨[],rfl,trivial,Kp.refl⟩ (λk acc U c hP=>by
   obtain⟨d,rfl,q,g⟩:=hP;have c:k<(sp.map λ(k:Nat)=>A.int (k:Int)).length:=c;rw[aG]at c;obtain⟨h1,h2⟩:=hi _<|cj c;have f:=g.lst _ _ (λz=>z) hs;refine⟨.int (sp[k]:Int),.ref U.length,_,rJ f<|by rw[aV,aF c];rfl,RE f (hT.kp g) h1 h2 ll,d++[U.length],by rw[bz];rfl,?_,g.lay⟩;rw[bY,aF c,bz];exact Rows.Vt q Kp.refl.lay jR) (λacc U hP=>by
   obtain⟨_,_,_,g⟩:=hP;exact rO<|g.lst _ _ (λz=>z) hs) (by show(sp.map λ(k:Nat)=>A.int (k:Int)).length<=_;rw[aG];lia)
 rw[show(kB s (sp.map λ(k:Nat)=>A.int (k:Int)).length).k=sp.length from aG ..,bU]at p;subst B;exact⟨S'.length,_,x,⟨d,jR,p.mono λr _ xs z=>j9 z⟩,t.lay⟩
def Yd{a d N:Nat}{g h:Os}{Ts:List M2}(hb:jE S b=some (h.map tq))(hd:jE S d=some (z8 g h))(hn:∀o∈h,o≠[])(hi:∀w∈g,sat h w<h.length)(ll:g.length<=24)(lT:Ts.length<=24)
  (hT:∀T:jF,jE T b=some (h.map tq)->∃R T',kj [.ref b] T=.ok (.ref R) T'/\T3 T' R Ts/\kK T T') (hb2:∀T∈Ts,∀i∈Me g h,i<T.length/\∀j∈Me g h,j<(T.getD i []).length) :
  ∃R S',pH [.ref a,.ref b,.ref d] S=.ok (.ref R) S'/\T3 S' R (Ts.map<|SW<|Me g h)/\kK S S':=by
 obtain⟨S1,K,k1⟩:=M4 (a:=a) hb hd hn hi ll;obtain⟨S2,p⟩:∃S2,S2=S1++[O.lst<|(Me g h).map λ(k:Nat)=>A.int (k:Int)]:=⟨_,rfl⟩;have k2:kK S S2:=by rw[p];exact k1.lay
 have Y:jE S2 S1.length=some ((Me g h).map λ(k:Nat)=>A.int (k:Int)):=by rw[p];exact jR
 rw[<- p]at K;obtain⟨R,S3,e3,L,k3⟩:=hT S2<|k2.lst _ _ (λz=>z) hb;obtain⟨t,G,m2,V⟩:=L.ex;have l3:=k3.lst _ _ (λz=>z) Y;obtain⟨ys,S',x,f,y1,M,y3,W⟩:=oK (cap:=[some 3]) (e:=jZ [none,some 1,some 0] (kD<|jB 1) (j4 0) lD<|jZ [none,some 2,some 0] (kD<|jB 1) (j4 0) lD<|jI kI (jI kI (jB 1)<|jB 2)<|jB 0) (τ:=[.ref a,.ref b,.ref d,.ref S1.length]) (S:=S2) (S1:=S3) (src:=kD<|pZ kj<|jC (jB 1) jH) (s:=kB R (t.map A.ref).length) (kR (by dsimp[j8,lY,bools,e3]) G)
  (λk acc U=>∃f:am,acc=f.map .ref/\f.length=k/\(∀i r,f[i]?=some r->Tq U r (SW (Me g h)<|Ts.getD i []))/\kK S3 U) ⟨[],rfl,rfl,(λj m z=>by simp at z),Kp.refl⟩ (λk acc U C hP=>by
   obtain⟨f,rfl,Z,hr,q⟩:=hP;have C:k<(t.map A.ref).length:=C;rw[aG]at C;have F:k<Ts.length:=()
   have tk:=(V k _<|aF C).kp q;have mT:Ts.getD k []∈Ts:=by rw[aJ,aF F];exact cj F
   obtain⟨R2,U2,e2,P,J⟩:=Sv (q.lst _ _ (λz=>z) l3) tk (hb2 _ mT) (by unfold Me;rw[aG];exact ll);refine⟨.ref t[k],.ref R2,U2,rJ (q.lst _ _ (λz=>z) G)<|by rw[aV,aF C];rfl,e2,f++[R2],by rw[bz];rfl,by rw[bf,Z];rfl,λj m z=>?_,q.trans J⟩;rw[fR]at z;split at z
   ·exact(hr j m z).kp J
   ·rename_i c;obtain⟨hj,_⟩:=aI.mp z;have:j=k:=by simp at hj;lia
    subst this;have:m=R2:=by
     have:j-f.length=0:=()
     rw[this]at z;exact(aX z).symm
    rw[this];exact P) (λacc U hP=>by
   obtain⟨_,_,_,_,q⟩:=hP;exact rO<|q.lst _ _ (λz=>z) G) (by show(t.map A.ref).length<=_;rw[aG];lia)
 rw[show(kB R (t.map A.ref).length).k=t.length from aG ..]at M;subst y1;refine⟨S'.length,_,?_,⟨f,jR,by rw[aG];lia,λi m z=>?_⟩,((k2.trans k3).trans W).lay⟩
 ·unfold pH yw xE;dsimp[j8,lY,bools,lX,Nat.reduceAdd,Nat.reduceSub,↓K,↓x]
 ·have B:i<Ts.length:=by have:=(aI.mp z).1;lia
  have:=(y3 i m z).kp (S':=S'++[.lst<|f.map A.ref]) Kp.refl.lay;rw[aJ,aV,aF B];rw[aJ,aF B]at this;exact this
def aaq{R:Nat}(h:T3 S R Ts)(h':T3 S Q Ts):oX S 12 (.ref R) (.ref Q)=some true:=by
 obtain⟨d,G,N,t⟩:=h.ex;obtain⟨c,L,O,K⟩:=h'.ex;show(jE S R).bind (λxs=>(jE S Q).bind λys=>pR (oX S 11) xs ys)=_;rw[G,bL,L,bL];have f:∀(d c:am),d.length=c.length->(∀i m q,d[i]?=some m->c[i]?=some q->oX S 11 (.ref m) (.ref q)=some true)->pR (oX S 11) (d.map .ref) (c.map .ref)=some true:=λd=>by
  induction d with
  | nil=>intro c e _;cases c with
   | nil=>rfl
   | cons q c=>cases e
  | cons m d B=>intro c e h;cases c with
   | nil=>cases e
   | cons q c=>
    show(oX S 11 (.ref m)<|.ref q).bind (λp=>(pR (oX S 11) (d.map .ref)<|c.map .ref).map λq=>p && q)=_;rw[h 0 m q rfl rfl,B c (Nat.succ.inj e) λi C q' z k=>h (i+1) C q' (by simpa using z)<|by simpa using k];rfl
 refine f d c () λi m q j J=>?_;obtain⟨P,c1,c2⟩:=(t i m j).ex;obtain⟨F,M,g⟩:=(K i q J).ex;show(jE S m).bind (λxs=>(jE S q).bind λys=>pR (oX S 10) xs ys)=_;rw[c1,bL,M,bL,yt c2 g,aY rfl]
end K71
namespace K71
open PySem L2 Am
abbrev U7:ae:=[.str<|PySem.Str.ofString "NoWord",.str<|PySem.Str.ofString "NoNumber",.str<|PySem.Str.ofString "NoPair",.str<|PySem.Str.ofString "TooMany",.str<|PySem.Str.ofString "NoTables",.str<|PySem.Str.ofString "NoText",.str<|PySem.Str.ofString "NoRow",.str<|PySem.Str.ofString "NoName"]
abbrev nmd:ae:=[.bl false,.bl false,.bl true,.bl false,.bl false,.bl false,.bl false,.bl false]
def UE:∃S',nL [.exn "NoPair"] S=.ok (.str<|PySem.Str.ofString "NoPair") S'/\kK S S':=by
 obtain⟨S1,g⟩:∃S1,S1=S++[O.lst [.bl false,.bl false,.bl true,.bl false]]:=⟨_,rfl⟩;have K:newL [A.bl false,.bl false,.bl true,.bl false] S=.ok (.ref S.length) S1:=by rw[g];exact nF (show 4<=16777216 by decide)
 have k1:kK S S1:=by rw[g];kl_no
 have M:jE S1 S.length=some [.bl false,.bl false,.bl true,.bl false]:=by rw[g];exact jR
 obtain⟨S2,f⟩:∃S2,S2=S1++[O.lst [.bl false,.bl false,.bl false,.bl false]]:=⟨_,rfl⟩;have P:newL [A.bl false,.bl false,.bl false,.bl false] S1=.ok (.ref S1.length) S2:=by rw[f];exact nF (show 4<=16777216 by decide)
 have k2:kK S1 S2:=by rw[f];kl_no
 have W:jE S2 S1.length=some [.bl false,.bl false,.bl false,.bl false]:=by rw[f];exact jR
 obtain⟨S3,j⟩:∃S3,S3=S2++[O.lst nmd]:=⟨_,rfl⟩;have k3:kK S2 S3:=by rw[j];kl_no
 have l3:jE S3 S2.length=some nmd:=by rw[j];exact jR
 have Z:nE (.ref S.length) (.ref S1.length) S2=.ok (.ref S2.length) S3:=by rw[j];exact Vr (k2.lst _ _ (λz=>z) M) W (show 4+4<=16777216 by decide)
 obtain⟨c,d⟩:∃c,c=S3++[O.lst U7]:=⟨_,rfl⟩;have F:newL U7 S3=.ok (.ref S3.length) c:=by rw[d];exact nF (show 8<=16777216 by decide)
 unfold U7 at F;have G:kK S3 c:=by rw[d];kl_no
 have Y:jE c S3.length=some U7:=by rw[d];exact jR
 have k:=G.lst _ _ (λz=>z) l3;obtain⟨C,q,k5⟩:=yS (cap:=[some 2,some 1]) (t:=ue<|jI kI (jB 2)<|jB 0) (e:=jI kI (jB 1)<|jB 0) (τ:=[.exn "NoPair",.ref S2.length,.ref S3.length,.unb]) (S:=c) (S1:=c) (src:=qk<|eC<|.int 8) (s:=qj 0 8) (xs:=(List.range 8).map λm:Nat=>A.int (m:Int)) (wQ (by dsimp[j8,lY,bools])<|sj ⋯ ⋯) ⋯ (λ_=>False) (λT _ i J=>by
   rw[aG,cA]at J;show(if i<((8:Int)-0).toNat then some (A.int<|0+i)else none)=_;rw[aS (),aV,f7 J,cX];rfl) (λ_ _=>rfl) (λx=>decide<|Ze x=2) (λx=>U7.getD (Ze x).toNat .non) (λx V T B=>by
   obtain⟨m,p,rfl⟩:=br.mp V;have p:=c5.mp p;have L:=B.lst _ _ (λz=>z) k;have tw:=B.lst _ _ (λz=>z) Y;have hn:qZ nmd (m:Int)=some (.bl<|decide<|(m:Int)=2):=by
    have:m=0\/m=1\/m=2\/m=3\/m=4\/m=5\/m=6\/m=7:=()
    rcases this with rfl|rfl|rfl|rfl|rfl|rfl|rfl|rfl<;>rfl
   have hw:qZ U7 (m:Int)=some (U7.getD m .non):=by
    have:m=0\/m=1\/m=2\/m=3\/m=4\/m=5\/m=6\/m=7:=()
    rcases this with rfl|rfl|rfl|rfl|rfl|rfl|rfl|rfl<;>rfl
   refine⟨T,?_,Kp.refl,λ_=>⟨T,?_,Kp.refl⟩⟩
   ·show ue (jI kI (jB 2)<|jB 0) [.int m,.ref S3.length,.ref S2.length] T=_;dsimp[j8,lY,bools,L,hn];rfl
   ·show jI kI (jB 1) (jB 0) [.int m,.ref S3.length,.ref S2.length] T=_;dsimp[j8,lY,bools,tw,hw];rfl) ⋯
 have el:((((List.range 8).map λm:Nat=>A.int (m:Int)).filter λx=>decide<|Ze x=2).map λx=>U7.getD (Ze x).toNat .non)=[.str<|PySem.Str.ofString "NoPair"]:=rfl;rw[el]at q;have N:jE (C++[O.lst [A.str<|PySem.Str.ofString "NoPair"]]) C.length=some [.str<|PySem.Str.ofString "NoPair"]:=jR;refine⟨_,?_,(((((k1.trans k2).trans k3).trans G).trans k5).lay (o:=.lst [.str<|PySem.Str.ofString "NoPair"]))⟩;have U:((((0+1:Nat)):Int) == 1)=true:=rfl;unfold nL rT sD;dsimp[j8,lY,bools,lX,Nat.reduceAdd,Nat.reduceSub,K,P,Z,F,↓q,N,sP,bC,eg,U,bR,show(((1:Nat):Int) == 1)=true from rfl]
def eq_str{t:Str}:sd false (.str t) (.str t) S=.ok (.bl true) S:=Az (k:=true)<|by show some (t == t)=_;rw[cG]
def UZ{a:Nat}{g h:Os}(ha:jE S a=some (g.map tq))(hb:jE S b=some (h.map tq))(hg:Hg g)(hh:Hg h)(ne:Bh g≠Bh h):∃S',lI [.ref a,.ref b] S=.ok (.bl true) S'/\kK S S':=by
 obtain⟨S1,e1,k1⟩:=Zz ha hb hg hh ne;obtain⟨S2,e2,k2⟩:=UE (S:=S1);refine⟨S2,?_,k1.trans k2⟩;unfold lI rW sI;dsimp[j8,lY,bools,lX,Nat.reduceAdd,Nat.reduceSub,e1,List.replicate,e2,eq_str]
def YE{a:Nat}{g:Os}(ha:jE S a=some (g.map tq))(hg:Hg g):∃S',jZ [none] (kD<|jI kI (eFn jU<|jC (jI kI (jB 0)<|eC<|.int 0) jH)<|eC<|.int 0) (j4 0) lD (jY (f1 lZ)<|jC (jB 0) jH) [.ref a] S=.ok (.ref S'.length) (S'++[.lst<|(Bh g).map .int])/\kK S S':=by
 obtain⟨o,t,rfl,h1,h2,h3⟩:=hg.one;obtain⟨k,m,e,f,T1,f1,d,j⟩:=CQ (S:=S) h1.tw;rw[bh]at ha;rw[h2];refine⟨T1,J5 (cap:=[]) d.t h3 ?_,j⟩;have:=kR (c:=jI kI (eFn jU<|jC (jI kI (jB 0)<|eC<|.int 0) jH)<|eC<|.int 0) (τ:=[.ref a]) (S:=S) (S1:=T1) (by dsimp[j8,lY,bools,ha,sP,uq,f1]) d.t.top;rw[aG]at this;exact this
def WI{L:Nat}{ps:List<|Nat×Os}{src:Ic}(hs:src τ S0=.ok (kB L (ps.map λp=>A.ref p.1).length) S)(hL:jE S L=some (ps.map λp=>A.ref p.1))(hp:∀p∈ps,jE S p.1=some (p.2.map tq)/\Hg p.2)(ll:ps.length<=24) :
  ∃(ss:am) (S':jF),jZ [none] src (j4 0) lD (jZ [none] (kD<|jI kI (eFn jU<|jC (jI kI (jB 0)<|eC<|.int 0) jH)<|eC<|.int 0) (j4 0) lD<|jY (f1 lZ)<|jC (jB 0) jH) τ S0=.ok (.ref S'.length) (S'++[.lst<|ss.map .ref])/\ss.length=ps.length/\(∀(j s:Nat) (p:Nat×Os),ss[j]?=some s->ps[j]?=some p->jE S' s=some ((Bh p.2).map .int))/\kK S S':=by
 obtain⟨ys,S',x,ss,K,g,J,B⟩:=oK (cap:=[]) (e:=jZ [none] (kD<|jI kI (eFn jU<|jC (jI kI (jB 0)<|eC<|.int 0) jH)<|eC<|.int 0) (j4 0) lD<|jY (f1 lZ)<|jC (jB 0) jH) (τ:=τ) (S:=S0) (S1:=S) (src:=src) (s:=kB L (ps.map λp=>A.ref p.1).length) hs
  (λi acc U=>∃ss:am,acc=ss.map .ref/\ss.length=i/\(∀(j s:Nat) (p:Nat×Os),ss[j]?=some s->ps[j]?=some p->jE U s=some ((Bh p.2).map .int))/\kK S U) ⟨[],rfl,rfl,(λj m p z=>by simp at z),Kp.refl⟩ (λi acc U d hP=>by
   obtain⟨ss,rfl,G,h1,f⟩:=hP;have d:i<(ps.map λp=>A.ref p.1).length:=d;rw[aG]at d;obtain⟨C,t⟩:=hp ps[i] (cj d);obtain⟨U1,e1,q⟩:=YE (f.lst _ _ (λz=>z) C) t;refine⟨.ref ps[i].1,.ref U1.length,_,rJ (f.lst _ _ (λz=>z) hL)<|by rw[aV,aF d];rfl,e1,ss++[U1.length],by rw[bz];rfl,by rw[bf,G];rfl,λj s p z w=>?_,(f.trans q).lay⟩;rw[fR]at z;split at z
   ·exact j9 (q.lst _ _ (λz=>z)<|h1 j s p z w)
   ·rename_i c;obtain⟨F,_⟩:=aI.mp z;have:j=i:=by simp at F;lia
    subst this;have:s=U1.length:=by
     have:j-ss.length=0:=()
     rw[this]at z;exact(aX z).symm
    rw[aF d]at w
    cases w
    rw[this];exact jR) (λacc U hP=>by
   obtain⟨_,_,_,_,f⟩:=hP;exact rO<|f.lst _ _ (λz=>z) hL) (by show(ps.map λp=>A.ref p.1).length<=_;rw[aG];lia)
 rw[show(kB L (ps.map λp=>A.ref p.1).length).k=ps.length from aG ..]at g;subst K;exact⟨ss,S',x,g,J,B⟩
def aas{n:Nat}(h:jE S n=some xs):yO (.ref n) (.ty "list") S=.ok (.bl true) S:=by
 show opt ((jE S n).map _) _=_;rw[h];rfl
def SY{n k:Nat}(h:jE S n=some (List.replicate k<|.bl true)):NS (.ref n) S=.ok (.bl true) S:=by
 show opt (jE S n) _=_;rw[h];have:A.Mj (List.replicate k<|.bl true)=some (List.replicate k true):=by
  have:=VQ (λ_:Nat=>true) (List.range k)
  rwa [jo,jo,cA]at this
 show opt (A.Mj _) _=_;rw[this];show Am.R.ok (A.bl<|(List.replicate k true).all λb=>b) S=_;rw[show((List.replicate k true).all λb=>b)=true from eU.mpr λx c=>(List.mem_replicate.mp c).2]
def TN{r:Nat}{g:Os}{c:Ex}(hr:jE S r=some (z8 g h))(hc:c τ S=.ok (.ref r) S)(ll:g.length<=24):∃S',jY (f1 NS) (jC (jZ [none] (kD c) (j4 0) lD<|jY (f2 yO)<|jC (jB 0)<|jC (eC<|.ty "tuple") jH) jH) τ S=.ok (.bl true) S'/\kK S S':=by
 have j:(z8 g h).length=g.length:=aG ..;obtain⟨T1,d,k⟩:=zd (cap:=[]) (t:=lD) (e:=jY (f2 yO)<|jC (jB 0)<|jC (eC<|.ty "tuple") jH) (τ:=τ) (S:=S) (S1:=S) (src:=kD c) (xs:=z8 g h) (kR hc hr) hr (λ_=>true) (λ_=>.bl true) (λx f U m=>⟨U,rfl,Kp.refl,λ_=>by
  obtain⟨w,_,rfl⟩:=br.mp f;refine⟨U,?_,Kp.refl⟩;show jY (f2 yO) (jC (jB 0)<|jC (eC<|.ty "tuple") jH) (pr w (h.getD (sat h w) [])::lN [] τ) U=_;unfold pr;dsimp[j8,lY,bools];rfl⟩) ()
 rw[gb.mpr λ_ _=>rfl,jo,j]at d;refine⟨_,?_,k.lay (o:=.lst<|List.replicate g.length<|.bl true)⟩;dsimp[j8,lY,bools,↓d,SY (S:=T1++[O.lst<|List.replicate g.length<|.bl true]) jR]
end K71
namespace K71
open PySem L2 Am
open Eu (inj)
abbrev o4 (i:Nat):ag:=([[1,2,3,4],[1,2,4,3],[1,3,2,4],[1,3,4,2],[1,4,2,3],[1,4,3,2],[2,1,3,4],[2,1,4,3],[2,3,1,4],[2,3,4,1],[2,4,1,3],[2,4,3,1],[3,1,2,4],[3,1,4,2],[3,2,1,4],[3,2,4,1],[3,4,1,2],[3,4,2,1],[4,1,2,3],[4,1,3,2],[4,2,1,3],[4,2,3,1],[4,3,1,2],[4,3,2,1]]:Os).getD i []
abbrev u4 (l:List<|am):List Os:=l.map λm=>m.map o4
abbrev Gq1:List Os:=[[[1]]]
abbrev Gq2:List Os:=[[[1,2]],[[2,1]]]
abbrev Gq3:List Os:=[[[1,2,3]],[[1,3,2],[3,1,2]],[[2,1,3],[2,3,1]],[[3,2,1]]]
abbrev Gq4:List Os:=u4 [[0],[1,4,18],[2,3,12],[5,19,22],[6,8,9],[7,10],[11,20,21],[13,16],[14,15,17],[23]]
abbrev Gs:List Os:=Gq1++Gq2++Gq3++Gq4
abbrev Nt:List (List M2):=[[],[[[-1]]],[[[1]]],[[[-1]],[[-1]]],[[[-1,1],[0,1]],[[1,0],[1,-1]]],[[[1,0],[1,-1]],[[-1,1],[0,1]]],[[[1]],[[1]]],[[[-1]],[[-1]],[[-1]]],[[[-1,0,0],[0,-1,1],[0,0,1]],[[-1,1,0],[0,1,0],[0,1,-1]],[[1,0,0],[1,-1,0],[0,0,-1]]],[[[-1,0,1],[0,-1,0],[0,0,1]],[[1,0,0],[1,-1,0],[1,0,-1]],[[-1,1,0],[0,1,0],[0,0,-1]]],[[[-1,1,0],[0,1,0],[0,0,1]],[[1,0,0],[1,-1,1],[0,0,1]],[[1,0,0],[0,1,0],[0,1,-1]]],[[[1,0,0],[1,-1,0],[0,0,-1]],[[-1,1,0],[0,1,0],[0,1,-1]],[[-1,0,0],[0,-1,1],[0,0,1]]],[[[1,0],[1,-1]],[[-1,1],[0,1]],[[1,0],[1,-1]]],[[[-1,0,1],[0,1,0],[0,0,1]],[[1,0,0],[0,1,0],[1,1,-1]],[[1,0,0],[0,-1,1],[0,0,1]]],[[[1,0],[1,-1]],[[-1,1],[0,1]],[[1,0],[1,-1]]],[[[1,0,0],[0,1,0],[0,1,-1]],[[1,0,0],[1,-1,1],[0,0,1]],[[-1,1,0],[0,1,0],[0,0,1]]],[[[1]],[[1]],[[1]]]]
abbrev VO (g:Os):List M2:=(((Gs.zip Nt).find? λe=>decide<|e.1=g).map (·.2)).getD []
def aad:∀g∈Gs,ntN (g.headD []).length g=VO g:=by decide +kernel
def abB:∀o∈inj 1 1,zu 0 o [] []=some (tP o,tQ o)/\o.length=1:=by decide +kernel
def acd:∀o∈inj 2 2,zu 0 o [] []=some (tP o,tQ o)/\o.length=2:=by decide +kernel
def abK:∀o∈inj 3 3,zu 0 o [] []=some (tP o,tQ o)/\o.length=3:=by decide +kernel
def abQ:∀o∈inj 4 4,zu 0 o [] []=some (tP o,tQ o)/\o.length=4:=by decide +kernel
def acA:∀a∈inj 1 1,UX 1 a∈Gs:=by decide +kernel
def abx:∀a∈inj 2 2,UX 2 a∈Gs:=by decide +kernel
def ab4:∀a∈inj 3 3,UX 3 a∈Gs:=by decide +kernel
def abJ:∀a∈inj 4 4,UX 4 a∈Gs:=by decide +kernel
structure Hn (n:Nat):Prop where
 n1:1<=n
 n4:n<=4
 gd:∀o∈inj n n,zu 0 o [] []=some (tP o,tQ o)/\o.length=n
 hl:(inj n n).length<=24
 hG:∀a∈inj n n,UX n a∈Gs
def aaT:Hn 1:=⟨by decide,by decide,abB,by decide +kernel,acA⟩
def aac:Hn 2:=⟨by decide,by decide,acd,by decide +kernel,abx⟩
def aaB:Hn 3:=⟨by decide,by decide,abK,by decide +kernel,ab4⟩
def SI:Hn 4:=⟨by decide,by decide,abQ,by decide +kernel,abJ⟩
theorem Hn.Gd{n:Nat}(h:Hn n):∀o∈inj n n,Gd o:=λo c=>⟨(h.gd o c).1,by rw[(h.gd o c).2];exact h.n4,by rw[(h.gd o c).2];exact h.n1⟩
def ZM:∀g∈Gs,(∀o∈g,zu 0 o [] []=some (tP o,tQ o)/\o.length<=4/\1<=o.length)/\g≠[]/\g.length<=24/\(tP<|g.headD []).length<=100:=by decide +kernel
def Zv:∀g∈Gs,∀o∈g,o.Perm (Fw.rg (g.headD []).length)/\Iv.inv o<8:=by decide +kernel
def abX:∀g∈Gs,∀o∈g,∀e∈Kl.K o,Po.val e.2 1≠0->Po.val e.2 1=1:=by decide +kernel
def Z8:∀g∈Gs,1<=(g.headD []).length/\(g.headD []).length<5:=by decide +kernel
def Mr:∀g∈Gs,∀h∈Gs,Bh g=Bh h->(∀w∈g,sat h w<h.length)/\(∀T∈VO h,∀i∈Me g h,i<T.length/\∀j∈Me g h,j<(T.getD i []).length)/\VO g=(VO h).map (SW<|Me g h)/\(VO h).length<=24:=by decide +kernel
def zp{g:Os}(h:g∈Gs):Hg g:=by
 obtain⟨h1,h2,h3,d⟩:=ZM g h;exact⟨λo c=>⟨(h1 o c).1,(h1 o c).2.1,(h1 o c).2.2⟩,h2,h3,d⟩
def Vx{g:Os}(h:g∈Gs)(hb:jE S b=some (g.map tq)):∃R S',kj [.ref b] S=.ok (.ref R) S'/\T3 S' R (VO g)/\kK S S':=by
 have hg:=zp h;have:=hg.ll;rw[<- aad g h];exact WK (Z8 g h).2 (Zv g h) (abX g h) hb () hg.ne (Z8 g h).1
def Np{S:jF}{a:Nat}{g h:Os}(ha:jE S a=some (g.map tq))(hb:jE S b=some (h.map tq))(hg:g∈Gs)(hh:h∈Gs)(e:Bh g=Bh h):∃r S',lK [.ref a,.ref b] S=.ok (.ref r) S'/\jE S' r=some (z8 g h)/\S.length<=r/\kK S S':=aa2 ha hb (zp hg) (zp hh) e (Mr g hg h hh e).1
def Wj{a d:Nat}{g h:Os}(hb:jE S b=some (h.map tq))(hd:jE S d=some (z8 g h))(hg:g∈Gs)(hh:h∈Gs)(e:Bh g=Bh h):∃R S',pH [.ref a,.ref b,.ref d] S=.ok (.ref R) S'/\T3 S' R (VO g)/\kK S S':=by
 obtain⟨p1,p2,p3,p4⟩:=Mr g hg h hh e;rw[p3];exact Yd (N:=0) hb hd (λo c=>by
  have:=((zp hh).gd o c).l1;intro z;rw[z]at this
  cases this) p1 (zp hg).ll p4 (λT f=>Vx hh f) p2
end K71
namespace K71
open PySem L2 Am
open Eu (inj)
def Ox{n:Nat}{o:ag}(h:o.Perm<|nN 1<|(n:Int)+1):o∈inj n n:=Eu.Ti.mpr h
abbrev six:ae:=[.int 4,.int 3,.int 4,.int 2,.int 1,.int 4]
def Yy{q:Int}(h0:0<=q)(h1:q<6):∃n:Nat,qZ six q=some (.int n)/\Hn n:=by
 have:q=0\/q=1\/q=2\/q=3\/q=4\/q=5:=()
 rcases this with rfl|rfl|rfl|rfl|rfl|rfl
 ·exact⟨4,rfl,SI⟩
 ·exact⟨3,rfl,aaB⟩
 ·exact⟨4,rfl,SI⟩
 ·exact⟨2,rfl,aac⟩
 ·exact⟨1,rfl,aaT⟩
 ·exact⟨4,rfl,SI⟩
def ZN{n:Nat}(h:Hn n):Hn (1+n % 4):=by
 have h1:=h.n1;have c:=h.n4;have:n=1\/n=2\/n=3\/n=4:=()
 rcases this with rfl|rfl|rfl|rfl
 ·exact aac
 ·exact aaB
 ·exact SI
 ·exact aaT
def if5{n:Nat}{d:Int}(h:Hn n)(u1:uV x1=λS=>.ok x1 S)(e:kF [x1,.int 6] S=.ok (.int d) S'):∃n2:Nat,Hn n2/\wD (qQ<|jI (sd false) (eFn kF<|jC (jB 1)<|jC (eC<|.int 6) jH)<|eC<|.int 5) (kc (jI nE (eC<|.int 1)<|jI yK (jB 2)<|eC<|.int 4)<|j4 2) pJ [x0,x1,.int n,x3,.unb,.unb,.unb,.unb] S=.nx [x0,x1,.int n2,x3,.unb,.unb,.unb,.unb] S':=by
 by_cases c:d=5
 ·refine⟨1+n % 4,ZN h,?_⟩;have b:(d == 5)=true:=by rw[c];rfl
  have m:yK (.int (n:Int)) (.int 4) S'=.ok (.int<|(n:Int) % 4) S':=B4 ⋯;dsimp[j8,lY,bools,u1,e,b,m];rw[show(1:Int)+(n:Int) % 4=((1+n % 4:Nat):Int)by lia]
 ·refine⟨n,h,?_⟩;have b:(d == 5)=false:=by rw[b8];exact c
  dsimp[j8,lY,bools,u1,e,b]
def YV{α:Type}{l:List α}(h:l.length=2):∃a b,l=[a,b]:=by
 match l,h with
 | [a,b],_=>exact⟨a,b,rfl⟩
def WD{r1 r2:Nat}{g h:Os}(l1:jE S r1=some (g.map tq))(l2:jE S r2=some (h.map tq))(mg:g∈Gs)(mh:h∈Gs):∃S',(jX (kc (jZ [none] (kD<|nX<|jC (jB 3)<|jC (jB 4) jH) (j4 0) lD<|jZ [none] (kD<|jI kI (eFn jU<|jC (jI kI (jB 0)<|eC<|.int 0) jH)<|eC<|.int 0) (j4 0) lD<|jY (f1 lZ)<|jC (jB 0) jH)<|j4 5)
 (jX (wD (qQ<|jI (sd true) (jI kI (jB 5)<|eC<|.int 0)<|jI kI (jB 5)<|eC<|.int 1)
 (kZ<|D4 (eFn lI<|jC (jB 3)<|jC (jB 4) jH)<|eFn lI<|jC (jB 4)<|jC (jB 3) jH)
 pJ)
 (jX (kc (eFn qA<|jC (jB 3)<|jC (jB 4) jH)<|j4 6)
 (jX (kc (pZ lK<|jC (jB 3)<|jC (jB 4) jH)<|j4 7)
 (jX (wD (Up (EZ<|ue<|jY (f2 yO)<|jC (jB 7)<|jC (eC<|.ty "list") jH)<|Up (EZ<|ue<|jY (f1 NS)<|jC (jZ [none] (kD<|jB 7) (j4 0) lD<|jY (f2 yO)<|jC (jB 0)<|jC (eC<|.ty "tuple") jH) jH)<|qQ<|jI (sd true) (jB 7)<|jB 6)
 (kZ<|eC<|.bl false)
 pJ)
 (jX (mL<|Th CM<|jB 7)
 (kZ<|D4 (jI (sd false) (pZ lK<|jC (jB 3)<|jC (jB 4) jH)<|jB 6)<|jI (sd false) (pZ kj<|jC (jB 3) jH)<|eFn pH<|jC (jB 3)<|jC (jB 4)<|jC (jB 6) jH)))))))
 [x0,x1,x2,.ref r1,.ref r2,.unb,.unb,.unb] S=.rt (.bl true) S':=by
 have hg:=zp mg;have N:=zp mh;have lL:jE (S++[O.lst [.ref r1,.ref r2]]) S.length=some [.ref r1,.ref r2]:=jR;obtain⟨ss,S1,k,ls,h1,k1⟩:=WI (S0:=S) (S:=S++[O.lst [.ref r1,.ref r2]]) (L:=S.length) (ps:=[(r1,g),(r2,h)]) (src:=kD<|nX<|jC (jB 3)<|jC (jB 4) jH) (τ:=[x0,x1,x2,.ref r1,.ref r2,.unb,.unb,.unb]) (kR (by dsimp[j8,lY,bools]) lL) lL (λp hp=>by
  rcases bg.mp hp with rfl|hp
  ·exact⟨j9 l1,hg⟩
  ·rw[aM.mp hp];exact⟨j9 l2,N⟩)<|show 2<=24 by decide
 obtain⟨T,U,rfl⟩:=YV ls;have k1:kK S S1:=(show kK S _ from Kp.refl.lay).trans k1;obtain⟨S2,d⟩:∃S2,S2=S1++[O.lst<|[T,U].map .ref]:=⟨_,rfl⟩;have k2:kK S S2:=by rw[d];exact k1.lay
 have lS:jE S2 S1.length=some [.ref T,.ref U]:=by rw[d];exact jR
 have w1:jE S2 T=some ((Bh g).map .int):=by rw[d];exact j9 (h1 0 T (r1,g) rfl rfl)
 have w2:jE S2 U=some ((Bh h).map .int):=by rw[d];exact j9 (h1 1 U (r2,h) rfl rfl)
 rw[<- d]at k;have q:=CI<|M9 w1 w2;have P:=k2.lst _ _ (λz=>z) l1;have K:=k2.lst _ _ (λz=>z) l2;by_cases c:Bh g=Bh h
 ·rw[aY c]at q;obtain⟨rd,S3,e3,l3,n3,k3⟩:=ZL P K hg N (Mr g mg h mh c).1;have f:=k3.lst _ _ (λz=>z) P;have j:=k3.lst _ _ (λz=>z) K;obtain⟨e,V,e4,l4,n4,G⟩:=Np f j mg mh c;have ld:=mq l3;have d4:=G.lst _ _ (λz=>z) l3;obtain⟨F,e5,k5⟩:=TN (S:=V) (c:=jB 7) (τ:=[x0,x1,x2,.ref r1,.ref r2,.ref S1.length,.ref rd,.ref e]) l4 (by dsimp[j8,lY]) hg.ll;have m5:=k5.lst _ _ (λz=>z) l4;have d5:=k5.lst _ _ (λz=>z) d4;have q5:=CI<|VI m5 d5;obtain⟨M,t⟩:∃M,M=F.set e (O.lst []):=⟨_,rfl⟩;have W:Kp (·=e) F M:=by rw[t];exact Kp.refl.set (.inl rfl)
  have e6:CM (.ref e) [] F=.ok .non M:=by
   rw[t];show opt (jE F e) _=_;rw[m5];rfl
  have g15:=k5.lst _ _ (λz=>z)<|G.lst _ _ (λz=>z) f;have Y:=k5.lst _ _ (λz=>z)<|G.lst _ _ (λz=>z) j;have b1:=mq f;have b2:=mq j;have B:=W.lst _ _ (by show ¬r1=e;lia) g15;have C:=W.lst _ _ (by show ¬r2=e;lia) Y;have d6:=W.lst _ _ (by show ¬rd=e;lia) d5;obtain⟨r7,S7,e7,l7,n7,J⟩:=Np B C mg mh c;have q7:=Az<|VI l7<|J.lst _ _ (λz=>z) d6;obtain⟨R8,S8,e8,t8,k8⟩:=Vx mg<|J.lst _ _ (λz=>z) B;obtain⟨R9,S9,e9,t9,k9⟩:=Wj (a:=r1) (k8.lst _ _ (λz=>z)<|J.lst _ _ (λz=>z) C) (k8.lst _ _ (λz=>z)<|J.lst _ _ (λz=>z) d6) mg mh c;have Z:T3 S9 R8 (VO g):=by
   obtain⟨ms,a1,a2,a3⟩:=t8.ex;exact⟨ms,k9.lst _ _ (λz=>z) a1,a2,λi m z=>(a3 i m z).kp k9⟩
  have q9:=Az<|aaq Z t9;refine⟨S9,?_⟩;dsimp[j8,lY,bools,↓k,lS,sP,yE,q,bR,e3,e4,aas l4,↓e5,q5,m5,e6,e7,q7,e8,e9,q9]
 ·rw[bw c]at q;obtain⟨S3,e3,k3⟩:=UZ P K hg N c;obtain⟨V,e4,G⟩:=UZ (k3.lst _ _ (λz=>z) K) (k3.lst _ _ (λz=>z) P) N hg λz=>c z.symm;refine⟨V,?_⟩;dsimp[j8,lY,bools,↓k,lS,sP,yE,q,cM,e3,e4]
def WT(ns:ag)(hl:ns.length<=63):∃S',BS [.frz<|ns.map .int] []=.ok (.bl true) S':=by
 obtain⟨e,B⟩:∃e:jF,e=[]:=⟨_,rfl⟩;rw[<- B];obtain⟨W,p⟩:=JV (S:=e) (ns:=ns) (k:=0) ⋯;obtain⟨S1,e1,V,k1⟩:=Ko (S:=e) (c:=W) (k:=1) ⋯ ⋯;have lb:e.length<S1.length:=by
  obtain⟨_,_,z,_⟩:=V;exact mq z
 obtain⟨T1,f⟩:∃T1,T1=S1++[O.lst six]:=⟨_,rfl⟩;have M:newL six S1=.ok (.ref S1.length) T1:=by rw[f];exact nF (show 6<=16777216 by decide)
 have lT:jE T1 S1.length=some six:=by rw[f];exact jR
 have Z:kK S1 T1:=by rw[f];kl_no
 have bT:=V.kp Z λz=>z;obtain⟨q,S2,e2,q0,q1,b2,k2⟩:=digit (m:=6) bT ⋯ ⋯;have U:=k2.lst _ _ (by show ¬S1.length=e.length;lia) lT;obtain⟨n,L,hn⟩:=Yy q0 q1;have n1:=hn.n1;have n4:=hn.n4;obtain⟨a,S3,e3,pa,P,k3⟩:=FF (n:=(n:Int)) b2 () ();have e3:mK [.ref e.length,.int n] S2=.ok (tq a) S3:=e3;have t:=Ox pa;obtain⟨r1,S4,e4,l4,g4,k4⟩:=OB (S:=S3) n4 hn.Gd t (hn.gd a t).2 hn.hl;have b4:=P.kp k4 λz=>z;obtain⟨d,g,Y,d0,d1,b5,k5⟩:=digit (m:=6) b4 ⋯ ⋯;have K:e.length<S3.length:=by
  obtain⟨_,_,z,_⟩:=P;exact mq z
 have N:=k5.lst _ _ (by show ¬r1=e.length;lia) l4;obtain⟨G,hn2,x5⟩:=if5 (x0:=.frz<|ns.map .int) (x1:=.ref e.length) (x3:=.ref r1) hn rfl Y;have m1:=hn2.n1;have m4:=hn2.n4;obtain⟨c1,C⟩:=JV (S:=g) (ns:=ns) (k:=1) ⋯;obtain⟨S6,e6,b6,k6⟩:=Ko (S:=g) (c:=c1) (k:=2) ⋯ ⋯;obtain⟨b,T,F,pb,b7,k7⟩:=FF (n:=(G:Int)) b6 () ();have F:mK [.ref g.length,.int G] S6=.ok (tq b) T:=F;have J:=Ox pb;obtain⟨r2,S8,e8,l8,g8,k8⟩:=OB (S:=T) m4 hn2.Gd J (hn2.gd b J).2 hn2.hl;have lr:=mq N;have j:=k8.lst _ _ (λz=>z) (k7.lst _ _ (by show ¬r1=g.length;lia)<|k6.lst _ _ (λz=>z) N);obtain⟨S9,x9⟩:=WD (x0:=.frz<|ns.map .int) (x1:=.ref e.length) (x2:=.int G) j l8 (hn.hG a t)<|hn2.hG b J;refine⟨S9,?_⟩;unfold six at M U L;unfold BS MD Pc;dsimp[j8,lY,bools,lX,Nat.reduceAdd,Nat.reduceSub,p,e1,M,e2,U,L,uq,e3,e4,↓x5,C,e6,F,e8,↓x9]
end K71
namespace K71
open PySem L2 Am
def all_mk{l:PySem.W.OpenLaw}{w:ah}{K:au}{h:aq}{mg:Str->bd}{fa:ak}(X:K.In h)(G:h.Ns mainGlobals mg)(hfa:mg "law" = some (.ref fa))
  (a1:Df K "is_whole" vR)
  (a2:Df K "need_pair" uX)
  (a3:Df K "is_exchange" sA)
  (a4:Df K "exchanged_places" n9)
  (a5:Df K "exchanged" uo)
  (a6:Df K "falls" Dz)
  (a7:Df K "as_polynomial" p8)
  (a8:Df K "plus" GN)
  (a9:Df K "times" C6)
  (a10:Df K "put_before" sW)
  (a11:Df K "as_sum" zK)
  (a12:Df K "need_like" uO)
  (a13:Df K "added" Dl)
  (a14:Df K "scaled" zI)
  (a15:Df K "by_exchange" rS)
  (a16:Df K "number_at_one" pX)
  (a17:Df K "kept_by_fall" qP)
  (a18:Df K "found_kept" qu)
  (a19:Df K "leads_among" r9)
  (a20:Df K "first_greater" qe)
  (a21:Df K "put_into_rows" p_)
  (a22:Df K "tables" z_)
  (a23:Df K "shape" DO)
  (a24:Df K "number_at" u5)
  (a25:Df K "number_tables" qd)
  (a26:Df K "shape_of" v5)
  (a27:Df K "second_table" qK)
  (a28:Df K "matched" xR)
  (a29:Df K "_law_cell" wm)
  (a30:Df K "_law_bag" yh)
  (a31:Df K "_law_mixed" ug)
  (a32:Df K "_law_digit" vc)
  (a33:Df K "_law_order" uT)
  (a34:Df K "_law_tables" tN)
  (a35:Df K "_law_all" yb)
  (a36:Df K "_law_hearth" tu)
  (a37:Df K "_law_due" yq)
  (a38:Df K "_law_led" xP)
  (a39:Df K "_law_word_of" se)
  (a40:Df K "_law_refused" sG)
  (a41:Df K "law" NR)
  (ac2:PySem.W.nsIn K mainGlobals "isinstance" = some none)
  (ac4:PySem.W.nsIn K mainGlobals "bool" = some none)
  (ac5:PySem.W.nsIn K mainGlobals "int" = some none)
  (ac6:PySem.W.nsIn K mainGlobals "len" = some none)
  (ac7:PySem.W.nsIn K mainGlobals "list" = some none)
  (ac8:PySem.W.nsIn K mainGlobals "tuple" = some none)
  (ac9:PySem.W.nsIn K mainGlobals "range" = some none)
  (ac_:PySem.W.nsIn K mainGlobals "sorted" = some none)
  (ada:PySem.W.nsIn K mainGlobals "dict" = some none)
  (adb:PySem.W.nsIn K mainGlobals "enumerate" = some none)
  (ade:PySem.W.nsIn K mainGlobals "abs" = some none)
  (adf:PySem.W.nsIn K mainGlobals "ValueError" = some none)
  (adg:PySem.W.nsIn K mainGlobals "all" = some none)
  {a_AT_A_FALL:ak} (adh:PySem.W.nsIn K mainGlobals "AT_A_FALL" = some (some<|.ref a_AT_A_FALL)) (kp_AT_A_FALL:Zg K a_AT_A_FALL=some [((-1:Int),(1:Int)),((1:Int),(-1:Int))])
  {U C_NoPair C_NoWord C_TooMany C_NoNumber C_NoName C_NoRow C_NoText C_NoTables:ak} (u0:PySem.W.nsIn K mainGlobals "UnderError" = some (some<|.ref U)) (u1:L2.mroIn K U=some VV)
  (aah:ExcK K U "NoPair" C_NoPair)
  (aam:ExcK K U "NoWord" C_NoWord)
  (n_TooMany:PySem.W.nsIn K mainGlobals "TooMany" = some (some<|.ref C_TooMany))
  (n_NoNumber:PySem.W.nsIn K mainGlobals "NoNumber" = some (some<|.ref C_NoNumber))
  (n_NoName:PySem.W.nsIn K mainGlobals "NoName" = some (some<|.ref C_NoName))
  (n_NoRow:PySem.W.nsIn K mainGlobals "NoRow" = some (some<|.ref C_NoRow))
  (n_NoText:PySem.W.nsIn K mainGlobals "NoText" = some (some<|.ref C_NoText))
  (n_NoTables:PySem.W.nsIn K mainGlobals "NoTables" = some (some<|.ref C_NoTables))
  (k_NoWord_TooMany:PySem.W.kitOne K (.ref C_NoWord) (.ref C_TooMany)=some false)
  (k_NoPair_TooMany:PySem.W.kitOne K (.ref C_NoPair) (.ref C_TooMany)=some false)
  (k_NoWord_NoPair:PySem.W.kitOne K (.ref C_NoWord) (.ref C_NoPair)=some false)
  (k_NoPair_NoPair:PySem.W.kitOne K (.ref C_NoPair) (.ref C_NoPair)=some true)
  (k_NoWord_NoNumber:PySem.W.kitOne K (.ref C_NoWord) (.ref C_NoNumber)=some false)
  (k_NoPair_NoNumber:PySem.W.kitOne K (.ref C_NoPair) (.ref C_NoNumber)=some false)
  (k_NoWord_NoWord:PySem.W.kitOne K (.ref C_NoWord) (.ref C_NoWord)=some true)
  (k_NoPair_NoWord:PySem.W.kitOne K (.ref C_NoPair) (.ref C_NoWord)=some false)
  (k_NoWord_NoName:PySem.W.kitOne K (.ref C_NoWord) (.ref C_NoName)=some false)
  (k_NoPair_NoName:PySem.W.kitOne K (.ref C_NoPair) (.ref C_NoName)=some false)
  (k_NoWord_NoRow:PySem.W.kitOne K (.ref C_NoWord) (.ref C_NoRow)=some false)
  (k_NoPair_NoRow:PySem.W.kitOne K (.ref C_NoPair) (.ref C_NoRow)=some false)
  (k_NoWord_NoText:PySem.W.kitOne K (.ref C_NoWord) (.ref C_NoText)=some false)
  (k_NoPair_NoText:PySem.W.kitOne K (.ref C_NoPair) (.ref C_NoText)=some false)
  (k_NoWord_NoTables:PySem.W.kitOne K (.ref C_NoWord) (.ref C_NoTables)=some false)
  (k_NoPair_NoTables:PySem.W.kitOne K (.ref C_NoPair) (.ref C_NoTables)=some false)
  : ∃fd:FuncData,(∀(s:aA) (v:af),BindsTo s fd ⟨[v],[]⟩ [("_law_script",v)])/\∀base:aq,K.In base->base.Ns mainGlobals mg->FnOk l.prog w K mg base rQ 25 fa fd ["_law_script"] (sO K 1 BS):=by
 obtain⟨f,fd,a,F⟩:=a41;have e:=hfa.symm.trans (cV X G a)
 cases e
 have acN:=cV X G n_TooMany;have acO:=cV X G aah.n;have acP:=cV X G n_NoNumber;have acQ:=cV X G aam.n;have acR:=cV X G n_NoName;have acS:=cV X G n_NoRow;have acT:=cV X G n_NoText;have acU:=cV X G n_NoTables;have q:=bZ X G ac2;have abV:=bZ X G ac4;have abW:=bZ X G ac5;have c:=bZ X G ac6;have k:=bZ X G ac7;have p:=bZ X G ac8;have j:=bZ X G ac9;have abd:=bZ X G ac_;have T:=bZ X G ada;have Z:=bZ X G adb;have acL:=bZ X G ade;have acV:=bZ X G adf;have acX:=bZ X G adg;have g:∃a,mg "AT_A_FALL" = some (.ref a)/\Zg K a=some [((-1:Int),(1:Int)),((1:Int),(-1:Int))]:=⟨a_AT_A_FALL,cV X G adh,kp_AT_A_FALL⟩;refine⟨fd,λs v=>(by obtain⟨_,_,_,_,_,_,_,_,_,rfl,_,_⟩:=F.ex;exact .of_eq rfl),λbase _ _=>?_⟩;have E:En l.prog w K mg base:=⟨h,X,G⟩;have abY:=a1.kA E (λF=>Em F q abV abW)<|FP λ_ _ _ _ _ _ _=>rfl;have ace:=a2.kX E (λF=>DB F aah c)<|BI λ_ _ _ _ _ _ _ _=>rfl;have ab2:=a3.kA E (λF=>zE F abY)<|BI λ_ _ _ _ _ _ _ _=>rfl;have ab7:=a4.kA E (λF=>vM F k p)<|us3 λ_ _ _ _ _ _ _ _ _=>rfl;have J:=a5.kX E (λF=>DN F aam c ab2 ab7)<|BI λ_ _ _ _ _ _ _ _=>rfl;have m:=a6.kA E (λF=>Ny F j c)<|FP λ_ _ _ _ _ _ _=>rfl;have P:=a7.kA E (λF=>xA F abd)<|FP λ_ _ _ _ _ _ _=>rfl;have ab_:=a8.kA E (λF=>RH F T P)<|BI λ_ _ _ _ _ _ _ _=>rfl;have M:=a9.kA E (λF=>QA F P)<|BI λ_ _ _ _ _ _ _ _=>rfl;have B:=a10.kA E (λF=>A9 F ab_)<|us3 λ_ _ _ _ _ _ _ _ _=>rfl;have C:=a11.kA E (λF=>LY F abd)<|FP λ_ _ _ _ _ _ _=>rfl;have aco:=a12.kX E (λF=>CC F ace)<|BI λ_ _ _ _ _ _ _ _=>rfl;have abn:=a13.kX E (λF=>O7 F aco B C)<|BI λ_ _ _ _ _ _ _ _=>rfl;have abo:=a14.kA E (λF=>LG F B M C)<|BI λ_ _ _ _ _ _ _ _=>rfl;have acp:=a15.kX E (λF=>zV F k g B J m M C)<|BI λ_ _ _ _ _ _ _ _=>rfl;have Y:=a16.kA E (λF=>yi F T)<|FP λ_ _ _ _ _ _ _=>rfl;have d:∀{Fs:ae->jF->R A} {kr:Nat},AN l.prog w K mg base (5+2 * kr) "found_kept" l9 Fs->AN l.prog w K mg base (5+2 * kr+1) "kept_by_fall" nh (kP lz<|k_ Fs):=λG=>a17.kX E (λF=>yJ F J abn abo acp Y m G)<|us3 λ_ _ _ _ _ _ _ _ _=>rfl;have acu:=a18.rX E (λF hm hk hb=>ur F m d hm hk hb 8)<|BI λ_ _ _ _ _ _ _ _=>rfl;have acI:=a19.kX E (λF=>zl F acu Y)<|FP λ_ _ _ _ _ _ _=>rfl;have acB:=a20.kA E (λF=>yk F c)<|BI λ_ _ _ _ _ _ _ _=>rfl;have acF:=a21.kA E (λF=>xV F c acB)<|BI λ_ _ _ _ _ _ _ _=>rfl;have L:=a22.kA E (λF=>Mc F Z c acF)<|FP λ_ _ _ _ _ _ _=>rfl;have acK:=a23.kA E (λF=>Pj F c)<|FP λ_ _ _ _ _ _ _=>rfl;have acJ:=a24.kA E (λF=>Dv F m)<|us4 λ_ _ _ _ _ _ _ _ _ _=>rfl;have V:=a25.kX E (λF=>xK F j c acI acJ)<|FP λ_ _ _ _ _ _ _=>rfl;have abp:=a26.kA E (λF=>EW F k acK L)<|FP λ_ _ _ _ _ _ _=>rfl;have abr:=a27.kA E (λF=>yN F k L)<|FP λ_ _ _ _ _ _ _=>rfl;have N:=a28.kX E (λF=>Hi F aah abp abr)<|BI λ_ _ _ _ _ _ _ _=>rfl;have abC:=a29.kA E (λF=>EB F c)<|BI λ_ _ _ _ _ _ _ _=>rfl;have abw:=a30.kA E (λF=>Gv F acL)<|BI λ_ _ _ _ _ _ _ _=>rfl;have abt:=a31.kA E (λF=>CS F)<|FP λ_ _ _ _ _ _ _=>rfl;have O:=a32.kA E (λF=>CD F j abt)<|BI λ_ _ _ _ _ _ _ _=>rfl;have abT:=a33.kA E (λF=>DQ F k j c p O)<|BI λ_ _ _ _ _ _ _ _=>rfl;have t:=a34.kA E (λF=>Bb F Z c j)<|FP λ_ _ _ _ _ _ _=>rfl;have acM:=a35.kA E (λF=>GD F j)<|FP λ_ _ _ _ _ _ _=>rfl;have abR:=a36.kA E (λF=>Be F c acM t)<|FP λ_ _ _ _ _ _ _=>rfl;have acY:=a37.kA E (λF=>Ht F t)<|BI λ_ _ _ _ _ _ _ _=>rfl;have acZ:=a38.kA E (λF=>G1 F V)<|us3 λ_ _ _ _ _ _ _ _ _=>rfl;have acW:=a39.kH E (λF=>Ax F aam aah acN acO acP acQ acR acS acT acU k_NoWord_TooMany k_NoPair_TooMany k_NoWord_NoPair k_NoPair_NoPair k_NoWord_NoNumber k_NoPair_NoNumber k_NoWord_NoWord k_NoPair_NoWord k_NoWord_NoName k_NoPair_NoName k_NoWord_NoRow k_NoPair_NoRow k_NoWord_NoText k_NoPair_NoText k_NoWord_NoTables k_NoPair_NoTables q j acV c)<|FP λ_ _ _ _ _ _ _=>rfl;have abU:=a40.kA E (λF=>zS F u0 u1 aam aah N acW)<|BI λ_ _ _ _ _ _ _ _=>rfl;exact WU F c acX q p k abw abC O abR abT t abU acY N V acZ
def walk{l:PySem.W.OpenLaw}{q:aj}{XP:(Str->bd)->aq->Prop}{YP:ah->aq->Prop}{d:DefRec}{K:Params->au}(hn:l.most=some 63)(hdf:d.params.defaults=[])
  (hY:∀(w:ah) (h:aq),YP w h->(K w.params).In h)
  (F:∀(w:ah) (mg:Str->bd) (fa:ak) (h:aq),(K w.params).In h->h.Ns mainGlobals mg->mg d.name=some (.ref fa) ->
   ∃fd:FuncData,(∀(s:aA) (u:af),BindsTo s fd ⟨[u],[]⟩ [("_law_script",u)])/\∀base:aq,(K w.params).In base->base.Ns mainGlobals mg->FnOk l.prog w (K w.params) mg base rQ 25 fa fd ["_law_script"] (sO (K w.params) 1 BS)) :
  PySem.W.WalkO q loose XP YP l.row.toRowW d [] (λf vs=>PySem.call f vs):=
 L2.Ui (n:=63) (k:=25) (x := "_law_script") (CX:=λ_=>rQ) (sp:=λw=>sO (K w.params) 1 BS) hn ⋯ hdf ⟨rfl,by decide,by decide,rfl⟩ hY F (λ_ H a ns c e hS=>Lu e hS<|WT ns c) λ_ _ _ _ _ z=>z
end K71
open PySem PySem.W PyProof.Rows
namespace PySem.W.Fast
local macro_rules|`(command|universe $x*)=>do return Lean.mkNullNode (←x.mapM λx=>`(command|def $x:ident:=Nat))
universe tw329136532853725558 tw4447054023305865355 tw11091424586776182006 tw14322775855714440754 tw15257553229928697051 tw9964716888780540596 tw6242640329836486995 tw13489572095454394806 tw3728315189792578295 tw11703585354311784524 tw3473249408616932038 tw18347297913028974677 tw2013653042879784280 tw6379691219632910088 tw3644570663030010817 tw8602824355156613126 tw9818407077408764362 tw15450003116082497180 tw11422244920939616516 tw3089240693287509693 tw6383179627569164926 tw603354794640912898 tw6430607176344842205 tw9272155810929709060 tw9904254539059462322 tw5586135801763249227 tw772210124089548179 tw6295331089984565387 tw1199232871200310505 tw8691349511206311971 tw9323323064710520695 tw15541804291275667255 tw12357613393334374813 tw14235869189844412555 tw14044619071000030456 tw7455490395378333796 tw11687204760093592803 tw630750881507567650 tw7774177999457902436 tw17291306011450427467 tw1611132517667138097 tw12925003170574559755 tw11664660429023083978 tw7948210496022448950 tw4260170125100348676 tw7594802505567639478 tw13105457712150948634 tw3559588427597505143 tw13194261461519467033 tw411387286476875155 tw13096742506462971586 tw1930924291877735999 tw3635648585142797824 tw7860252651827568062 tw14117638559460227689 tw12919879642158285865 tw15630922971519830521 tw7667287472673558115 tw8694341628688517531 tw12119199340666168851 tw8391272669783745746 tw532083537904118906 tw9936098922699568986 tw18278182650774923134 tw8859854359990737127 tw11331494638754049676 tw18245359307304138493 tw15037841692077372993 tw14385857224753574057 tw3250792107253017878 tw9876474043567762737 tw359222594925553777 tw14607657149615024352 tw7724268608315625853 tw3285655315378248224 tw14702170282992777028 tw16785709868471381537 tw6083355821646801814 tw4004737289588873682 tw4700104981081129979 tw13860242195484093705 tw13019980777791276529 tw9443414861247027410 tw1093266260993039218 tw4662744274755404412 tw12675946339791610822 tw10235160095611872668 tw4926499697130694894 tw7292780251379028258 tw12704671791808754052 tw18402997694230952573 tw16509372578151743293 tw16950373222844053608 tw1584529865620005847 tw10540040993122757473 tw729099645938677120 tw689974843776145833 tw2796876353620690005 tw10693494838795314941 tw11443982657290260554 tw5772773422751043597 tw6260462193994071166 tw3429382429643779883 tw10414869353268689490 tw2386508452474799770 tw12124083507075034896 tw14240874969913461921 tw18219719940494335673 tw3021117041462784755 tw7341489722244896700 tw1963669055300593771 tw9920878241391489691 tw16134550896544218896 tw5442521935994231445 tw13321168736394733610 tw10681059240181041206 tw15397535519988088727 tw18338811647870490996 tw14599009785250263259 tw9645487611358459755 tw14602844286226970253 tw9047741721124408827 tw16319959493593002310 tw226599495975346874 tw4915464151242441703 tw9871510716951679014 tw2706412687078435989 tw14864688914931576696 tw15906363112099658995 tw8695098599327290321 tw11897993404696046066 tw3160692346065448582 tw16108366446009715136 tw12971086846137307977 tw1500947700440553016 tw2501359907489463822 tw11982516186715744675 tw4161875971216176913 tw914176796731759887 tw10432561445647381724
end PySem.W.Fast
set_option maxRecDepth 100000 in
set_option maxHeartbeats 0 in
theorem PySem.Challenge.cw_undercells_k71_hearths_matched_holds : PySem.Challenge.rw_undercells_k71_hearths_matched.Holds := by
 w_on;o_law;k_head;(case hw=>w_witness2)
 k_fill
 refine K71.walk (l:=PySem.Challenge.rw_undercells_k71_hearths_matched) rfl rfl (fun w h Y=>PySem.W.kIn_of Y) ?F
 case F=>
  intro w mg fa h KX G hmg;refine' K71.all_mk KX G hmg (.of ?_ ?_ ?_ ?_) (.of ?_ ?_ ?_ ?_) (.of ?_ ?_ ?_ ?_) (.of ?_ ?_ ?_ ?_) (.of ?_ ?_ ?_ ?_) (.of ?_ ?_ ?_ ?_) (.of ?_ ?_ ?_ ?_) (.of ?_ ?_ ?_ ?_) (.of ?_ ?_ ?_ ?_) (.of ?_ ?_ ?_ ?_) (.of ?_ ?_ ?_ ?_) (.of ?_ ?_ ?_ ?_) (.of ?_ ?_ ?_ ?_) (.of ?_ ?_ ?_ ?_) (.of ?_ ?_ ?_ ?_) (.of ?_ ?_ ?_ ?_) (.of ?_ ?_ ?_ ?_) (.of ?_ ?_ ?_ ?_) (.of ?_ ?_ ?_ ?_) (.of ?_ ?_ ?_ ?_) (.of ?_ ?_ ?_ ?_) (.of ?_ ?_ ?_ ?_) (.of ?_ ?_ ?_ ?_) (.of ?_ ?_ ?_ ?_) (.of ?_ ?_ ?_ ?_) (.of ?_ ?_ ?_ ?_) (.of ?_ ?_ ?_ ?_) (.of ?_ ?_ ?_ ?_) (.of ?_ ?_ ?_ ?_) (.of ?_ ?_ ?_ ?_) (.of ?_ ?_ ?_ ?_) (.of ?_ ?_ ?_ ?_) (.of ?_ ?_ ?_ ?_) (.of ?_ ?_ ?_ ?_) (.of ?_ ?_ ?_ ?_) (.of ?_ ?_ ?_ ?_) (.of ?_ ?_ ?_ ?_) (.of ?_ ?_ ?_ ?_) (.of ?_ ?_ ?_ ?_) (.of ?_ ?_ ?_ ?_) (.of ?_ ?_ ?_ ?_) ?_ ?_ ?_ ?_ ?_ ?_ ?_ ?_ ?_ ?_ ?_ ?_ ?_ ?_ ?_ ?_ ?_ ⟨(show nsIn _ _ _=_ from ?_),?_,?_,⟨?_,?_,?_,?_,?_⟩,?_,?_⟩ ⟨(show nsIn _ _ _=_ from ?_),?_,?_,⟨?_,?_,?_,?_,?_⟩,?_,?_⟩ ?_ ?_ ?_ ?_ ?_ ?_ ?_ ?_ ?_ ?_ ?_ ?_ ?_ ?_ ?_ ?_ ?_ ?_ ?_ ?_ ?_ ?_
  any_goals first|k_is|kernel_rfl
