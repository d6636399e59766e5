import PyProof.Rows.All
import Wide.All
import OpenK.AllK
import Wide.FinOn
import Lean
import PyProof.EqAt
import PyProof.EqKinds
import PyProof.TupleCall
import PySem.Challenge.RW_undercells_k69_number_tables
set_option autoImplicit true
set_option relaxedAutoImplicit true
set_option Elab.async false
set_option linter.all false
set_option maxRecDepth 100000
set_option compiler.extract_closed false
set_option maxHeartbeats 4000000
local macro_rules|`($a<|>$b)=>`(autoParam $a $b)
local macro_rules|`(command|abbrev $n:declId $s:optDeclSig $v:declVal)=>`(command|noncomputable def $n:declId $s:optDeclSig $v:declVal)|`(command|meta abbrev $n:declId $s:optDeclSig $v:declVal)=>`(command|@[reducible]noncomputable def $n:declId $s:optDeclSig $v:declVal)
local macro_rules|`(∅)=>`(by decide +kernel)
local macro_rules|`(⋯)=>`(by decide)
local macro_rules|`(tactic|dsimp[$l,*])=>`(tactic|simp only[$l,*])|`(tactic|dsimp[$l,*]$o:location)=>`(tactic|simp only[$l,*]$o:location)
local macro_rules(kind:=Lean.Parser.Term.structInst)|`({})=>`({cls:=.type "list",data:=.seq ([]:List PySem.Value).toArray})
set_option hygiene false
local macro_rules|`(tactic|z_go)=>`(tactic|obtain⟨ρ,S,τ,R,r,h⟩:=h9)
local macro_rules|`(tactic|x_go)=>`(tactic|intro X hP hw hK hc i pins s σ H E I hf st hg)
local macro_rules|`(tactic|w_up)=>`(tactic|obtain⟨ρ,S,a,b,R,va,vb,h⟩:=h9)
local macro_rules|`(tactic|fin2)=>`(tactic|refine⟨ρ,S,τ,R,r,jE (jL h) .refl λo S1 h1 ρ1 H1 x e1 R1 v1=>⟨ρ1,S1,τ,R1,r.ext e1,jE (jL h1) e1 λi S2 h2 ρ2 H2 y e2 R2 v2=>?_⟩⟩)
local macro_rules|`(tactic|k_ne)=>`(tactic|exact Kp.refl.lay)
local macro_rules|`(tactic|kt_k)=>`(tactic|intro pins s σ H Q I h)
local macro_rules|`(tactic|kd_p)=>`(tactic|refine⟨ρ,S,τ,R,r,jE (jL h) .refl λx S1 h1 ρ1 H1 v e1 R1 v1=>?_⟩)
local macro_rules|`(tactic|gn_on)=>`(tactic|exact⟨ρ2,S2,x,as,R2,v1.ext e2,v2,jE h2 (e1.trans e2) λ_ _ z=>z.ext (e1.trans e2)⟩)
local macro_rules|`(tactic|gp_on)=>`(tactic|refine⟨ρ2,S2,o,i,a,R2,v1.ext e2,v2,va.ext (e1.trans e2),jE (jL h2) (e1.trans e2) λ_ S3 h3 ρ3 H3 e3 R3=>?_⟩)
local macro_rules|`(tactic|kj_on)=>`(tactic|intro pins s σ H x y v u Q I rx ry h)
local macro_rules|`(tactic|kcf_m)=>`(tactic|intro pins s σ H xs us Q I r h)
local macro_rules|`(tactic|kcj_m)=>`(tactic|obtain⟨f0,f1,f2,f3,f4,f5⟩:=hf it (by simp))
local macro_rules|`(tactic|kpc_g)=>`(tactic|obtain⟨w,rfl,ρ,S,x,R,hv,h⟩:=SY h0)
local macro_rules|`(tactic|kpf_c)=>`(tactic|exact h3 ρ3 H3 σ ((e1.trans e2).trans e3) R3 (r.ext ((e1.trans e2).trans e3)))
local macro_rules|`(tactic|ksr_p)=>`(tactic|obtain⟨xs,hn,h⟩:=jI h)
local macro_rules|`(tactic|kst_p)=>`(tactic|exact⟨ρ1,S1,τ,R1,r.ext e1,jE h1 e1 λ_ _ z=>z.ext e1⟩)
local macro_rules|`(tactic|kln_w)=>`(tactic|obtain⟨ρ,S,o,as,R,vo,va,h⟩:=h9)
local macro_rules|`(tactic|kl_no)=>`(tactic|obtain⟨⟨old,st1⟩,st2⟩:=st)
local macro_rules|`(tactic|mg_lt)=>`(tactic|obtain⟨u,rfl,rx⟩:=vals1 r)
local macro_rules|`(tactic|cb_eq)=>`(tactic|refine⟨R.nd,by simp,λa ha b hb e=>?_⟩)
local macro_rules|`(tactic|o_rec)=>`(tactic|obtain⟨ρ,S,τ,R,r,h⟩:=h)
local macro_rules|`(tactic|f_are)=>`(tactic|exact I1.Co (aP _) (I1.hok.fresh (aP _)))
set_option hygiene true
local macro_rules|`(())=>`(by lia)
@[reducible]def ae:=List Int
@[reducible]def ag:=List Nat
@[reducible]def am:=List PySem.Str
@[reducible]def ar:=List PySem.Value
@[reducible]def ba:=List PySem.Addr
@[reducible]def bb:=Option PySem.Value
@[reducible]def bd:=Option Bool
@[reducible]def bi:=Option Nat
@[reducible]def bj:=List<|PySem.Addr×PySem.Obj
def aF:=@List.length_map
def aG:=@List.getElem?_eq_some_iff
def aH:=@List.getElem?_eq_getElem
def aI:=@PySem.wpAny_bind
def aJ:=@List.mem_cons_self
def aK:=@List.getElem?_map
def aL:=@List.getD_eq_getElem?_getD
def aN:=@if_neg
def aO:=@List.mem_cons_of_mem
def aP:=@Nat.le_refl
def aQ:=@Option.map_eq_some_iff
def aR:=@if_pos
def aV:=@PySem.wpAny_pure
def aW:=@List.mem_singleton
def aX:=@List.mem_map
def aY:=@List.mem_of_getElem?
def aZ:=@PySem.Heap.get?_push_of_some
def a_:=@Option.some.inj
def bf:=@List.size_toArray
def bg:=@decide_eq_true
def bh:=@PySem.Heap.lt_size
def bq:=@List.length_append
def br:=@Bool.false_ne_true
def bu:=@List.getElem?_append_left
def bw:=@List.mem_cons
def bz:=@List.forall_mem_cons
def bA:=@PySem.Heap.get?_push_size
def bB:=@List.map_append
def bC:=@List.map_map
def bD:=@Nat.ne_of_lt
def bE:=@of_decide_eq_true
def bF:=@List.map_cons
def bG:=@List.getElem?_set_ne
def bH:=@decide_eq_false
def bI:=@Nat.le_trans
def bJ:=@List.mem_append
def bK:=@List.getElem?_set_self
def bL:=@PySem.PassesOwn.never
def bM:=@Bool.false_eq_true
def bN:=@List.nodup_append
def bO:=@List.mem_filter
def bP:=@PySem.F.slot_dict_get
def bQ:=@Option.bind_some
def bR:=@List.length_cons
def bU:=@Nat.lt_of_lt_of_le
def bV:=@List.mem_append_right
def bW:=@Nat.zero_le
def bX:=@PySem.F.slot_list_append
def bY:=@PySem.F.type_list_append
def bZ:=@List.nodup_cons
def b5:=@List.find?_cons
def b6:=@List.take_add_one
def b7:=@Bool.not_true
def b8:=@List.take_length
def b9:=@PySem.F.type_dict_get
def b_:=@List.length_range
def cg:=@List.map_congr_left
def cj:=@List.append_nil
def cu:=@List.length_take
def cy:=@Option.bind_eq_some_iff
def cz:=@List.length_set
def cA:=@List.pairwise_cons
def cB:=@beq_eq_false_iff_ne
def cC:=@Nat.zero_add
def cD:=@PyProof.Rows.wpS_bind
def cE:=@PySem.W.mg_none_of
def cF:=@List.getElem?_eq_none
def cG:=@List.append_assoc
def cH:=@congrArg
def cI:=@List.getElem_inj
def cJ:=@Bool.and_eq_true
def cK:=@List.getElem_mem
def cL:=@List.mem_flatMap
def cM:=@List.mem_singleton_self
def cN:=@List.pairwise_map
def cO:=@PySem.F.slot_dict_keyiterator_next
def cP:=@Int.zero_add
def cQ:=@Nat.lt_of_le_of_lt
def cR:=@PySem.W.kia_one
def cT:=@List.nodup_nil
def cU:=@Bool.not_false
def cV:=@beq_self_eq_true
def cW:=@PySem.mem_of_lookup
def cX:=@List.length_filter_le
def cY:=@if_false
def cZ:=@List.length_eq_zero_iff
def c5:=@List.pairwise_singleton
def c7:=@List.mem_range
def c8:=@List.mem_append_left
def c9:=@Int.add_zero
def c_:=@List.mem_of_find?_eq_some
def dc:=@List.getElem?_range
def dg:=@Array.getElem?_toList
def dh:=@PySem.wpAny_call_entry
def di:=@List.all_eq_true
def dm:=@PyProof.Rows.wpS_pure
def dw:=@PyProof.Rows.callWith_type1
def dz:=@PySem.wpAny_truthy_bool
def dB:=@PySem.wpAny_newObj_type
def dD:=@List.replicate_succ
def dG:=@Array.getElem?_eq_getElem
def dH:=@List.pairwise_iff_getElem
def dI:=@Nat.lt_succ_self
def dJ:=@of_decide_eq_false
def dN:=@List.prefix_refl
def dO:=@List.prefix_append
def dP:=@List.getElem_map
def dQ:=@Nat.lt_irrefl
def dR:=@PySem.wpAny_holding
def dU:=@Option.isSome_iff_exists
def dW:=@PySem.AutoSeq1.wpAny_loadPart'
def dX:=@PySem.Heap.size_push
def dY:=@PySem.wpAny_typeNameOfWhole_keyiter
def dZ:=@Array.length_toList
def d7:=@List.flatMap_append
def d8:=@Nat.le_of_lt
def d9:=@List.map_nil
def d_:=@PySem.sizeLine_eq
def eg:=@List.lookup_cons
def eo:=@decide_eq_decide
def ez:=@PySem.F.slot_tuple_iterator_next
def eB:=@PySem.tupleKind_room_in1
def eF:=@List.getElem_range
def eG:=@Option.map_map
def eK:=@PySem.wpAny_passesOwn
def eL:=@Option.map_some
def eN:=@List.flatten_cons
def eO:=@Int.toNat_natCast
def eS:=@Option.isSome_map
def eT:=@List.ext_getElem?
def eU:=@List.foldl_append
def eV:=@List.flatMap_cons
def eW:=@List.getElem?_take_of_lt
def eX:=@List.Perm.eq_of_pairwise
def eY:=@PySem.wpAny_typeNameOf_keyiter
def eZ:=@Int.add_assoc
def e9:=@List.idxOf_lt_length_iff
def e_:=@List.mem_map_of_mem
def fh:=@PySem.wpAny_callSpecial?_slot
def fj:=@PySem.F.args_dict_get_3
def fq:=@PySem.F.plainAttrs_dict
def fu:=@Nat.one_mul
def fB:=@PySem.W.cellsFrom_some
def fC:=@PySem.Calls.callWith_builtin
def fF:=@if_true
def fG:=@PySem.F.entry_dict_get
def fH:=@Int.mul_zero
def fJ:=@List.length_nil
def fK:=@Nat.not_lt_zero
def fL:=@List.any_cons
def fM:=@List.getElem?_toArray
def fN:=@List.mem_iff_getElem?
def fO:=@Nat.lt_succ_of_lt
def fP:=@List.find?_isSome
def fQ:=@PySem.Calls.evalArgs_plain
def fR:=@List.range_eq_range'
def fS:=@PySem.Around.under_plainId
def fV:=@PySem.Value.type.inj
def fW:=@List.Perm.refl
def fX:=@List.perm_ext_iff_of_nodup
def fY:=@PySem.wpAny_forIn_list
def fZ:=@List.filter_cons
def f6:=@List.any_eq_true
def f7:=@Classical.byContradiction
def f9:=@PySem.Heap.SameBut.update
def f_:=@PySem.F.args_dict_keyiterator_next_1
def gb:=@PySem.F.args_tuple_add_2
def gc:=@Bool.false_or
def gf:=@PySem.F.entry_dict_keyiterator_next
def gg:=@PySem.F.slot_list_getattribute
def gh:=@List.sum_cons
def gp:=@List.foldl_cons
def gq:=@PySem.wpAny_specialOf
def gu:=@List.find?_some
def gv:=@PySem.wpAny_mono
def gw:=@PySem.wpAny_pyIter_tuple
def gz:=@PySem.call_meets
def gA:=@Option.isSome_some
def gB:=@PySem.Obj.data_mapFields
def gC:=@List.find?_eq_none
def gD:=@Int.emod_lt_of_pos
def gE:=@Option.isSome_none
def gF:=@PySem.F.entry_tuple_add
def gG:=@PySem.meetsH_dict_get_default
def gH:=@PySem.F.slot_tuple_add
def gI:=@PySem.wpAny_Call_method_late
def gJ:=@PySem.wpAny_seqItems
def gK:=@PySem.wpAny_pyIter_enum
def gM:=@PySem.F.slot_tuple_hash
def gO:=@Array.toList_push
def gP:=@Nat.lt_or_ge
def gQ:=@PyProof.Rows.wpS_forRange
def gR:=@PySem.Heap.get?_push_ne
def gT:=@Array.getElem?_eq_none
def gV:=@List.find?_map
def gW:=@PySem.Heap.get?_update_self
def gY:=@PySem.isSubtype_tuple_tuple
def gZ:=@PySem.wpAny_isOneOf_keyiter
def g_:=@List.take_append_drop
def h_:=@List.set_append_right
def ie:=@List.concat_eq_append
def ig:=@Option.getD_some
def ir:=@List.range'_succ
def iu:=@PySem.wpAny_rule
def iy:=@PySem.wpAny_isInstance
def iz:=@PySem.Heap.size_update
def iA:=@List.isEmpty_nil
def iB:=@List.mem_iff_getElem
def iC:=@List.eq_nil_of_length_eq_zero
def iD:=@Bool.or_eq_false_iff
def iE:=@PySem.wpAny_execs_nil
def iF:=@PySem.codeAny_builtin
def iG:=@PySem.F.slot_tuple_eq
def iH:=@List.filter_map
def iI:=@Int.emod_nonneg
def iJ:=@List.filterMap_cons
def iK:=@List.length_reverse
def iL:=@List.filter_eq_self
def iM:=@Nat.ne_of_gt
def iN:=@List.map_set
def iO:=@PySem.wpAny_Call_Name_kw
def iP:=@List.getElem?_append_right
def iQ:=@PySem.wpAny_setField
def iR:=@PySem.wpAny_tupleItemsOf
def iS:=@Array.forIn_toList
def iT:=@PySem.wpAny_fieldsOf
def iV:=@List.getElem_idxOf
def iW:=@List.take_zero
def iX:=@PySem.wpAny_pyIter_list
def iY:=@PySem.wpAny_dictEntries
def iZ:=@List.isEmpty_cons
def i6:=@PySem.Paired.length
def i7:=@List.all_cons
def i8:=@Nat.add_assoc
def i9:=@Nat.le_of_not_lt
def i_:=@List.cons_append
def ja:=@List.flatMap_nil
def jb:=@List.countP_cons
def jc:=@List.mem_reverse
def jd:=@PySem.codeAny_mono
def je:=@Nat.succ_mul
def jf:=@Nat.lt_trans
def jh:=@PySem.wpAny_typeOf
def ji:=@PySem.call_meetsIn
def jj:=@Int.sub_zero
def jk:=@beq_iff_eq
def jl:=@List.of_mem_zip
def jm:=@List.map_const'
def jn:=@Nat.le_succ
def jo:=@List.forIn_nil
def jq:=@Array.size_zip
def jt:=@List.foldl_map
def ju:=@Int.mul_add
def jv:=@Nat.mul_le_mul
@[reducible]def af:=PySem.Value
@[reducible]def ah:=PySem.World
@[reducible]def aj:=PySem.Program
@[reducible]def ak:=PySem.Addr
@[reducible]def aq:=PySem.Heap
@[reducible]def au:=PySem.W.Frag
@[reducible]def az:=PySem.Around
@[reducible]def aA:=PySem.Shared
@[reducible]def aC:=PySem.Expr
@[reducible]def aE:=PySem.Stmt
def anI{a b:Prop}(h:a)(k:b):a/\b:=⟨h,k⟩
open Array (size_map)
open Int (one_mul)
open List (all_map map_id)
open Nat (add_mul mul_add not_lt)
namespace L2
open PySem PySem.Spec PyProof.Rows
meta abbrev Key:=Sum Int Str
abbrev CQ:Key->af->Bool
 | .inl k,v=>Value.isInt k v
 | .inr x,v=>Value.isStrOf x v
abbrev adf (w:ah):Key->Int
 | .inl k=>hashInt k
 | .inr x=>hashStr w x
def lG:∀{k:Key}{v:af},CQ k v=true->(∃i t,k=Sum.inl i/\v=Value.int i t)\/(∃x t,k=Sum.inr x/\v=Value.str x t)
 | .inl i,v,h=>by
  obtain⟨t,e⟩:=Value.isInt_shape (k:=i) (v:=v) h;exact .inl ⟨i,t,rfl,e⟩
 | .inr x,v,h=>by
  obtain⟨t,e⟩:=Value.isStrOf_shape (x:=x) (v:=v) h;exact .inr ⟨x,t,rfl,e⟩
def Ni(i:Int)(t:Tok):CQ (.inl i) (.int i t)=true:=by simp[CQ,Value.isInt]
def MN(x:Str)(t:Tok):CQ (.inr x) (.str x t)=true:=by simp[CQ,Value.isStrOf]
def YQ(a b:Int):decide ((Sum.inl a:Key)=Sum.inl b)=(a == b):=by
 by_cases e:a=b
 ·subst e;simp
 ·have h:¬(Sum.inl a:Key)=Sum.inl b:=λq=>e<|Sum.inl.inj q;rw[bH h];exact(cB.mpr e).symm
def Yg(a b:Str):decide ((Sum.inr a:Key)=Sum.inr b)=decide (a=b):=by
 by_cases e:a=b
 ·subst e;simp
 ·have h:¬(Sum.inr a:Key)=Sum.inr b:=λq=>e<|Sum.inr.inj q;rw[bH h,bH e]
def Z9(a:Int)(b:Str):decide ((Sum.inl a:Key)=Sum.inr b)=false:=bH λq=>nomatch q
def ZK(a:Str)(b:Int):decide ((Sum.inr a:Key)=Sum.inl b)=false:=bH λq=>nomatch q
abbrev kh (prog:aj)(w:ah):PySem.KeyKind prog w Key where
 is:=CQ
 hash:=adf w
 inj:=λv a b ha hb=>by
  rcases lG ha with⟨i,t,rfl,rfl⟩|⟨x,t,rfl,rfl⟩
  ·rcases lG hb with⟨j,u,rfl,e⟩|⟨y,u,rfl,e⟩
   ·injection e with e1 _;rw[e1]
   ·exact nomatch e
  ·rcases lG hb with⟨j,u,rfl,e⟩|⟨y,u,rfl,e⟩
   ·exact nomatch e
   ·injection e with e1 _;rw[e1]
 byValue:=λk v h=>by
  rcases lG h with⟨i,t,rfl,rfl⟩|⟨x,t,rfl,rfl⟩<;>rfl
 pyHash:=λhv h=>by
  rcases lG hv with⟨i,t,rfl,rfl⟩|⟨x,t,rfl,rfl⟩
  ·exact wpAny_pyHash_int h
  ·exact wpAny_pyHash_str h
 eqBool:=λc hv h=>by
  rcases lG c with⟨i,t,rfl,rfl⟩|⟨x,t,rfl,rfl⟩
  ·rcases lG hv with⟨j,u,rfl,rfl⟩|⟨y,u,rfl,rfl⟩
   ·rw[YQ]at h;exact wpAny_eqBool_int h
   ·rw[Z9]at h;exact SeqAt.EqAt.int_str i t y u _ _ _ _ h
  ·rcases lG hv with⟨j,u,rfl,rfl⟩|⟨y,u,rfl,rfl⟩
   ·rw[ZK]at h;exact SeqAt.EqAt.str_int x t j u _ _ _ _ h
   ·rw[Yg]at h;exact wpAny_eqBool_str h
 «strs»:=λk x t v h=>by
  rcases lG h with⟨i,u,rfl,e⟩|⟨y,u,rfl,e⟩
  ·exact nomatch e
  ·injection e with e1 _
   subst e1
   cases v<;>rfl
def G9(prog:aj)(w:ah)(i:Int)(t:Tok):(kh prog w).is (.inl i) (.int i t)=true:=Ni i t
def F2(prog:aj)(w:ah)(x:Str)(t:Tok):(kh prog w).is (.inr x) (.str x t)=true:=MN x t
inductive V where
 | non|bl (b:Bool)|int (i:Int)|str (x:Str)|byt (b:Array UInt8)|flt (b:UInt64)|ref (a:ak)|ty (n:String)
 deriving DecidableEq
abbrev RelV:V->af->Prop
 | .non,u=>u=Value.none
 | .bl b,u=>u=Value.bool b
 | .int i,u=>∃t,u=Value.int i t
 | .str x,u=>∃t,u=Value.str x t
 | .byt b,u=>∃t,u=Value.bytes b t
 | .flt b,u=>∃t,u=Value.float b t
 | .ref a,u=>u=Value.ref a
 | .ty n,u=>u=Value.type n
meta abbrev Vals:List V->ar->Prop:=Paired RelV
def Vals.length{xs:List V}{us:ar}(r:Vals xs us):xs.length=us.length:=i6 r
theorem Vals.get:∀{xs:List V}{us:ar}{i:Nat}{x:V},Vals xs us->xs[i]?=some x->∃u,us[i]?=some u/\RelV x u
 | _,_,_,_,.nil,e=>by simp at e
 | _,_,0,_,.cons r _,e=>by simp at e;subst e;exact⟨_,rfl,r⟩
 | _,_,i+1,x,.cons _ t,e=>by
  obtain⟨u,h1,h2⟩:=Vals.get (i:=i) (x:=x) t (by simpa using e);exact⟨u,by simpa using h1,h2⟩
theorem Vals.set{x:V}(r:RelV x u):∀{xs:List V}{us:ar}(i:Nat),Vals xs us->Vals (xs.set i x) (us.set i u)
 | _,_,_,.nil=>.nil
 | _,_,0,.cons _ t=>.cons r t
 | _,_,i+1,.cons q t=>.cons q<|Vals.set r i t
theorem Vals.append:∀{xs ys:List V}{us ws:ar},Vals xs us->Vals ys ws->Vals (xs++ys) (us++ws)
 | _,_,_,_,.nil,s=>s
 | _,_,_,_,.cons r t,s=>.cons r<|Vals.append t s
abbrev zx:Option V->bb->Prop
 | some v,some u=>RelV v u
 | none,none=>True
 | _,_=>False
abbrev KV {κ:Type}:List (κ×V)->List (κ×af)->Prop:=Paired λ(p:κ×V) (q:κ×af)=>p.1=q.1/\RelV p.2 q.2
abbrev kV:Key->V
 | .inl i=>.int i
 | .inr x=>.str x
inductive HO where
 | lst (xs:List V)
 | tup (xs:List V)
 | dK (kvs:List<|Key×V)|dT (kvs:List<|List Key×V)
 | set (S:Int->Bool) (n:Nat)
 | ins (C dx:ak) (fs:List<|Str×V)
 | own (x:ak)
 | xd (fs:List<|Str×V)
 | met (f x:ak)
 | rng (lo hi:Int)
 | frz (o:Obj) (u:HO)
 | tbl (ps:Array af)
 | ext (φ:aq->Prop)
meta abbrev Hp:=ak->Option HO
abbrev upd (H:Hp)(a:ak)(o:HO):Hp:=λb=>if b=a then some o else H b
def j6{H:Hp}{a:ak}:upd H a o a=some o:=by unfold upd;rw[aR rfl]
def jK{H:Hp}{a b:ak}(h:b≠a):upd H a o b=H b:=by unfold upd;rw[aN h]
def WX{H:Hp}{a b:ak}(h:H a=some o)(h':H b=some u)(d:o≠u):a≠b:=by
 intro e;subst e;rw[h]at h';exact d<|a_ h'
def jR{H:Hp}{a b:ak}(h:H a=some o)(h':H b=none):a≠b:=by
 intro e;subst e;rw[h]at h';cases h'
abbrev rL (h:aq)(a:ak)(J:Array af):Prop:=∃o,h.get? a=some o/\o.cls=.type "tuple" /\ o.dict=none/\∃n,o.data=.seq J n
def rL.tup{a:ak}:rL h a items->IsTup h a items:=λ⟨o,e,c,_,n,d⟩=>⟨o,e,c,n,d⟩
def rL.new(h:aq)(J:Array af):rL (h.push { cls:=.type "tuple",data:=.seq J }) h.objs.size J:=⟨_,bA _ rfl,rfl,rfl,_,rfl⟩
def rL.lt{h:aq}{a:ak}(x:rL h a items):a<h.objs.size:=let⟨_,ho,_⟩:=x;bh ho
section
variable (P:aj) (w:ah)
abbrev kI (H:Hp)(h:aq)(a:ak):HO->Prop
 | .lst xs=>xs.length<=sizeLine/\∃(d:ar) (n:Nat),Vals xs d/\h.get? a=some { cls:=.type "list",data:=.seq d.toArray n }
 | .tup xs=>xs.length<=sizeLine/\∃d:ar,Vals xs d/\rL h a d.toArray
 | .dK c=>c.length<=sizeLine/\(a == sysModules)=false/\∃k,KV c k/\h.DictOf (kh P w) a k
 | .dT c=>c.length<=sizeLine/\(a == sysModules)=false/\∃xs:List<|List Key×ak×af,
   Paired (λ(p:List Key×V) (q:List Key×ak×af)=>p.1=q.1/\H q.2.1=some (.tup<|p.1.map kV)/\RelV p.2 q.2.2) c xs /\
   ∃o es ep,h.get? a=some o/\o.ExactDict/\o.data=.dict es ep/\es.toList=xs.map (entryOfKey<|tupleKind<|kh P w)/\(xs.map (·.1)).Nodup
 | .set S n=>h.SetOf (intKind P w) a S n
 | .ins C dx fs=>H dx=some (.own a)/\fs.length<=1000/\dx≠a/\h.get? a=some (PySem.W.instObj C dx) /\
   ∃g,h.Ns1 dx g/\(∀f,zx (fs.lookup f)<|g f)/\PySem.Within g (fs.map (·.1))
 | .own _=>∃o,h.get? a=some o
 | .xd fs=>∃g,h.Ns1 a g/\∀f,zx (fs.lookup f) (g f)
 | .rng lo m=>∃t u v,h.get? a=some { cls:=.type "range",data:=.fields #[.int lo t,.int m u,.int 1 v]}
 | .frz o u=>h.get? a=some o/\kI H h a u
 | .tbl ps=>h.get? a=some { cls:=.none,data:=.fields ps }
 | .met f x=>h.get? a=some (PySem.W.methodObj (.ref f)<|.ref x)
 | .ext j=>j h/\(∃o,h.get? a=some o)/\∀h1 h2:aq,j h1->(∀o,h1.get? a=some o->h2.get? a=some o)->j h2
abbrev xX (H:Hp)(h:aq):Prop:=∀a o,H a=some o->kI P w H h a o
end
section
variable {P:aj}{w:ah}{H H':Hp}{h h':aq}{a:ak}{o:HO}
def kI.lt(x:kI P w H h a o):a<h.objs.size:=by
 cases o with
 | lst xs=>obtain⟨_,_,_,_,e⟩:=x;exact bh e
 | tup xs=>obtain⟨_,_,_,p⟩:=x;exact rL.lt p
 | dK c=>obtain⟨_,_,_,_,o,_,_,e,_⟩:=x;exact bh e
 | dT c=>obtain⟨_,_,_,_,o,_,_,e,_⟩:=x;exact bh e
 | set S n=>obtain⟨o,_,_,_,e,_⟩:=x;exact bh e
 | ins C dx fs=>obtain⟨_,_,_,e,_⟩:=x;exact bh e
 | own y=>obtain⟨_,e⟩:=x;exact bh e
 | xd fs=>obtain⟨_,⟨_,_,_,e,_⟩,_⟩:=x;exact bh e
 | rng lo j=>obtain⟨_,_,_,e⟩:=x;exact bh e
 | frz g u=>obtain⟨e,_⟩:=x;exact bh e
 | tbl ps=>exact bh (show h.get? a=some _ from x)
 | met f y=>exact bh (show h.get? a=some _ from x)
 | ext d=>obtain⟨_,⟨_,e⟩,_⟩:=x;exact bh e
theorem Paired.Y5{α β:Type}{F G:α->β->Prop}:∀{l₁:List α}{l₂:List β},Paired F l₁ l₂->(∀a b,F a b->G a b)->Paired G l₁ l₂
 | _,_,.nil,_=>.nil
 | _,_,.cons r t,f=>.cons (f _ _ r)<|Paired.Y5 t f
def kI.stay(x:kI P w H h a o)(k:∀b u,(b=a\/H b=some (.own a))->h.get? b=some u->h'.get? b=some u)
  (U:∀b,H b=some (.own a)->H' b=some (.own a)) (Z:∀b xs,H b=some (.tup xs)->H' b=some (.tup xs)):kI P w H' h' a o:=by
 induction o with
 | lst xs=>obtain⟨z,j,n,r,e⟩:=x;exact⟨z,j,n,r,k _ _ (.inl rfl) e⟩
 | tup xs=>obtain⟨z,j,r,g,e,c⟩:=x;exact⟨z,j,r,g,k _ _ (.inl rfl) e,c⟩
 | dK m=>obtain⟨z,y,F,r,g,es,ep,e,c⟩:=x;exact⟨z,y,F,r,g,es,ep,k _ _ (.inl rfl) e,c⟩
 | dT m=>
  obtain⟨z,y,xs,r,g,es,ep,e,c⟩:=x;exact⟨z,y,xs,Paired.Y5 r λp q z=>⟨z.1,Z _ _ z.2.1,z.2.2⟩,g,es,ep,k _ _ (.inl rfl) e,c⟩
 | set S n=>obtain⟨g,es,ep,t,e,c⟩:=x;exact⟨g,es,ep,t,k _ _ (.inl rfl) e,c⟩
 | ins C dx fs=>
  obtain⟨d,z,ne,e,D,⟨B,es,ep,e2,c⟩,r⟩:=x;exact⟨U _ d,z,ne,k _ _ (.inl rfl) e,D,⟨B,es,ep,k _ _ (.inr d) e2,c⟩,r⟩
 | own y=>obtain⟨g,e⟩:=x;exact⟨g,k _ _ (.inl rfl) e⟩
 | xd fs=>obtain⟨D,⟨B,es,ep,e,c⟩,r⟩:=x;exact⟨D,⟨B,es,ep,k _ _ (.inl rfl) e,c⟩,r⟩
 | rng lo K=>obtain⟨t,u,v,e⟩:=x;exact⟨t,u,v,k _ _ (.inl rfl) e⟩
 | frz g u G=>obtain⟨e,q⟩:=x;exact⟨k _ _ (.inl rfl) e,G q⟩
 | tbl ps=>
  have e:h.get? a=some { cls:=.none,data:=.fields ps }:=x
  skip
  exact k a _ (.inl rfl) e
 | met f y=>
  have e:h.get? a=some (PySem.W.methodObj (.ref f)<|.ref y):=x
  skip
  exact k a _ (.inl rfl) e
 | ext J=>obtain⟨p,⟨o,e⟩,st⟩:=x;exact⟨st _ _ p λo q=>k _ _ (.inl rfl) q,⟨o,k _ _ (.inl rfl) e⟩,st⟩
def xX.lt(x:xX P w H h)(e:H a=some o):a<h.objs.size:=(x a o e).lt
def xX.fresh(x:xX P w H h)(e:h.objs.size<=a):H a=none:=by
 cases q:H a with
 | none=>rfl
 | some u=>exact absurd (bU (x.lt q) e)<|dQ _
def xX.kept(x:xX P w H h)(k:∀b u,h.get? b=some u->h'.get? b=some u):xX P w H h':=λa o e=>
 (x a o e).stay (λb u _ q=>k b u q) (λ_ q=>q) λ_ _ q=>q
def xX.laid(x:xX P w H h)(k:∀b u,h.get? b=some u->h'.get? b=some u)(J:h.objs.size<=a)(new:kI P w (upd H a o) h' a o):xX P w (upd H a o) h':=λb u e=>by
 have hn:=x.fresh J;by_cases hb:b=a
 ·subst hb;rw[j6]at e;cases e;exact new
 ·rw[jK hb]at e;exact(x b u e).stay (λc v _ q=>k c v q) (λc q=>by rw[jK<|jR q hn];exact q) λc xs q=>by rw[jK<|jR q hn];exact q
end
abbrev Rd (H:Hp)(a:ak)(u:HO):Prop:=H a=some u\/∃o,H a=some (.frz o u)
def Rd.ok{P:aj}{w:ah}{H:Hp}{a:ak}(r:Rd H a u)(x:xX P w H h):kI P w H h a u:=by
 rcases r with r|⟨o,r⟩
 ·exact x a u r
 ·obtain⟨_,q⟩:=x a _ r;exact q
abbrev Mut:Option HO->Prop
 | some (.lst _)=>True
 | some (.dK _)=>True
 | some (.dT _)=>True
 | some (.set _ _)=>True
 | some (.ins _ _ _)=>True
 | some (.ext _)=>True
 | _=>False
section
variable {P:aj}{w:ah}{H:Hp}{h h':aq}{x e:ak}{o':HO}
def xX.write(ok:xX P w H h)(J:Mut<|H x)(Z:e=x\/H e=some (.own x))(k:∀b u,b≠e->h.get? b=some u->h'.get? b=some u)(U:∃u,h'.get? e=some u)
  (new:kI P w (upd H x o') h' x o'):xX P w (upd H x o') h':=λb u q=>by
 have f:∀c y,H c=some (.own y)->c≠x:=λc y r z=>by subst z;rw[r]at J;exact J
 have g:∀c xs,H c=some (.tup xs)->c≠x:=λc xs r z=>by subst z;rw[r]at J;exact J
 by_cases hb:b=x
 ·subst hb;rw[j6]at q;cases q;exact new
 ·rw[jK hb]at q;by_cases d:b=e
  ·have j:H b=some (.own x):=by
    rcases Z with z|z
    ·exact absurd (d.trans z) hb
    ·rw[d];exact z
   rw[q]at j;cases j;obtain⟨v,hv⟩:=U;exact⟨v,by rw[d];exact hv⟩
  ·refine(ok b u q).stay (λc v hc r=>k c v ?_ r) (λc r=>by rw[jK<|f c b r];exact r) λc xs r=>by rw[jK<|g c xs r];exact r
   rcases hc with rfl|hc
   ·exact d
   ·rintro rfl
    rcases Z with z|z
    ·exact f c b hc z
    ·rw[hc]at z;cases z;exact hb rfl
end
structure Un (fs ex:ba)(H H':Hp)(h h':aq):Prop where
 keep:∀b o,h.get? b=some o->H b=none->b∉fs->b∉ex->h'.get? b=some o
 slot:∀b o,h.get? b=some o->H b=none->b∈fs->b∉ex->∃sl,h'.get? b=some { o with slots:=sl }
 free:∀b o,h.get? b=some o->H b=none->b∉ex->H' b=none
 there:∀b o,h.get? b=some o->b∉ex->∃o',h'.get? b=some o'
 tups:∀b xs,H b=some (.tup xs)->H' b=some (.tup xs)
 frzs:∀b o u,H b=some (.frz o u)->H' b=some (.frz o u)
 tbls:∀b ps,H b=some (.tbl ps)->∃more,H' b=some (.tbl<|ps++more)
section
variable {fs ex:ba}{H H1:Hp}{h h1 h':aq}{a x e:ak}{o:HO}
def Un.any(u:Un fs ex H H1 h h1){b:ak}{ob:Obj}(q:h.get? b=some ob)(n:H b=none)(J:b∉ex):∃sl,h1.get? b=some { ob with slots:=sl }:=by
 by_cases hb:b∈fs
 ·exact u.slot b ob q n hb J
 ·exact⟨ob.slots,u.keep b ob q n hb J⟩
def Un.kept(k:∀b u,h.get? b=some u->h'.get? b=some u):Un fs ex H H h h':=
 ⟨λb c q _ _ _=>k b c q,λb c q _ _ _=>⟨c.slots,k b c q⟩,λ_ _ _ n _=>n,λb c q _=>⟨c,k b c q⟩,λ_ _ q=>q,λ_ _ _ q=>q,λ_ ps q=>⟨#[],by rw[q];simp⟩⟩
def Un.refl:Un fs ex H H h h:=Un.kept λ_ _ q=>q
def Un.laid(k:∀b u,h.get? b=some u->h'.get? b=some u)(J:h.objs.size<=a)(hn:H a=none):Un fs ex H (upd H a o) h h' where
 keep:=λb u q _ _ _=>k b u q
 slot:=λb u q _ _ _=>⟨u.slots,k b u q⟩
 free:=λb u q n _=>by rw[jK<|bD<|bU (bh q) J];exact n
 there:=λb u q _=>⟨u,k b u q⟩
 tups:=λb xs q=>by rw[jK<|jR q hn];exact q
 frzs:=λb u xs q=>by rw[jK<|jR q hn];exact q
 tbls:=λb ps q=>⟨#[],by rw[jK<|jR q hn,q];simp⟩
def Un.write(J:Mut<|H x)(Z:e=x\/H e=some (.own x))(k:∀b u,b≠e->h.get? b=some u->h'.get? b=some u)(U:∃u,h'.get? e=some u):Un fs ex H (upd H x o) h h':=by
 have f:∀b,H b=none->b≠x:=λb n z=>by subst z;rw[n]at J;exact J
 have hb:∀b,H b=none->b≠e:=λb n z=>by
  subst z
  rcases Z with r|r
  ·exact f b n r
  ·rw[n]at r;cases r
 have d:∀b u,H b=some u->¬Mut (some u)->b≠x:=λb u q g z=>by subst z;rw[q]at J;exact g J
 refine⟨λb u q n _ _=>k b u (hb b n) q,λb u q n _ _=>⟨u.slots,k b u (hb b n) q⟩,λb u q n _=>by rw[jK<|f b n];exact n,λb u q _=>?_,
  λb xs q=>by rw[jK<|d b _ q λz=>z];exact q,λb u xs q=>by rw[jK<|d b _ q λz=>z];exact q,λb ps q=>⟨#[],by rw[jK<|d b _ q λz=>z,q];simp⟩⟩
 by_cases c:b=e
 ·subst c;exact U
 ·exact⟨u,k b u c q⟩
end
abbrev trk (h:aq)(H:Hp):ba:=(List.range h.objs.size).filter λa=>(H a).isSome
abbrev Ec (h:aq)(H:Hp):aq:=PySem.W.hideAll h<|trk h H
def Mp(h:aq)(H:Hp):(Ec h H).objs.size=h.objs.size:=PySem.W.hideAll_size _ _
def OJ{h:aq}{H:Hp}{b:ak}(e:h.get? b=some o)(n:H b=none):(Ec h H).get? b=some o:=
 PySem.W.hideAll_get _ e λc=>by
  have q:(H b).isSome=true:=(bO.mp c).2;rw[n]at q;simp at q
def VA{h:aq}{H:Hp}{b:ak}(e:(Ec h H).get? b=some o):h.get? b=some o/\H b=none:=by
 have c:h.get? b=some o:=PySem.W.of_hideAll (trk h H) e;refine⟨c,?_⟩
 cases q:H b with
 | none=>rfl
 | some x=>
  have d:b∈trk h H:=bO.mpr ⟨c7.mpr<|bh c,by simp[q]⟩;have z:(Ec h H).get? b=none:=PySem.W.hideAll_none (trk h H) d;rw[z]at e;cases e
abbrev Uc (g h:aq)(L:ak):bj:=(List.range h.objs.size).filterMap λa=>if a=L\/(g.get? a).isSome=true then none else(h.get? a).map λo=>(a,o)
abbrev rest (g h:aq)(L d:ak):bj:=(Uc g h L).filter λp=>decide<|p.1≠d
structure Mod (K:au)(mg:Str->bb)(base:aq):Prop where
 kin:K.In base
 glob:base.Ns mainGlobals mg
 blt:∃mb,base.Ns builtinsNs mb/\∀x:Str,x ≠ "__name__" -> mb x=bootBuiltins x
 nolimit:base.NoLimit
structure Cx where
 prog:aj
 w:ah
 K:au
 mg:Str->bb
 base:aq
 A:az
 N:am
 s₀:aA
 H₀:Hp
 env:Env
 outer:List Env
 stack:List Env
 ex:ba
 fn:Str->Bool
 calm:Bool
 pn:bj
 xe:af->aA->Prop
abbrev frs (l:List Env):ba:=l.filterMap (·.frame)
meta abbrev Cx.fs (X:Cx):ba:=frs X.outer
abbrev Vis (J:Scope)(x:Str):Prop:=J.names.lookup x=some .local\/J.names.lookup x=some .cell\/J.names.lookup x=some .free
abbrev Loc (J:Scope)(x:Str):Prop:=J.names.lookup x=some .local\/J.names.lookup x=some .cell
abbrev Look (env:Env)(h:aq)(m:Str->bb)(x:Str)(u:af):Prop:=
 (env.kindOf x=some .local/\m x=some u)\/((env.kindOf x=some .cell\/env.kindOf x=some .free)/\∃c,env.cells.lookup x=some c/\h.IsCell c (some u))
structure Cx.Ok (X:Cx):Prop where
 mod:Mod X.K X.mg X.base
 kind:X.env.scope.kind=.function
 glob:X.env.globals=mainGlobals
 blt:X.env.builtins=builtinsNs
 above:X.s₀.heap.objs.size<=X.env.locals
 inj:∀x y c,X.env.cells.lookup x=some c->X.env.cells.lookup y=some c->x=y
 has:∀x,(X.env.kindOf x=some .cell\/X.env.kindOf x=some .free)->∃c,X.env.cells.lookup x=some c
 cab:∀x c,X.fn x=true->X.env.cells.lookup x=some c->X.s₀.heap.objs.size<=c
 hd:X.calm=true->X.A.handled=none
 frames:X.A.frames=some X.stack
 stk:X.stack=X.outer\/(X.stack=X.env::X.outer/\X.env.frame=some X.env.locals)
 exf:∀b∈X.ex,b≠X.env.locals/\∀x c,X.env.cells.lookup x=some c->c≠b
 bs:∀b o,X.base.get? b=some o->X.s₀.heap.get? b=some o/\X.H₀ b=none
 bsz:X.base.objs.size<=X.s₀.heap.objs.size
 noex:∀b o,X.base.get? b=some o->b∉X.ex
 exfs:∀b∈X.ex,b∉X.fs
 A9:X.s₀.heap.FunFrames X.base X.outer
 frf:∀b∈X.fs,X.H₀ b=none
structure Inv (X:Cx)(pins:bj)(σ:List (Option V))(H:Hp)(s:aA):Prop where
 ok:X.Ok
 os:s.os=X.s₀.os
 bare:AllBare s.gens
 base:Un X.fs X.ex X.H₀ H X.s₀.heap s.heap
 loc:∃m,s.heap.Ns X.env.locals m/\∀(i:Nat) (x:Str) (v:V),X.N[i]?=some x->σ[i]?=some (some v)->Vis X.env.scope x->∃u,RelV v u/\Look X.env s.heap m x u
 cell:∀x c,X.env.cells.lookup x=some c->∃v,s.heap.IsCell c v
 free:H X.env.locals=none
 freeC:∀x c,X.env.cells.lookup x=some c->H c=none
 pin:∀p∈X.pn++pins,s.heap.get? p.1=some p.2/\H p.1=none/\p.1≠X.env.locals/\p.1∉X.fs/\∀v,p.2.data≠.cell v
 hok:xX X.prog X.w H s.heap
 len:σ.length=X.N.length
section
variable {X:Cx}{pins:bj}{σ:List (Option V)}{H H':Hp}{s:aA}{h':aq}
def Cx.Ok.adU(ok:X.Ok){b:ak}(e:X.base.get? b=some o):b∉X.fs:=λhb=>by
 have:=(ok.A9.mem hb).1;rw[e]at this;cases this
def Inv.bs(I:Inv X pins σ H s):∀b o,X.base.get? b=some o->s.heap.get? b=some o/\H b=none:=λb o e=>
 ⟨I.base.keep b o (I.ok.bs b o e).1 (I.ok.bs b o e).2 (I.ok.adU e)<|I.ok.noex b o e,I.base.free b o (I.ok.bs b o e).1 (I.ok.bs b o e).2<|I.ok.noex b o e⟩
def Inv.bk(I:Inv X pins σ H s):∀b o,X.base.get? b=some o->s.heap.get? b=some o:=λb o e=>(I.bs b o e).1
def Inv.mod(I:Inv X pins σ H s):Mod X.K X.mg X.base:=I.ok.mod
def Inv.Ed(I:Inv X pins σ H s):X.K.In s.heap:=I.ok.mod.kin.keeps I.bk
def Inv.lt(I:Inv X pins σ H s):X.env.locals<s.heap.objs.size:=let⟨_,hn,_⟩:=I.loc;hn.lt
def Inv.sz(I:Inv X pins σ H s):X.s₀.heap.objs.size<=s.heap.objs.size:=bI I.ok.above<|d8 I.lt
def Inv.adS(I:Inv X pins σ H s){a:ak}(h:s.heap.objs.size<=a):a∉X.fs:=λhb=>by
 obtain⟨_,o,c,_⟩:=I.ok.A9.mem hb;exact absurd (bU (bh c)<|bI I.sz h)<|dQ _
def Inv.Yu(I:Inv X pins σ H s):∀x c,X.env.cells.lookup x=some c->c≠X.env.locals:=λx c e z=>by
 obtain⟨v,o,j,g⟩:=I.cell x c e;obtain⟨m,⟨o',es,ep,d,f,_⟩,_⟩:=I.loc;rw[z,d]at j;cases j;rw[f]at g;cases g
def Inv.A9(I:Inv X pins σ H s):s.heap.FunFrames X.base X.outer:=by
 have all:∀(l:List Env),(∀b∈frs l,b∈X.fs)->X.s₀.heap.FunFrames X.base l->s.heap.FunFrames X.base l:=by
  intro l
  induction l with
  | nil=>intro _ _;trivial
  | cons g r f=>
   intro hs j;obtain⟨k,⟨L,o,hf,hn,p,m⟩,d⟩:=j;have c:L∈X.fs:=hs L (by unfold frs;rw[iJ,hf];exact aJ);obtain⟨q,e⟩:=I.base.slot L o p (I.ok.frf L c) c λz=>I.ok.exfs L z c;exact⟨k,⟨L,_,hf,hn,e,m⟩,f (λb hb=>hs b<|by unfold frs;rw[iJ,hf];exact aO _ hb) d⟩
 exact all X.outer (λ_ hb=>hb) I.ok.A9
def Inv.stack(I:Inv X pins σ H s):s.heap.FunFrames X.base X.stack:=by
 rcases I.ok.stk with e|⟨e,hf⟩
 ·rw[e];exact I.A9
 ·rw[e];obtain⟨m,hn,_⟩:=I.loc;refine .cons (by rw[I.ok.kind];decide) hf hn ?_ I.A9;exact Heap.get?_none_of_le<|bI I.ok.bsz I.ok.above
def Inv.IP(I:Inv X pins σ H s):∀b∈frs X.stack,b∈X.env.locals::X.fs:=λb hb=>by
 rcases I.ok.stk with e|⟨e,hf⟩
 ·rw[e]at hb;exact aO _ hb
 ·rw[e]at hb;unfold frs at hb;rw[iJ,hf]at hb;exact hb
def Inv.JC(I:Inv X pins σ H s):∀b∈frs X.stack,H b=none:=λb hb=>by
 rcases bw.mp (I.IP b hb)with e|hb
 ·rw[e];exact I.free
 ·obtain⟨_,o,c,_⟩:=I.ok.A9.mem hb;exact I.base.free b o c (I.ok.frf b hb) λz=>I.ok.exfs b z hb
def Inv.step{g':Array GenState}{t':Nat}{d':Drawn}{ch:ba}(I:Inv X pins σ H s)
  (U:∀b∈ch,(b∈X.ex\/X.s₀.heap.objs.size<=b)/\b≠X.env.locals/\(∀x c,X.env.cells.lookup x=some c->c≠b)/\∀p∈X.pn++pins,p.1≠b)
  (keep:∀b o,b≠X.env.locals->b∉X.fs->b∉ch->s.heap.get? b=some o->H b=none->h'.get? b=some o)
  (slot:∀b o,b≠X.env.locals->b∈X.fs->b∉ch->s.heap.get? b=some o->H b=none->∃sl,h'.get? b=some { o with slots:=sl }) (free:∀b o,b∉ch->s.heap.get? b=some o->H b=none->H' b=none)
  (there:∀b o,b∉ch->s.heap.get? b=some o->∃o',h'.get? b=some o')
  (tups:∀b xs,H b=some (.tup xs)->H' b=some (.tup xs)) (frzs:∀b o u,H b=some (.frz o u)->H' b=some (.frz o u)) (tbls:∀b ps,H b=some (.tbl ps)->∃more,H' b=some (.tbl<|ps++more))
  (ns:∀m,s.heap.Ns X.env.locals m->h'.Ns X.env.locals m) (hok:xX X.prog X.w H' h') (hg:AllBare g') :
  Inv X pins σ H' { s with heap:=h',gens:=g',drawn:=d',toks:=t' }:=by
 have C:∀b o,X.s₀.heap.get? b=some o->b≠X.env.locals:=λb o e=>bD<|bU (bh e) I.ok.above;have t:∀b o,X.s₀.heap.get? b=some o->b∉X.ex->b∉ch:=λb o e f hb=>by
  rcases(U b hb).1 with z|z
  ·exact f z
  ·exact absurd (bU (bh e) z)<|dQ _
 have j:∀x c,X.env.cells.lookup x=some c->∀v,s.heap.IsCell c v->h'.IsCell c v:=λx c e v ⟨o,B,D⟩=>by
  have g:c∉ch:=λz=>(U c z).2.2.1 x c e rfl;by_cases hc:c∈X.fs
  ·obtain⟨sl,q⟩:=slot c o (I.Yu x c e) hc g B<|I.freeC x c e;exact⟨_,q,D⟩
  ·exact⟨o,keep c o (I.Yu x c e) hc g B<|I.freeC x c e,D⟩
 refine⟨I.ok,I.os,hg,⟨λb o e n hb f=>?_,λb o e n hb f=>?_,λb o e n f=>?_,λb o e f=>?_,λb xs e=>tups b xs<|I.base.tups b xs e,λb o xs e=>frzs b o xs<|I.base.frzs b o xs e,λb ps e=>?_⟩,?_,λx c e=>?_,?_,λx c e=>?_,λp J=>?_,hok,I.len⟩
 ·exact keep b o (C b o e) hb (t b o e f) (I.base.keep b o e n hb f) (I.base.free b o e n f)
 ·obtain⟨sl,e1⟩:=I.base.slot b o e n hb f;obtain⟨F,e2⟩:=slot b _ (C b o e) hb (t b o e f) e1<|I.base.free b o e n f;exact⟨F,e2⟩
 ·obtain⟨o',e1⟩:=I.base.there b o e f;exact free b o' (t b o e f) e1 (I.base.free b o e n f)
 ·obtain⟨o',e1⟩:=I.base.there b o e f;exact there b o' (t b o e f) e1
 ·obtain⟨L,e1⟩:=I.base.tbls b ps e;obtain⟨M,e2⟩:=tbls b _ e1;exact⟨L++M,by rw[e2,Array.append_assoc]⟩
 ·obtain⟨m,hn,K⟩:=I.loc;refine⟨m,ns m hn,λi x v e1 e2 e3=>?_⟩;obtain⟨u,r,l⟩:=K i x v e1 e2 e3;refine⟨u,r,?_⟩
  rcases l with l|⟨k,c,e,z⟩
  ·exact .inl l
  ·exact .inr ⟨k,c,e,j x c e _ z⟩
 ·obtain⟨v,z⟩:=I.cell x c e;exact⟨v,j x c e v z⟩
 ·obtain⟨m,⟨o,_,_,B,_⟩,_⟩:=I.loc;exact free _ o (λz=>(U _ z).2.1 rfl) B I.free
 ·obtain⟨v,o,B,D⟩:=I.cell x c e;exact free c o (λz=>(U c z).2.2.1 x c e rfl) B (I.freeC x c e)
 ·obtain⟨e,n,ne,G,d⟩:=I.pin p J;have g:p.1∉ch:=λz=>(U p.1 z).2.2.2 p J rfl;exact⟨keep p.1 p.2 ne G g e n,free p.1 p.2 g e n,ne,G,d⟩
def Inv.un{t':Nat}(I:Inv X pins σ H s)(u:Un X.fs [] H H' s.heap h')(hok:xX X.prog X.w H' h'):Inv X pins σ H' { s with heap:=h',toks:=t' }:=by
 obtain⟨m,⟨o,es,ep,g,r⟩,_⟩:=id I.loc;obtain⟨q,k⟩:=u.any g I.free (by simp);exact I.step (g':=s.gens) (d':=s.drawn) (ch:=[]) (nofun) (λb o _ hb _ e n=>u.keep b o e n hb<|by simp) (λb o _ hb _ e n=>u.slot b o e n hb<|by simp) (λb o _ e n=>u.free b o e n<|by simp) (λb o _ e=>u.there b o e<|by simp) u.tups u.frzs u.tbls (λt j=>by
  obtain⟨o',f,d,c,p⟩:=j;rw[g]at c;cases c;exact⟨_,f,d,k,p⟩) hok I.bare
def Inv.call{g':Array GenState}{t':Nat}{d':Drawn}{ch:ba}(I:Inv X pins σ H s)(u:Un (frs X.stack) ch H H' s.heap h')(hok:xX X.prog X.w H' h')(hg:AllBare g')
  (J:∀b∈ch,(b∈X.ex\/X.s₀.heap.objs.size<=b)/\b≠X.env.locals/\(∀x c,X.env.cells.lookup x=some c->c≠b)/\∀p∈X.pn++pins,p.1≠b) :
  Inv X pins σ H' { s with heap:=h',gens:=g',drawn:=d',toks:=t' }:=by
 obtain⟨m,⟨o,es,ep,k,r⟩,_⟩:=id I.loc;obtain⟨B,g⟩:=u.any k I.free λz=>(J _ z).2.1 rfl;exact I.step (ch:=ch) J (λb o g hb hc e n=>u.keep b o e n (λz=>(bw.mp<|I.IP b z).elim g hb) hc) (λb o _ _ hc e n=>u.any e n hc) (λb o hc e n=>u.free b o e n hc) (λb o hc e=>u.there b o e hc) u.tups u.frzs u.tbls (λC q=>by
  obtain⟨o',j,f,d,t⟩:=q;rw[k]at d;cases d;exact⟨_,j,f,g,t⟩) hok hg
def Inv.turned{t':Nat}{it:ak}(I:Inv X pins σ H s)(k:∀b o,b≠it->s.heap.get? b=some o->h'.get? b=some o)(hn:H it=none)(J:it≠X.env.locals)
  (h1:it∈X.ex\/X.s₀.heap.objs.size<=it) (h2:∀x c,X.env.cells.lookup x=some c->c≠it) (h3:∀p∈X.pn++pins,p.1≠it):Inv X pins σ H { s with heap:=h',toks:=t' }:=by
 have d:∀b u,H b=some u->b≠it:=λb u e z=>by rw[z,hn]at e;cases e
 refine I.step (g':=s.gens) (d':=s.drawn) (ch:=[it]) (λb hb=>?_) (λb o _ _ hc e _=>k b o (λz=>hc<|by simp[z]) e) (λb o _ _ hc e _=>⟨o.slots,k b o (λz=>hc<|by simp[z]) e⟩) (λ_ _ _ _ n=>n)
  (λb o hc e=>⟨o,k b o (λz=>hc<|by simp[z]) e⟩) (λ_ _ e=>e) (λ_ _ _ e=>e) (λb ps e=>⟨#[],by rw[e];simp⟩) (λm f=>?_) (λb u e=>?_) I.bare
 ·have e:b=it:=by simpa using hb
  subst e;exact⟨h1,J,h2,h3⟩
 ·obtain⟨o,es,ep,g,r⟩:=f;exact⟨o,es,ep,k _ o (Ne.symm J) g,r⟩
 ·refine(I.hok b u e).stay (λc v hc q=>k c v ?_ q) (λ_ q=>q) λ_ _ q=>q
  rcases hc with z|z
  ·rw[z];exact d b u e
  ·exact d c _ z
def Inv.tok(I:Inv X pins σ H s)(t:Nat):Inv X pins σ H { s with toks:=t }:=I.un (h':=s.heap) (t':=t) Un.refl I.hok
def Inv.kept{t':Nat}(I:Inv X pins σ H s)(k:∀b u,s.heap.get? b=some u->h'.get? b=some u):Inv X pins σ H { s with heap:=h',toks:=t' }:=I.un (Un.kept k)<|I.hok.kept k
def Inv.laid{a:ak}{t':Nat}(I:Inv X pins σ H s)(k:∀b u,s.heap.get? b=some u->h'.get? b=some u)(J:s.heap.objs.size<=a)(new:kI X.prog X.w (upd H a o) h' a o) :
  Inv X pins σ (upd H a o) { s with heap:=h',toks:=t' }:=I.un (Un.laid k J<|I.hok.fresh J)<|I.hok.laid k J new
def Inv.write{x e:ak}{t':Nat}(I:Inv X pins σ H s)(U:Mut<|H x)(Z:e=x\/H e=some (.own x))(k:∀b u,b≠e->s.heap.get? b=some u->h'.get? b=some u)(J:∃u,h'.get? e=some u)
  (new:kI X.prog X.w (upd H x o) h' x o):Inv X pins σ (upd H x o) { s with heap:=h',toks:=t' }:=I.un (Un.write U Z k J)<|I.hok.write U Z k J new
def Inv.JA{J:bj}(I:Inv X pins σ H s)(h:∀p∈J,s.heap.get? p.1=some p.2/\H p.1=none/\p.1≠X.env.locals/\p.1∉X.fs/\∀v,p.2.data≠.cell v):Inv X J σ H s:=
 ⟨I.ok,I.os,I.bare,I.base,I.loc,I.cell,I.free,I.freeC,λp c=>(bJ.mp c).elim (λz=>I.pin p<|c8 _ z)<|h p,I.hok,I.len⟩
def GA{N:am}(J:N.Nodup){i j:Nat}{x:Str}(a:N[i]?=some x)(b:N[j]?=some x):i=j:=by
 obtain⟨h1,e1⟩:=aG.mp a;obtain⟨h2,e2⟩:=aG.mp b;exact(cI J).mp (e1.trans e2.symm)
def _root_.γ0(h:1=1:=by first|exact .inl rfl|exact .inr rfl|assumption):1=1:=h
def _root_.γ:Lean.Syntax:=γ0._auto_1
def _root_.δ0(h:1=1:=by decide):1=1:=h
def _root_.δ:Lean.Syntax:=δ0._auto_1
def _root_.ε0(h:1=1:=by rfl):1=1:=h
def _root_.ε:Lean.Syntax:=ε0._auto_1
def _root_.ζ0(h:1=1:=by intro _;rfl):1=1:=h
def _root_.ζ:Lean.Syntax:=ζ0._auto_1
def _root_.η0(h:1=1:=by with_unfolding_all rfl):1=1:=h
def _root_.η:Lean.Syntax:=η0._auto_1
def _root_.θ0(h:1=1:=by exact λ_ _=>rfl):1=1:=h
def _root_.θ:Lean.Syntax:=θ0._auto_1
def Mf{A:az}{E:af->aA->Prop}{i:Nat}{x:Str}{v:V}{Q:Unit->aA->Prop}(I:Inv X pins σ H s)(hN:X.N.Nodup)(hi:X.N[i]?=some x)(hx:Loc X.env.scope x)(r:RelV v u)
  (h:∀s',Inv X pins (σ.set i<|some v) H s'->(∃a,Heap.SameBut a s.heap s'.heap/\(a=X.env.locals\/X.env.cells.lookup x=some a))->Q Unit.unit s') (hf:X.fn x=true\/X.env.scope.names.lookup x=some .local<|>γ):wpAny M A (storeName X.env x u) Q E s:=by
 obtain⟨m,hn,hl⟩:=id I.loc;have L:(X.env.scope.kind == .class || (X.env.scope.kind == .module && X.env.locals != X.env.globals))=false:=by rw[I.ok.kind];rfl
 have t:i<σ.length:=by rw[I.len];exact(aG.mp hi).1
 have Yu:=I.Yu;have f:∀{a:ak} {h':aq},(∃o,s.heap.get? a=some o/\H a=none)->Heap.SameBut a s.heap h'->xX X.prog X.w H h':=λ{a h'} ha hs b ob e=>by
  obtain⟨_,_,g⟩:=ha;refine(I.hok b ob e).stay (λc P hc q=>(hs.2 c ?_).trans q) (λ_ q=>q) λ_ _ q=>q;rintro rfl
  rcases hc with rfl|hc
  ·rw[g]at e;cases e
  ·rw[g]at hc;cases hc
 rcases hx with B|B
 ·refine wpAny_storeName_local B hn (λh' T hs=>?_) L;obtain⟨oL,_,_,W,_⟩:=id hn;refine h _ ⟨I.ok,I.os,I.bare,⟨λb o e n hb hx=>?_,λb o e n hb hx=>?_,I.base.free,λb o e hx=>?_,I.base.tups,I.base.frzs,I.base.tbls⟩,⟨_,T,λj y Y e1 e2 e3=>?_⟩,λy c e=>?_,I.free,I.freeC,λp hp=>?_,f ⟨oL,W,I.free⟩ hs,by simpa using I.len⟩ ⟨_,hs,.inl rfl⟩
  ·exact(hs.2 b<|bD<|bU (bh e) I.ok.above).trans (I.base.keep b o e n hb hx)
  ·obtain⟨Z,e1⟩:=I.base.slot b o e n hb hx;exact⟨Z,(hs.2 b<|bD<|bU (bh e) I.ok.above).trans e1⟩
  ·obtain⟨o',e1⟩:=I.base.there b o e hx;exact⟨o',(hs.2 b<|bD<|bU (bh e) I.ok.above).trans e1⟩
  ·by_cases C:j=i
   ·subst C;rw[hi]at e1;cases e1;rw[bK t]at e2
    cases e2
    exact⟨u,r,.inl ⟨B,by simp⟩⟩
   ·rw[bG<|Ne.symm C]at e2;obtain⟨U,r',q⟩:=hl j y Y e1 e2 e3;refine⟨U,r',?_⟩
    rcases q with⟨k,e⟩|⟨k,c,e,z⟩
    ·refine .inl ⟨k,?_⟩;have:y≠x:=λe=>C<|GA hN e1<|e ▸ hi;simp[this,e]
    ·exact .inr ⟨k,c,e,z.sameBut hs<|Yu y c e⟩
  ·obtain⟨P,z⟩:=I.cell y c e;exact⟨P,z.sameBut hs<|Yu y c e⟩
  ·obtain⟨e,n,ne,nf,d⟩:=I.pin p hp;exact⟨(hs.2 p.1 ne).trans e,n,ne,nf,d⟩
 ·have D:X.fn x=true:=by
   rcases hf with z|z
   ·exact z
   ·rw[z]at B;cases B
  obtain⟨c,hc⟩:=I.ok.has x<|.inl B;obtain⟨P,z⟩:=I.cell x c hc;refine wpAny_storeName_cell I.ok.kind B hc z λh' G hs=>?_;obtain⟨oc,K,F⟩:=id z;refine h { s with heap:=h' } ⟨I.ok,I.os,I.bare,⟨λb o e n hb hx=>?_,λb o e n hb hx=>?_,I.base.free,λb o e hx=>?_,I.base.tups,I.base.frzs,I.base.tbls⟩,⟨m,hn.sameBut hs<|Ne.symm<|Yu x c hc,λj y Y e1 e2 e3=>?_⟩,λy O e=>?_,I.free,I.freeC,λp hp=>?_,f ⟨oc,K,I.freeC x c hc⟩ hs,by simpa using I.len⟩ ⟨c,hs,.inr hc⟩
  ·exact(hs.2 b<|bD<|bU (bh e)<|I.ok.cab x c D hc).trans (I.base.keep b o e n hb hx)
  ·obtain⟨Z,e1⟩:=I.base.slot b o e n hb hx;exact⟨Z,(hs.2 b<|bD<|bU (bh e)<|I.ok.cab x c D hc).trans e1⟩
  ·obtain⟨o',e1⟩:=I.base.there b o e hx;exact⟨o',(hs.2 b<|bD<|bU (bh e)<|I.ok.cab x c D hc).trans e1⟩
  ·by_cases C:j=i
   ·subst C;rw[hi]at e1;cases e1;rw[bK t]at e2
    cases e2
    exact⟨u,r,.inr ⟨.inl B,c,hc,G⟩⟩
   ·rw[bG<|Ne.symm C]at e2;obtain⟨U,r',q⟩:=hl j y Y e1 e2 e3;refine⟨U,r',?_⟩
    rcases q with q|⟨k,O,e,z'⟩
    ·exact .inl q
    ·refine .inr ⟨k,O,e,z'.sameBut hs ?_⟩;rintro rfl;exact C<|GA hN e1<|I.ok.inj _ _ _ e hc ▸ hi
  ·by_cases J:O=c
   ·subst J;exact⟨_,G⟩
   ·obtain⟨w2,z2⟩:=I.cell y O e;exact⟨w2,z2.sameBut hs J⟩
  ·obtain⟨e,n,ne,nf,d⟩:=I.pin p hp;refine⟨(hs.2 p.1 ?_).trans e,n,ne,nf,d⟩;intro q;rw[q,K]at e;have q':oc=p.2:=a_ e;exact d P<|by rw[<- q'];exact F
def Gh{A:az}{E:af->aA->Prop}{i:Nat}{x:Str}{v:V}{Q:Unit->aA->Prop}(I:Inv X pins σ H s)(J:X.N.Nodup)(hi:X.N[i]?=some x)(U:Loc X.env.scope x)(r:RelV v u)
  (h:∀s',Inv X pins (σ.set i<|some v) H s'->Q Unit.unit s') (hf:X.fn x=true\/X.env.scope.names.lookup x=some .local<|>γ):wpAny M A (storeName X.env x u) Q E s:=
 Mf I J hi U r (λs' c _=>h s' c) hf
def Inv.Wm{s':aA}{ch:ba}(I:Inv X pins σ H s)(U:s'.os=s.os)(u:Un (frs X.stack) ch H H' s.heap s'.heap)(hok:xX X.prog X.w H' s'.heap)(hg:AllBare s'.gens)
  (J:∀b∈ch,(b∈X.ex\/X.s₀.heap.objs.size<=b)/\b≠X.env.locals/\(∀x c,X.env.cells.lookup x=some c->c≠b)/\∀p∈X.pn++pins,p.1≠b):Inv X pins σ H' s':=by
 obtain⟨h',g',d',t',o'⟩:=s';have e:o'=s.os:=U;subst e;exact I.call (g':=g') (t':=t') (d':=d') u hok hg J
end
meta abbrev XK:=af->Option ak->Hp->Prop
meta abbrev St:=List<|Option V
meta abbrev VK:=V->Hp->Prop
meta abbrev TE:=St->Hp->VK->Prop
meta abbrev TT:=St->Hp->(Bool->Hp->Prop)->Prop
meta abbrev TA:=St->Hp->(List V->Hp->Prop)->Prop
structure Ends where
 nx:St->Hp->Prop
 rt:VK
 bk:St->Hp->Prop:=λ_ _=>False
 ct:St->Hp->Prop:=λ_ _=>False
meta abbrev TS:=Ends->St->Hp->Prop
abbrev EP (X:Cx)(pins:bj)(σ:St)(Q:VK)(u:af)(s':aA):Prop:=∃v H',Inv X pins σ H' s'/\RelV v u/\Q v H'
abbrev TP (X:Cx)(pins:bj)(σ:St)(Q:Bool->Hp->Prop)(b:Bool)(s':aA):Prop:=∃H',Inv X pins σ H' s'/\Q b H'
abbrev AP (X:Cx)(pins:bj)(σ:St)(Q:List V->Hp->Prop)(us:ar)(s':aA):Prop:=∃c H',Inv X pins σ H' s'/\Vals c us/\Q c H'
abbrev SP (X:Cx)(pins:bj)(D:Ends)(f:Flow)(s':aA):Prop:=
 match f with
 | .next=>∃c H',Inv X pins c H' s'/\D.nx c H'
 | .brk=>∃c H',Inv X pins c H' s'/\D.bk c H'
 | .cont=>∃c H',Inv X pins c H' s'/\D.ct c H'
 | .ret u=>∃v c H',Inv X pins c H' s'/\RelV v u/\D.rt v H'
abbrev PE (X:Cx)(e:aC)(t:TE):Prop:=
 ∀(pins:bj) (s:aA) (σ:St) (H:Hp) (Q:VK),Inv X pins σ H s->t σ H Q->wpAny (model X.prog X.w) X.A (eval e X.env) (EP X pins σ Q) X.xe s
abbrev PT (X:Cx)(e:aC)(t:TT):Prop:=
 ∀(pins:bj) (s:aA) (σ:St) (H:Hp) (Q:Bool->Hp->Prop),Inv X pins σ H s->t σ H Q->wpAny (model X.prog X.w) X.A (isTrue e X.env<|eval e X.env) (TP X pins σ Q) X.xe s
abbrev PW (X:Cx)(e:aC)(t:TT):Prop:=
 ∀(c:Sem af) (pins:bj) (s:aA) (σ:St) (H:Hp) (Q:Bool->Hp->Prop),Inv X pins σ H s->t σ H Q->wpAny (model X.prog X.w) X.A (isTrue e X.env c) (TP X pins σ Q) X.xe s
abbrev PA (X:Cx)(es:List aC)(t:TA):Prop:=
 ∀(pos:Pos) (pins:bj) (s:aA) (σ:St) (H:Hp) (Q:List V->Hp->Prop),Inv X pins σ H s->t σ H Q->wpAny (model X.prog X.w) X.A (spliced<|backTo pos<|starEach es X.env) (AP X pins σ Q) X.xe s
abbrev PS (X:Cx)(st:aE)(t:TS):Prop:=
 ∀(pins:bj) (s:aA) (σ:St) (H:Hp) (D:Ends),Inv X pins σ H s->t D σ H->wpAny (model X.prog X.w) X.A (exec st X.env) (SP X pins D) X.xe s
abbrev Eg (X:Cx)(st:List aE)(t:TS):Prop:=
 ∀(pins:bj) (s:aA) (σ:St) (H:Hp) (D:Ends),Inv X pins σ H s->t D σ H->wpAny (model X.prog X.w) X.A (execs st X.env) (SP X pins D) X.xe s
def nA{α:Type}{t:Sem α}{Q Q':α->aA->Prop}{A:az}{E:af->aA->Prop}(h:wpAny M A t Q E s)(J:∀a s,Q a s->Q' a s):wpAny M A t Q' E s:=gv h J λ_ _ x=>x
section
variable {X:Cx}
abbrev adF (i:Nat):TE:=λσ H Q=>∃v,σ[i]?=some (some v)/\Q v H
abbrev tC (v:V):TE:=λ_ H Q=>Q v H
def ZL{i:Nat}{x:Str}(Z:X.N[i]?=some x)(hv:Vis X.env.scope x)(J:(x == ("__debug__" : Str))=false<|>δ)(U:(x == ("__classdict__" : Str))=false<|>δ):PE X (.Name x pos) (adF i):=by
 kt_k;obtain⟨v,e,h⟩:=h;obtain⟨m,hn,j⟩:=I.loc;obtain⟨u,r,l⟩:=j i x v Z e hv;have f:EP X pins σ Q u s:=⟨v,H,I,r,h⟩
 rcases l with⟨g,k⟩|⟨g,c,hc,d⟩
 ·exact wpAny_Name (wpAny_loadName_local I.ok.kind g hn k f) J
 ·rcases g with g|g
  ·exact wpAny_Name (wpAny_loadName_cell I.ok.kind g hc d f) J
  ·exact wpAny_Name (wpAny_loadName_free I.ok.kind g hc d f U) J
def Zm{i j pos}:PE X (.Constant (.int i) j pos) (tC<|.int i):=λ_ _ _ H _ I h=>wpAny_Constant_int ⟨.int i,H,I.tok _,⟨_,rfl⟩,h⟩
def abD{b j pos}:PE X (.Constant (.bool b) j pos) (tC<|.bl b):=λ_ _ _ H _ I h=>Constant_bool ⟨.bl b,H,I,rfl,h⟩
def ZD{j pos}:PE X (.Constant .none j pos) (tC .non):=λ_ _ _ H _ I h=>Constant_none ⟨.non,H,I,rfl,h⟩
abbrev Gl (X:Cx)(x:Str):Prop:=X.env.kindOf x=some .globalImplicit
def KL{E:af->aA->Prop}{H:Hp}{x:Str}{Q:af->aA->Prop}(I:Inv X pins σ H s)(hg:Gl X x)(J:X.mg x=some u)(h:Q u s)
  (U:(x == ("__debug__" : Str))=false<|>δ):wpAny (model X.prog X.w) X.A (eval (.Name x pos) X.env) Q E s:=
 Calls.Name_function_global I.ok.kind hg (Calls.loadGlobal_global (by rw[I.ok.glob];exact I.mod.glob.keeps I.bk) J h) U
def xM{E:af->aA->Prop}{H:Hp}{x:Str}{Q:af->aA->Prop}(I:Inv X pins σ H s)(hg:Gl X x)(J:X.mg x=none)(hv:bootBuiltins x=some u)(h:Q u s)
  (hn:x ≠ "__name__"<|>δ) (U:(x == ("__debug__" : Str))=false<|>δ):wpAny (model X.prog X.w) X.A (eval (.Name x pos) X.env) Q E s:=by
 obtain⟨c,h1,h2⟩:=I.mod.blt;exact Calls.Name_function_global I.ok.kind hg (Calls.loadGlobal_builtin (by rw[I.ok.glob];exact I.mod.glob.keeps I.bk) J (by rw[I.ok.blt];exact h1.keeps I.bk) ((h2 x hn).trans hv) h) U
def U8{x:Str}{v:V}(hg:Gl X x)(J:X.mg x=some u)(r:RelV v u)(U:(x == ("__debug__" : Str))=false<|>δ):PE X (.Name x pos) (tC v):=
 λ_ _ _ H _ I h=>KL I hg J ⟨v,H,I,r,h⟩ U
def Vs{x:Str}{v:V}(hg:Gl X x)(J:X.mg x=none)(hv:bootBuiltins x=some u)(r:RelV v u)(hn:x ≠ "__name__"<|>δ)(U:(x == ("__debug__" : Str))=false<|>δ):PE X (.Name x pos) (tC v):=
 λ_ _ _ H _ I h=>xM I hg J hv ⟨v,H,I,r,h⟩ hn U
variable {a b:aC}{ta tb:TE}{pos:Pos}
variable {tA tB':TT}{rest:List aC}
abbrev abm (t u:TT):TT:=λσ H Q=>t σ H λc H1=>if c=true then u σ H1 Q else Q false H1
abbrev tOr (t u:TT):TT:=λσ H Q=>t σ H λc H1=>if c=true then Q true H1 else u σ H1 Q
abbrev acS (t:TT):TT:=λσ H Q=>t σ H λc H1=>Q (!c) H1
def Ug(ha:PT X a tA):PW X (.BoolOp .And [a] pos) tA:=by
 intro d pins s σ H Q I h;refine isTrue_and (nA (ha pins s σ H Q I h) λc f e=>?_)
 cases c with
 | true=>exact isTrue_and_nil e
 | false=>exact e
def Za(ha:PT X a tA):PW X (.BoolOp .Or [a] pos) tA:=by
 intro d pins s σ H Q I h;refine isTrue_or (nA (ha pins s σ H Q I h) λc f e=>?_)
 cases c with
 | false=>exact isTrue_or_nil e
 | true=>exact e
def Yr(ha:PT X a tA)(hb:PW X (.BoolOp .And (b::rest) pos) tB'):PW X (.BoolOp .And (a::b::rest) pos) (abm tA tB'):=by
 intro f pins s σ H Q I h;refine isTrue_and (nA (ha pins s σ H _ I h) λc g ⟨H1,I1,d⟩=>?_)
 cases c with
 | true=>exact hb f pins g σ H1 Q I1 d
 | false=>exact⟨H1,I1,d⟩
def ab_(ha:PT X a tA)(hb:PW X (.BoolOp .Or (b::rest) pos) tB'):PW X (.BoolOp .Or (a::b::rest) pos) (tOr tA tB'):=by
 intro f pins s σ H Q I h;refine isTrue_or (nA (ha pins s σ H _ I h) λc g ⟨H1,I1,d⟩=>?_)
 cases c with
 | true=>exact⟨H1,I1,d⟩
 | false=>exact hb f pins g σ H1 Q I1 d
def YB(ha:PT X a tA):PT X (.UnaryOp .Not a pos) (acS tA):=by
 kt_k;exact isTrue_not<|ha pins s σ H (λc H1=>Q (!c) H1) I h
abbrev aa0 (ta tb:TE):TE:=λσ H Q=>ta σ H λx H1=>∃c,x=.bl c/\if c=true then tb σ H1 Q else Q (.bl false) H1
abbrev abA (ta:TE):TE:=λσ H Q=>ta σ H λx H1=>∃c,x=.bl c/\Q (.bl<|!c) H1
def Zr{op}{t:TE}(h:PE X a t):PE X (.BoolOp op [a] pos) t:=λpins s σ H Q I hw=>BoolOp_one<|h pins s σ H Q I hw
def YN(ha:PE X a ta)(hb:PE X (.BoolOp .And (b::rest) pos) tb):PE X (.BoolOp .And (a::b::rest) pos) (aa0 ta tb):=by
 kt_k;refine BoolOp_and<|nA (ha pins s σ H _ I h) λv f ⟨x,H1,I1,r1,d⟩=>?_;obtain⟨c,rfl,d⟩:=d
 cases r1
 refine dz ?_
 cases c with
 | true=>exact hb pins f σ H1 Q I1 d
 | false=>exact⟨.bl false,H1,I1,rfl,d⟩
def YI(ha:PE X a ta):PE X (.UnaryOp .Not a pos) (abA ta):=by
 kt_k;refine UnaryOp_<|nA (ha pins s σ H _ I h) λv f ⟨x,H1,I1,r1,d⟩=>?_;obtain⟨c,rfl,d⟩:=d
 cases r1
 exact not_of<|dz ⟨.bl<|!c,H1,I1,rfl,d⟩
abbrev tIf (t:TT)(ta tb:TE):TE:=λσ H Q=>t σ H λc H1=>if c=true then ta σ H1 Q else tb σ H1 Q
def P4{c:aC}(hc:PT X c tA)(ha:PE X a ta)(hb:PE X b tb):PE X (.IfExp c a b pos) (tIf tA ta tb):=by
 kt_k;refine wpAny_IfExp (nA (hc pins s σ H _ I h) λd g ⟨H1,I1,f⟩=>?_)
 cases d with
 | true=>exact ha pins g σ H1 Q I1 f
 | false=>exact hb pins g σ H1 Q I1 f
end
abbrev qf (K:au)(H:Hp)(a:ak)(xs:List V):Prop:=
 Rd H a (.lst xs) \/
  ∃(o:Obj) (c:Array af) (n:Nat),K.lookup a=some o/\o.cls=.type "list" /\ o.dict=none/\o.data=.seq c n/\c.size<=sizeLine/\Vals xs c.toList
abbrev nX (K:au)(H:Hp)(a:ak)(xs:List V):Prop:=
 Rd H a (.tup xs) \/
  ∃(o:Obj) (c:Array af) (n:Nat),K.lookup a=some o/\o.cls=.type "tuple" /\ o.dict=none/\o.data=.seq c n/\c.size<=sizeLine/\Vals xs c.toList
abbrev ada:af->Option V
 | .none=>some .non
 | .bool b=>some (.bl b)
 | .int i _=>some (.int i)
 | .str x _=>some (.str x)
 | .bytes b _=>some (.byt b)
 | .float b _=>some (.flt b)
 | .ref a=>some (.ref a)
 | .type n=>some (.ty n)
 | _=>none
def RelV.abs{x:V}(r:RelV x u):ada u=some x:=by
 cases x with
 | non=>cases r;rfl
 | bl _=>cases r;rfl
 | int _=>obtain⟨t,rfl⟩:=r;rfl
 | str _=>obtain⟨t,rfl⟩:=r;rfl
 | byt _=>obtain⟨t,rfl⟩:=r;rfl
 | flt _=>obtain⟨t,rfl⟩:=r;rfl
 | ref _=>cases r;rfl
 | ty _=>cases r;rfl
def RelV.inj{x:V}(r:RelV x u)(q:RelV y u):x=y:=a_<|r.abs.symm.trans q.abs
theorem Vals.inj:∀{xs ys:List V}{us:ar},Vals xs us->Vals ys us->xs=ys
 | _,_,_,.nil,.nil=>rfl
 | _,_,_,.cons r t,.cons d c=>by rw[r.inj d,Vals.inj t c]
section
variable {X:Cx}{pins:bj}{σ:St}{H:Hp}{s:aA}{a:ak}{xs ys:List V}
def qf.of{K:au}(h:H a=some (.lst xs)):qf K H a xs:=.inl<|.inl h
def nX.of{K:au}(h:H a=some (.tup xs)):nX K H a xs:=.inl<|.inl h
def Inv.list(I:Inv X pins σ H s)(h:qf X.K H a xs):∃its:ar,Vals xs its/\PlainL s.heap a its.toArray/\xs.length<=sizeLine:=by
 rcases h with h|⟨o,its,n,d,hc,c,hs,f,r⟩
 ·obtain⟨z,its,n,r,e⟩:=h.ok I.hok;exact⟨its,r,⟨_,n,e,rfl,rfl,rfl⟩,z⟩
 ·refine⟨its.toList,r,⟨o,n,I.Ed a o d,hc,c,by simpa using hs⟩,?_⟩;have e:=r.length;dsimp[dZ]at e
  lia
def Inv.tuple(I:Inv X pins σ H s)(h:nX X.K H a xs):∃its:ar,Vals xs its/\IsTup s.heap a its.toArray/\xs.length<=sizeLine:=by
 rcases h with h|⟨o,its,n,c,hc,_,hs,d,r⟩
 ·obtain⟨z,its,r,p⟩:=h.ok I.hok;exact⟨its,r,p.tup,z⟩
 ·refine⟨its.toList,r,⟨o,I.Ed a o c,hc,n,by simpa using hs⟩,?_⟩;have e:=r.length;dsimp[dZ]at e
  lia
def Inv.ZU(I:Inv X pins σ H s)(h:nX X.K H a xs):∃o,s.heap.get? a=some o/\o.cls=.type "tuple" /\ o.dict=none:=by
 rcases h with h|⟨o,f,n,j,hc,g,hs,k,r⟩
 ·obtain⟨z,f,r,o,e,c,d,_⟩:=h.ok I.hok;exact⟨o,e,c,d⟩
 ·exact⟨o,I.Ed a o j,hc,g⟩
def Inv.Gz(I:Inv X pins σ H s)(h:qf X.K H a xs)(h':qf X.K H a ys):xs=ys:=by
 obtain⟨f,r,⟨o,n,e,_,_,d⟩,_⟩:=I.list h;obtain⟨c,k,⟨o',p,j,_,_,g⟩,_⟩:=I.list h';rw[e]at j;cases j;rw[d]at g
 injection g with m _
 have:f=c:=by simpa using cH Array.toList m
 subst this;exact r.inj k
def Inv.yO(I:Inv X pins σ H s)(h:nX X.K H a xs)(h':nX X.K H a ys):xs=ys:=by
 obtain⟨f,r,⟨o,e,_,n,d⟩,_⟩:=I.tuple h;obtain⟨c,k,⟨o',j,_,p,g⟩,_⟩:=I.tuple h';rw[e]at j;cases j;rw[d]at g
 injection g with m _
 have:f=c:=by simpa using cH Array.toList m
 subst this;exact r.inj k
end
meta abbrev Cx.Cg (X:Cx)(E:af->aA->Prop):Cx:={ X with xe:=E }
meta abbrev Cx.nox (X:Cx):Cx:=X.Cg λ_ _=>False
def Cx.Ok.Cg{X:Cx}(ok:X.Ok)(E:af->aA->Prop):(X.Cg E).Ok:=
 ⟨ok.mod,ok.kind,ok.glob,ok.blt,ok.above,ok.inj,ok.has,ok.cab,ok.hd,ok.frames,ok.stk,ok.exf,ok.bs,ok.bsz,ok.noex,ok.exfs,ok.A9,ok.frf⟩
def Cx.Ok.vq{X:Cx}{E:af->aA->Prop}(ok:(X.Cg E).Ok):X.Ok:=
 ⟨ok.mod,ok.kind,ok.glob,ok.blt,ok.above,ok.inj,ok.has,ok.cab,ok.hd,ok.frames,ok.stk,ok.exf,ok.bs,ok.bsz,ok.noex,ok.exfs,ok.A9,ok.frf⟩
section
variable {X:Cx}{pins:bj}{σ:St}{H:Hp}{s:aA}{E:af->aA->Prop}
def Inv.Cg(I:Inv X pins σ H s)(E:af->aA->Prop):Inv (X.Cg E) pins σ H s:=⟨I.ok.Cg E,I.os,I.bare,I.base,I.loc,I.cell,I.free,I.freeC,I.pin,I.hok,I.len⟩
def Inv.vq(I:Inv (X.Cg E) pins σ H s):Inv X pins σ H s:=⟨I.ok.vq,I.os,I.bare,I.base,I.loc,I.cell,I.free,I.freeC,I.pin,I.hok,I.len⟩
def SP.vq{D:Ends}{f:Flow}(h:SP (X.Cg E) pins D f s'):SP X pins D f s':=by
 cases f with
 | next=>obtain⟨c,H',I,q⟩:=h;exact⟨c,H',I.vq,q⟩
 | brk=>obtain⟨c,H',I,q⟩:=h;exact⟨c,H',I.vq,q⟩
 | cont=>obtain⟨c,H',I,q⟩:=h;exact⟨c,H',I.vq,q⟩
 | ret u=>obtain⟨v,c,H',I,r,q⟩:=h;exact⟨v,c,H',I.vq,r,q⟩
def Eg.nox{st:List aE}{t:TS}(h:Eg X.nox st t):Eg X st t:=λpins s σ H D I hw=>
 gv (h pins s σ H D (I.Cg _) hw) (λ_ _ q=>q.vq) λ_ _ z=>False.elim z
end
section
variable {X:Cx}{st:aE}{rest:List aE}{t u:TS}{e:aC}{te:TE}{pos:Pos}
abbrev aa_:TS:=λD σ H=>D.nx σ H
abbrev abt (t u:TS):TS:=λD σ H=>t { D with nx:=u D } σ H
def VM:Eg X [] aa_:=λ_ _ σ H _ I h=>iE ⟨σ,H,I,h⟩
def Rk(h1:PS X st t)(h2:Eg X rest u):Eg X (st::rest) (abt t u):=by
 intro pins s σ H D I h;refine wpAny_execs_cons (nA (h1 pins s σ H { D with nx:=u D } I h) λf g q=>?_)
 cases f with
 | next=>
  obtain⟨c,H',d,q⟩:=q;exact h2 pins g c H' D d q
 | ret v=>exact q
 | brk=>exact q
 | cont=>exact q
def Vh(h1:PS X st t):Eg X [st] t:=by
 intro pins s σ H D I h;refine wpAny_execs_cons (nA (h1 pins s σ H D I h) λf c q=>?_)
 cases f with
 | next=>exact iE q
 | ret v=>exact q
 | brk=>exact q
 | cont=>exact q
def Inv.quiet{H:Hp}(I:Inv X pins σ H s):interactive X.env=false:=by simp[interactive,I.ok.kind]
abbrev aar (te:TE):TS:=λD σ H=>te σ H λ_ H1=>D.nx σ H1
def Uv(J:PE X e te)(hs:swapsWith e none pos.line X.env=pure false<|>ε):PS X (.Expr e pos) (aar te):=by
 intro pins s σ H D I h;exact wpAny_Expr_any (nA (J pins s σ H _ I h) λv d ⟨x,H1,I1,r1,c⟩=>⟨σ,H1,I1,c⟩) I.quiet hs
abbrev ad_ (te:TE):TS:=λD σ H=>te σ H D.rt
def Y6(J:PE X e te):PS X (.Return (some e) pos) (ad_ te):=by
 intro pins s σ H D I h;exact wpAny_Return_some<|nA (J pins s σ H _ I h) λv d ⟨x,H1,I1,r1,c⟩=>⟨x,σ,H1,I1,r1,c⟩
abbrev adj (c:TT)(t u:TS):TS:=λD σ H=>c σ H λb H1=>if b=true then t D σ H1 else u D σ H1
def abg{c:aC}{a b:List aE}{tc:TT}(hc:PT X c tc)(ha:Eg X a t)(hb:Eg X b u):PS X (.If c a b pos) (adj tc t u):=by
 intro pins s σ H D I h;refine wpAny_If (nA (hc pins s σ H _ I h) λd g ⟨H1,I1,f⟩=>?_)
 cases d with
 | true=>exact ha pins g σ H1 D I1 f
 | false=>exact hb pins g σ H1 D I1 f
abbrev Xz:TS:=λ_ _ _=>False
def QI:PS X st Xz:=λ_ _ _ _ _ _ h=>h.elim
end
meta abbrev TG:=V->St->Hp->(St->Hp->Prop)->Prop
meta abbrev Wc:=List V->St->Hp->(St->Hp->Prop)->Prop
abbrev PG (X:Cx)(J:aC)(t:TG):Prop:=
 ∀(pins:bj) (s:aA) (σ:St) (H:Hp) (v:V) (u:af) (Q:St->Hp->Prop),Inv X pins σ H s->RelV v u->t v σ H Q ->
  wpAny (model X.prog X.w) X.A (assign J X.env u) (λ_ s'=>∃c H',Inv X pins c H' s'/\Q c H') X.xe s
abbrev PGs (X:Cx)(ts:List aC)(t:Wc):Prop:=
 ∀(pins:bj) (s:aA) (σ:St) (H:Hp) (d:List V) (us:ar) (Q:St->Hp->Prop),Inv X pins σ H s->Vals d us->t d σ H Q ->
  wpAny (model X.prog X.w) X.A (assignInOrder ((assignEach ts X.env).map (·.2)) us) (λ_ s'=>∃c H',Inv X pins c H' s'/\Q c H') X.xe s
meta abbrev HQ:=V->V->V->Hp->(Hp->Prop)->Prop
abbrev Ho (X:Cx)(t:HQ):Prop:=
 ∀(pins:bj) (s:aA) (σ:St) (H:Hp) (o i v:V) (c iv u:af) (Q:Hp->Prop),Inv X pins σ H s->RelV o c->RelV i iv->RelV v u->t o i v H Q ->
  wpAny (model X.prog X.w) X.A (setItem c iv u) (λ_ s'=>∃H',Inv X pins σ H' s'/\Q H') X.xe s
section
variable {X:Cx}{pos:Pos}
abbrev QK (i:Nat):TG:=λv σ H Q=>Q (σ.set i<|some v) H
def KC{i:Nat}{x:Str}(J:X.N.Nodup)(hi:X.N[i]?=some x)(U:Loc X.env.scope x)(hf:X.fn x=true\/X.env.scope.names.lookup x=some .local<|>γ):PG X (.Name x pos) (QK i):=by
 intro pins s σ H v u Q I r h;exact wpAny_assign_Name<|Gh I J hi U r (λs' c=>⟨_,H,c,h⟩) hf
abbrev ads:Wc:=λc σ H Q=>c=[]/\Q σ H
abbrev acg (t:TG)(u:Wc):Wc:=λd σ H Q=>∃v r,d=v::r/\t v σ H λc H'=>u r c H' Q
def UH:PGs X [] ads:=by
 intro pins s σ H c us Q I r h;obtain⟨e,h⟩:=h;subst e
 cases r
 exact assignInOrder_nil ⟨σ,H,I,h⟩
def Q3{e:aC}{t:TG}{u:Wc}(h1:PG X e t)(h2:PGs X es u)
  (hs:(assignEach (e::es) X.env).map (·.2)=assign e X.env::(assignEach es X.env).map (·.2)<|>ε):PGs X (e::es) (acg t u):=by
 intro pins s σ H k us Q I r h;obtain⟨v,j,e1,h⟩:=h;subst e1
 cases r with
 | cons r g=>
  rw[hs];refine assignInOrder_cons<|nA (h1 pins s σ H _ _ _ I r h) λ_ d ⟨c,H1,I1,f⟩=>?_;exact h2 pins d c H1 _ _ Q I1 g f
abbrev acZ (K:au)(n:Nat)(t:Wc):TG:=λv σ H Q=>∃a xs,v=.ref a/\nX K H a xs/\xs.length=n/\t xs σ H Q
def ZT{k:Nat}{t:Wc}{n:Nat}(hc:X.calm=true)(h:PGs X es t)
  (hn:(assignEach es X.env).length=n<|>ε) (J:(assignEach es X.env).findIdx? (·.1)=none<|>ε):PG X (.Tuple es k pos) (acZ X.K n t):=by
 intro pins s σ H v u Q I r hw;obtain⟨a,xs,e1,m,g,hw⟩:=hw;subst e1
 cases r
 obtain⟨d,c,j,p⟩:=I.tuple m;refine assign_Tuple_tuple (I.ok.hd hc) j (by simp[hn,<- g,c.length]) J λh' f=>?_;have I1:Inv X pins σ H { s with heap:=h' }:=I.kept (t':=s.toks) λb o e=>f b o (bD<|bh e) e;exact h pins _ σ H xs _ Q I1 (by simpa using c) hw
abbrev acQ (to J:TE)(t:HQ):TG:=λv σ H Q=>to σ H λo H1=>J σ H1 λi H2=>t o i v H2 λH3=>Q σ H3
def Em{to J:TE}{t:HQ}(U:PE X o to)(hi:PE X i J)(hs:Ho X t)
  (ha:(∀v,assign (.Subscript o i pos) X.env v=(do
   let ov <- holding [v] (eval o X.env)
   let iv <- holding [v,ov] (eval i X.env)
   standAt pos
   holding [v,ov,iv] (setItem ov iv v)
   release [v,ov,iv] []))<|>ζ):PG X (.Subscript o i pos) (acQ to J t):=by
 intro pins s σ H v u Q I r h;rw[ha];refine aI<|dR<|nA (U pins s σ H _ I h) λov f ⟨x,H1,I1,r1,j⟩=>?_;refine aI<|dR<|nA (hi pins f σ H1 _ I1 j) λiv m ⟨y,H2,c,r2,d⟩=>?_;refine aI<|wpAny_standAt<|aI<|dR<|nA (hs pins m σ H2 x y v ov iv u _ c r1 r2 r d) λ_ p ⟨H3,g,k⟩=>?_;exact wpAny_release ⟨σ,H3,g,k⟩
abbrev Ue (te:TE)(g:TG):TS:=λD σ H=>te σ H λx H1=>g x σ H1 D.nx
def Xp{tg e:aC}{te:TE}{g:TG}(J:PE X e te)(hg:PG X tg g)(hs:swapsWithSole [tg] e pos.line X.env=pure false<|>ε)(hw:swappedStores [tg] e X.env=pure none<|>ε)
  (h1:(assignEach [tg] X.env).map (·.2)=[assign tg X.env]<|>ε):PS X (.Assign [tg] e pos) (Ue te g):=by
 intro pins s σ H D I h;refine wpAny_Assign_stores (nA (J pins s σ H _ I h) λv d ⟨x,H1,I1,r1,c⟩=>?_) hs hw;rw[h1];exact nA (hg pins d σ H1 x v _ I1 r1 c) λ_ f q=>q
def YD{i:Nat}{x:Str}{e:aC}{te:TE}(J:X.N.Nodup)(hi:X.N[i]?=some x)(U:Loc X.env.scope x)(Z:PE X e te)(hs:(swapsWith e (some<|.Name x pos') pos.line X.env=pure false)<|>ε)(hf:X.fn x=true\/X.env.scope.names.lookup x=some .local<|>γ) :
  PS X (.Assign [.Name x pos'] e pos) (Ue te<|QK i):=by
 intro pins s σ H D I h;refine wpAny_Assign_Name (nA (Z pins s σ H _ I h) λv g ⟨y,H1,I1,r1,d⟩=>?_) hs;exact Gh I1 J hi U r1 (λf c=>⟨_,H1,c,d⟩) hf
end
section
variable {X:Cx}{pos:Pos}
abbrev ZA (c:TT)(tb:TS):TS:=λD σ H=>∃W:Nat->St->Hp->Prop,(∃m,W m σ H)/\∀m σ H,W m σ H ->
 c σ H λb H1=>if b=true then ∃N:St->Hp->Prop,(∀d H',N d H'->∃f,f<m/\W f d H')/\tb { D with nx:=N,ct:=N,bk:=D.nx } σ H1 else D.nx σ H1
def Oc{c:aC}{tc:TT}{tb:TS}(U:PassesOwn (model X.prog X.w) X.A X.env X.xe)(hc:PT X c tc)(hb:Eg X body tb):PS X (.While c body [] pos) (ZA tc tb):=by
 intro pins s σ H D I h;obtain⟨W,⟨O,K⟩,turn⟩:=h;refine wpAny_While<|codeAny_whileLoop (λn s'=>∃j H',Inv X pins j H' s'/\W n j H') ?_ O ⟨σ,H,I,K⟩;rintro n J ⟨g,H1,I1,M⟩;refine eK U (nA (hc pins J g H1 _ I1<|turn n g H1 M) λb L ⟨H2,F,k⟩=>?_)
 cases b with
 | true=>
  obtain⟨N,G,k⟩:=k;rw[aR rfl];refine eK U (nA (hb pins L g H2 _ F k) λf P m=>?_)
  cases f with
  | next=>
   obtain⟨d,H3,B,q⟩:=m;obtain⟨C,t,p⟩:=G d H3 q;exact⟨C,t,d,H3,B,p⟩
  | cont=>
   obtain⟨d,H3,B,q⟩:=m;obtain⟨C,t,p⟩:=G d H3 q;exact⟨C,t,d,H3,B,p⟩
  | brk=>exact m
  | ret v=>exact m
 | false=>
  rw[aN br];exact iE ⟨g,H2,F,k⟩
end
structure It where
 go:Nat->Hp->Prop
 yld:Nat->Hp->V->Hp->Prop
 stop:Nat->Hp->Prop
abbrev yU (X:Cx)(pins:bj)(H:Hp)(b:ak):Prop:=
 H b=none/\b≠X.env.locals/\b∉X.fs/\(b∈X.ex\/X.s₀.heap.objs.size<=b)/\(∀x c,X.env.cells.lookup x=some c->c≠b)/\∀p∈X.pn++pins,p.1≠b
def Inv.Co{X:Cx}{H H':Hp}{s:aA}{b:ak}(I:Inv X pins σ H s)(hb:s.heap.objs.size<=b)(hn:H' b=none):yU X pins H' b:=by
 refine⟨hn,iM<|bU I.lt hb,I.adS hb,.inr<|bI I.sz hb,λx c e z=>?_,λp d z=>?_⟩
 ·obtain⟨v,q⟩:=I.cell x c e;exact absurd (bU q.lt<|by rw[z];exact hb) (dQ _)
 ·exact absurd (bU (bh (I.pin p d).1)<|by rw[z];exact hb)<|dQ _
structure Turn (P:aj)(w:ah)(K:au)(tg:aC)(J:It)(fp:ba)(it:ak)(tn:Nat->aq->Prop):Prop where
 mem:it∈fp
 obj:∀i h,tn i h->∀b∈fp,∃o,h.get? b=some o/\∀v,o.data≠.cell v
 keep:∀i h h',tn i h->(∀b∈fp,∀o,h.get? b=some o->h'.get? b=some o)->tn i h'
 item:∀(X:Cx),X.prog=P->X.w=w->X.K=K->X.calm=true->∀(i:Nat) (pins:bj) (s:aA) (σ:St) (H:Hp) (E:af->aA->Prop),Inv X pins σ H s->(∀b∈fp,yU X pins H b)->tn i s.heap->J.go i H ->
  wpAny (model P w) X.A (pyNext<|.ref it) (λr s1=>∃u,r=some u /\
   wpAny (model P w) X.A (letOwnedTupleGo tg (.ref it) u) (λ_ s2=>∃x H',Inv X pins σ H' s2/\RelV x u/\J.yld i H x H'/\tn (i+1) s2.heap/\∀b∈fp,H' b=none) E s1) E s
 done:∀(X:Cx),X.prog=P->X.w=w->X.K=K->X.calm=true->∀(i:Nat) (pins:bj) (s:aA) (σ:St) (H:Hp) (E:af->aA->Prop),Inv X pins σ H s->(∀b∈fp,yU X pins H b)->tn i s.heap->J.stop i H ->
  wpAny (model P w) X.A (pyNext<|.ref it) (λr s1=>r=none/\Inv X pins σ H s1) E s
 self:∀(A:az) (i:Nat) (s:aA) (Q:af->aA->Prop) (E:af->aA->Prop),tn i s.heap->Q (.ref it) s->wpAny (model P w) A (pyIter<|.ref it) Q E s
meta abbrev TI:=St->Hp->(It->Hp->Prop)->Prop
abbrev PIE (X:Cx)(pins:bj)(σ:St)(tg:aC)(R:It->Hp->Prop)(U:af)(Z:aA):Prop:=
 ∃(it:ak) (d:ba) (c:Nat->aq->Prop) (J:It) (H':Hp),U=.ref it/\Inv X pins σ H' Z/\Turn X.prog X.w X.K tg J d it c/\c 0 Z.heap/\(∀b∈d,yU X pins H' b)/\R J H'
abbrev PI (X:Cx)(tg iter:aC)(J:TI):Prop:=
 ∀(pins:bj) (s:aA) (σ:St) (H:Hp) (R:It->Hp->Prop),Inv X pins σ H s->J σ H R ->
  wpAny (model X.prog X.w) X.A (eval iter X.env) (λv c=>wpAny (model X.prog X.w) X.A (pyIter v) (PIE X pins σ tg R) X.xe c) X.xe s
def G8{A:az}{E:af->aA->Prop}{s:aA}{o:Obj}{n:String}{Q:Unit->aA->Prop}(U:s.heap.get? it=some o)(hc:o.cls=.type n)(Z:o.data=.fields vs)
  (hn:["enumerate", "zip", "dict_itemiterator", "dict_reverseitemiterator", "odict_iterator", "itertools.zip_longest", "itertools.pairwise"].contains n=false) (J:Q Unit.unit s):wpAny M A (letOwnedTupleGo tg (.ref it) u) Q E s:=by
 unfold letOwnedTupleGo
 cases tg<;>first
  | exact aV J
  | (cases u<;>first
    | exact aV J
    | (refine aI (wpAny_load U ?_)
       rw[hc,Z];show wpAny M A (if (["enumerate", "zip", "dict_itemiterator", "dict_reverseitemiterator", "odict_iterator", "itertools.zip_longest", "itertools.pairwise"].contains n && vs[0]? == some (rawInt _))=true then _ else _) Q E s;rw[aN<|by intro h;rw[hn,Bool.false_and]at h;cases h];exact aV J))
abbrev Itl (K:au)(a:ak):It:=
 ⟨λi H=>∃xs x,qf K H a xs/\xs[i]?=some x,λi H x H'=>H'=H/\∀xs,qf K H a xs->xs[i]?=some x,λi H=>∃xs,qf K H a xs/\xs.length<=i⟩
abbrev Itt (K:au)(a:ak):It:=
 ⟨λi H=>∃xs x,nX K H a xs/\xs[i]?=some x,λi H x H'=>H'=H/\∀xs,nX K H a xs->xs[i]?=some x,λi H=>∃xs,nX K H a xs/\xs.length<=i⟩
abbrev Itr (lo:Int)(n:Nat):It:=⟨λi _=>i<n,λi H x H'=>H'=H/\x=.int (lo+i),λi _=>n<=i⟩
def Nb{P:aj}{w:ah}{K:au}(a it:ak):Turn P w K tg (Itl K a) [it] it (λi h=>h.IsListIter it a i) where
 mem:=by simp
 obj:=λi h st b hb=>by
  have e:b=it:=by simpa using hb
  subst e;obtain⟨o,e,c,d⟩:=st;exact⟨o,e,λv z=>by rw[d]at z;cases z⟩
 keep:=λi h h' st k=>st.at λo e=>k it (by simp) o e
 item:=by
  x_go;subst hP hw hK;obtain⟨xs,x,g,j⟩:=hg;obtain⟨m,q,p,G⟩:=I.list g;obtain⟨u,t,B⟩:=q.get j;kcj_m;refine wpAny_pyNext_list_item st p.isList (x:=u) (by simpa using t) λh' f F=>?_;have I1:Inv X pins σ H { s with heap:=h' }:=I.turned (t':=s.toks) (λb o hb e=>(F.2 b hb).trans e) f0 f1 f3 f4 f5;obtain⟨o,e,c,d⟩:=id f;exact⟨u,rfl,G8 (s:={ s with heap:=h' }) e c d ⋯ ⟨x,H,I1,B,⟨rfl,λys D=>by rw[I.Gz D g];exact j⟩,f,λb hb=>(hf b hb).1⟩⟩
 done:=by
  x_go;subst hP hw hK;obtain⟨xs,g,j⟩:=hg;obtain⟨m,q,p,G⟩:=I.list g;kcj_m;have J:=q.length;exact wpAny_pyNext_list_end (I.ok.hd hc) st p.isList (by simp;omega) λh' C=>⟨rfl,I.turned (t':=s.toks) (λb o hb e=>C b o hb e) f0 f1 f3 f4 f5⟩
 self:=λ_ _ _ _ _ st h=>wpAny_pyIter_listiter st h
def Ir{P:aj}{w:ah}{K:au}(a it:ak):Turn P w K tg (Itt K a) [it] it (λi h=>h.IsTupleIter it a i) where
 mem:=by simp
 obj:=λi h st b hb=>by
  have e:b=it:=by simpa using hb
  subst e;obtain⟨o,e,c,d⟩:=st;exact⟨o,e,λv z=>by rw[d]at z;cases z⟩
 keep:=λi h h' st k=>st.at λo e=>k it (by simp) o e
 item:=by
  x_go;subst hP hw hK;obtain⟨xs,x,j,m⟩:=hg;obtain⟨f,q,p,G⟩:=I.tuple j;obtain⟨u,t,B⟩:=q.get m;kcj_m;refine wpAny_pyNext_tuple_item st (show s.heap.IsTuple a f.toArray from p) (x:=u) (by simpa using t) λh' g F=>?_;have I1:Inv X pins σ H { s with heap:=h' }:=I.turned (t':=s.toks) (λb o hb e=>(F.2 b hb).trans e) f0 f1 f3 f4 f5;obtain⟨o,e,c,d⟩:=id g;exact⟨u,rfl,G8 (s:={ s with heap:=h' }) e c d ⋯ ⟨x,H,I1,B,⟨rfl,λys D=>by rw[I.yO D j];exact m⟩,g,λb hb=>(hf b hb).1⟩⟩
 done:=by
  x_go;subst hP hw hK;obtain⟨xs,j,m⟩:=hg;obtain⟨f,q,p,G⟩:=I.tuple j;kcj_m;have J:=q.length;exact wpAny_pyNext_tuple_end (I.ok.hd hc) st (show s.heap.IsTuple a f.toArray from p) (by simp;omega) λh' C=>⟨rfl,I.turned (t':=s.toks) (λb o hb e=>C b o hb e) f0 f1 f3 f4 f5⟩
 self:=λ_ _ _ _ _ st h=>wpAny_pyIter_tupleiter st h
def Ie{P:aj}{w:ah}{K:au}(it:ak)(lo:Int)(n:Nat):Turn P w K tg (Itr lo n) [it] it (λi h=>IsRangeIter h it (lo+(i:Nat) * 1) ((n:Int)-(i:Nat)) 1) where
 mem:=by simp
 obj:=λi h st b hb=>by
  have e:b=it:=by simpa using hb
  subst e;exact⟨_,st,λv z=>by
   have g:Data.fields _=Data.cell v:=z
   cases g⟩
 keep:=λi h h' st k=>k it (by simp) _ st
 item:=by
  x_go;subst hP hw hK;kcj_m;have W:=Walks.range (prog:=X.prog) (w:=X.w) (I.ok.hd hc) it lo 1 n;refine W.item i s _ _ hg st λv h' d hv c f=>?_;obtain⟨t,rfl⟩:=hv;have I1:Inv X pins σ H { s with heap:=h',toks:=d }:=I.turned (λb o hb e=>f b o (by simpa using hb) e) f0 f1 f3 f4 f5;refine⟨_,rfl,G8 (s:={ s with heap:=h',toks:=d }) (n := "range_iterator") c rfl rfl ⋯ ⟨.int<|lo+i,H,I1,⟨t,?_⟩,⟨rfl,rfl⟩,c,λb hb=>(hf b hb).1⟩⟩;rw[Int.mul_one]
 done:=by
  x_go;subst hP hw hK;kcj_m;exact wpAny_pyNext_range_end (I.ok.hd hc) st (by have:n<=i:=hg;lia) λh' j=>⟨rfl,I.turned (t':=s.toks) (λb o hb e=>j b o hb e) f0 f1 f3 f4 f5⟩
 self:=λ_ _ _ _ _ st h=>wpAny_pyIter_rangeiter st h
section
variable {X:Cx}{tg:aC}
abbrev abw (K:au)(J:TE):TI:=λσ H R=>J σ H λx H1=>∃a,x=.ref a/\(∃xs,qf K H1 a xs)/\R (Itl K a) H1
abbrev adi (K:au)(J:TE):TI:=λσ H R=>J σ H λx H1=>∃a,x=.ref a/\(∃xs,nX K H1 a xs)/\R (Itt K a) H1
def Lu{l:aC}{J:TE}(U:PE X l J):PI X tg l (abw X.K J):=by
 intro pins s σ H R I h;refine nA (U pins s σ H _ I h) λv c ⟨x,H1,I1,r1,f⟩=>?_;obtain⟨a,e,⟨xs,g⟩,q⟩:=f;subst e
 cases r1
 obtain⟨d,j,p,k⟩:=I1.list g;refine iX p.isList ?_;refine⟨c.heap.objs.size,[c.heap.objs.size],_,_,H1,rfl,I1.kept (t':=c.toks) λb o e=>aZ _ e,Nb a _,⟨_,bA _ rfl,rfl,rfl⟩,λb hb=>?_,q⟩;have e:b=c.heap.objs.size:=by simpa using hb
 subst e;f_are
def QG{l:aC}{J:TE}(U:PE X l J):PI X tg l (adi X.K J):=by
 intro pins s σ H R I h;refine nA (U pins s σ H _ I h) λv c ⟨x,H1,I1,r1,f⟩=>?_;obtain⟨a,e,⟨xs,g⟩,q⟩:=f;subst e
 cases r1
 obtain⟨d,j,p,k⟩:=I1.tuple g;refine gw (show c.heap.IsTuple a d.toArray from p) ?_;refine⟨c.heap.objs.size,[c.heap.objs.size],_,_,H1,rfl,I1.kept (t':=c.toks) λb o e=>aZ _ e,Ir a _,⟨_,bA _ rfl,rfl,rfl⟩,λb hb=>?_,q⟩;have e:b=c.heap.objs.size:=by simpa using hb
 subst e;f_are
def Gi{H:Hp}{s:aA}{R:It->Hp->Prop}{E:af->aA->Prop}{lo hi:Int}{t v:Tok}{tk:Nat}(I:Inv X pins σ H s)(h1:-(2 ^ 62)<=lo)(h2:lo<2 ^ 62)(h3:-(2 ^ 62)<=hi)(J:hi<2 ^ 62)
  (q:R (Itr lo (hi-lo).toNat) H):wpAny (model X.prog X.w) X.A (pyIter<|.ref s.heap.objs.size) (PIE X pins σ tg R) E { s with heap:=s.heap.push { cls:=.type "range",data:=.fields #[.int lo t,.int hi u,.int 1 v]},toks:=tk }:=by
 refine wpAny_pyIter_range (IsRange.new ..) (small_one h1 h2 h3 J) ?_;have I1:Inv X pins σ H { s with heap:=s.heap.push { cls:=.type "range",data:=.fields #[.int lo t,.int hi u,.int 1 v]},toks:=tk }:=I.kept λb o e=>aZ _ e;refine⟨(s.heap.push { cls:=.type "range",data:=.fields #[.int lo t,.int hi u,.int 1 v]}).objs.size,[(s.heap.push { cls:=.type "range",data:=.fields #[.int lo t,.int hi u,.int 1 v]}).objs.size],_,_,H,rfl,
  I1.kept (t':=tk) λb o e=>aZ _ e,Ie _ lo (hi-lo).toNat,?_,λb hb=>?_,q⟩
 ·have e1:lo+((0:Nat):Int) * 1=lo:=by simp
  have e2:(((hi-lo).toNat:Nat):Int)-((0:Nat):Int)=Builtin.Range.rangeSize lo hi 1:=by rw[rangeSize_one];split<;>lia
  skip
  rw[e1,e2];exact bA _ rfl
 ·have e:b=(s.heap.push { cls:=.type "range",data:=.fields #[.int lo t,.int hi u,.int 1 v]}).objs.size:=by simpa using hb
  subst e;f_are
abbrev t7 (ta:TA):TI:=λσ H R=>ta σ H λc H1=>∃j:Int,c=[.int j]/\-(2 ^ 62)<=j/\j<2 ^ 62/\R (Itr 0 j.toNat) H1
abbrev nZ (ta:TA):TI:=λσ H R=>ta σ H λc H1=>∃i j:Int,c=[.int i,.int j]/\(-(2 ^ 62)<=i/\i<2 ^ 62/\-(2 ^ 62)<=j/\j<2 ^ 62)/\R (Itr i (j-i).toNat) H1
def M0{a:aC}{ta:TA}{p:Pos}(hg:Gl X "range")(J:X.mg "range" = none)(ha:PA X [a] ta)(hs:starEach [a] X.env=[(false,eval a X.env)]<|>ε):PI X tg (.Call (.Name "range" p) [a] [] pos) (t7 ta):=by
 intro pins s σ H R I h;refine Call_<|xM I hg J boot_range<|dw (nA (ha pos pins s σ H _ I h) λus k ⟨g,H1,I1,r1,c⟩=>?_) hs rfl;obtain⟨j,e,c,d,q⟩:=c;subst e
 cases r1 with
 | cons r f=>
  cases f
  obtain⟨t,rfl⟩:=r;exact call_range_1<|Gi I1 () () c d<|by simpa using q
def MF{a b:aC}{ta:TA}{p:Pos}(hg:Gl X "range")(U:X.mg "range" = none)(ha:PA X [a,b] ta)(hs:starEach [a,b] X.env=[(false,eval a X.env),(false,eval b X.env)]<|>ε)(J:starEach [b] X.env=[(false,eval b X.env)]<|>ε) :
  PI X tg (.Call (.Name "range" p) [a,b] [] pos) (nZ ta):=by
 intro pins s σ H R I h;refine Call_ (xM I hg U boot_range<|dw (nA (ha pos pins s σ H _ I h) λus D ⟨B,H1,I1,r1,c⟩=>?_) (by rw[hs,J])<|by rw[J];rfl);obtain⟨i,j,e,⟨c,f,k,g⟩,q⟩:=c;subst e
 cases r1 with
 | cons r d=>
  cases d with
  | cons m d=>
   cases d
   obtain⟨t,rfl⟩:=r;obtain⟨C,rfl⟩:=m;exact call_range_2<|Gi I1 c f k g q
abbrev ac8 (U:TI)(g:TG)(tb:TS):TS:=λD σ H=>U σ H λJ H1=>∃W:Nat->Nat->St->Hp->Prop,(∃m,W 0 m σ H1)/\∀i m σ H,W i m σ H ->
 (J.stop i H/\D.nx σ H)\/(J.go i H/\∃N:St->Hp->Prop,(∀c H',N c H'->∃f,f<m/\W (i+1) f c H')/\∀x H',J.yld i H x H'->g x σ H' λd H2=>tb { D with nx:=N,ct:=N,bk:=D.nx } d H2)
abbrev Bt (fp:ba)(h:aq):bj:=fp.filterMap λb=>(h.get? b).map λo=>(b,o)
def rK{fp:ba}{h:aq}{b:ak}(hb:b∈fp)(e:h.get? b=some o):(b,o)∈Bt fp h:=List.mem_filterMap.mpr ⟨b,hb,by rw[e];rfl⟩
def M7{fp:ba}{h:aq}{p:ak×Obj}(J:p∈Bt fp h):p.1∈fp/\h.get? p.1=some p.2:=by
 obtain⟨b,hb,e⟩:=List.mem_filterMap.mp J
 cases q:h.get? b with
 | none=>rw[q]at e;cases e
 | some o=>
  rw[q]at e;have c:(b,o)=p:=a_ e;subst c;exact⟨hb,q⟩
def Inv.pinned{H:Hp}{s:aA}{fp:ba}(I:Inv X pins σ H s)(hf:∀b∈fp,yU X pins H b)(J:∀b∈fp,∃o,s.heap.get? b=some o/\∀v,o.data≠.cell v):Inv X (pins++Bt fp s.heap) σ H s:=
 I.JA λp f=>(bJ.mp f).elim (λz=>I.pin p<|bV _ z) λz=>by
  obtain⟨hb,e⟩:=M7 z;obtain⟨f0,f1,f2,_⟩:=hf p.1 hb;obtain⟨o,c,d⟩:=J p.1 hb;rw[e]at c;cases c;exact⟨e,f0,f1,f2,d⟩
def Inv.vX{pl:bj}{H:Hp}(I:Inv X (pins++pl) σ H s):Inv X pins σ H s:=I.JA λp c=>I.pin p<|bV _<|c8 _ c
def XZ{iter:aC}{wi:TI}{g:TG}{tb:TS}(hp:PassesOwn (model X.prog X.w) X.A X.env X.xe)(hc:X.calm=true)(hi:PI X tg iter wi)(hg:PG X tg g)(hb:Eg X body tb)
  (hs:(∀x,foldedSetIterable iter X.env x=pure x)<|>ζ):PS X (.For tg iter body [] pos) (ac8 wi g tb):=by
 intro pins s σ H D I h;refine wpAny_For (nA (hi pins s σ H _ I h) λv s1 h1=>nA h1 λitv s2 h2=>?_) hs;obtain⟨it,K,Z,J,H2,e,I2,T,st2,f2,W,⟨m0,w0⟩,turn⟩:=h2;subst e;have j:∀{H':Hp},(∀b∈K,H' b=none)->∀b∈K,yU X pins H' b:=λhn b hb=>⟨hn b hb,(f2 b hb).2⟩;refine codeAny_forLoop_any (λn s'=>∃i t H',Inv X pins t H' s'/\Z i s'.heap/\(∀b∈K,H' b=none)/\W i n t H') ?_ m0 ⟨0,σ,H2,I2,st2,λb hb=>(f2 b hb).1,w0⟩;rintro n s3 ⟨i,q,H3,I3,M,F,w3⟩
 rcases turn i n q H3 w3 with⟨L,qn⟩|⟨go,N,hN,step⟩
 ·refine eK hp<|nA (T.done X rfl rfl rfl hc i pins s3 q H3 X.xe I3 (j F) M L) λr s4 ⟨V,I4⟩=>?_;subst V;exact iE ⟨q,H3,I4,qn⟩
 ·refine eK hp<|nA (T.item X rfl rfl rfl hc i pins s3 q H3 X.xe I3 (j F) M go) λr s4 ⟨u,V,h4⟩=>?_;subst V;refine eK hp<|nA h4 λ_ s5 ⟨x,H5,I5,r5,y5,C,O⟩=>?_;have P:=I5.pinned (j O)<|T.obj _ _ C;refine eK hp<|nA (hg _ s5 q H5 x u _ P r5<|step x H5 y5) λ_ s6 ⟨Y,H6,I6,q6⟩=>?_;refine eK hp<|nA (hb _ s6 Y H6 _ I6 q6) λf U B=>?_;have again:∀{c:St} {k:Hp},Inv X (pins++Bt K s5.heap) c k U->N c k->∃m,m<n/\∃i t H',Inv X pins t H' U/\Z i U.heap/\(∀b∈K,H' b=none)/\W i m t H':=λ{c k} p G=>by
   obtain⟨m',hm,w7⟩:=hN c k G;refine⟨m',hm,i+1,c,k,p.vX,T.keep _ _ _ C λb hb o e=>(p.pin (b,o)<|bV _<|bV _<|rK hb e).1,λb hb=>?_,w7⟩;obtain⟨o,e,d⟩:=T.obj _ _ C b hb;exact(p.pin (b,o)<|bV _<|bV _<|rK hb e).2.1
  cases f with
  | next=>obtain⟨c,k,p,G⟩:=B;exact again p G
  | cont=>obtain⟨c,k,p,G⟩:=B;exact again p G
  | brk=>obtain⟨c,k,p,B⟩:=B;exact⟨c,k,p.vX,B⟩
  | ret v=>obtain⟨x7,c,k,p,r7,B⟩:=B;exact⟨x7,c,k,p.vX,r7,B⟩
end
def wN{K:au}{a:ak}{xs:List V}{g:TG}{tb:TS}{D:Ends}{H:Hp}(J:Nat->St->Hp->Prop)(h0:J 0 σ H)(U:∀i σ H,i<=xs.length->J i σ H->nX K H a xs)
  (hs:∀i x σ H,xs[i]?=some x->J i σ H->g x σ H λσ2 H2=>tb { D with nx:=J<|i+1,ct:=J<|i+1,bk:=D.nx } σ2 H2) (Z:∀σ H,J xs.length σ H->D.nx σ H) :
  ∃W:Nat->Nat->St->Hp->Prop,(∃m,W 0 m σ H)/\∀i m σ H,W i m σ H ->
   ((Itt K a).stop i H/\D.nx σ H)\/((Itt K a).go i H/\∃N:St->Hp->Prop,(∀σ' H',N σ' H'->∃m',m'<m/\W (i+1) m' σ' H')/\∀x H',(Itt K a).yld i H x H'->g x σ H' λσ2 H2=>tb { D with nx:=N,ct:=N,bk:=D.nx } σ2 H2):=by
 refine⟨λi m σ H=>m=xs.length-i/\i<=xs.length/\J i σ H,⟨xs.length,by simp,bW _,h0⟩,?_⟩;rintro i m σ H ⟨rfl,d,p⟩;have q:=U i σ H d p;by_cases c:i<xs.length
 ·refine .inr ⟨⟨xs,xs[i],q,by simp[c]⟩,J<|i+1,λσ' H' f=>⟨xs.length-(i+1),(),rfl,c,f⟩,λx H' y=>?_⟩;obtain⟨e,y⟩:=y;subst e;exact hs i x σ _ (y xs q) p
 ·have e:i=xs.length:=()
  subst e;exact .inl ⟨⟨xs,q,aP _⟩,Z σ H p⟩
meta abbrev R2:=V->V->Hp->VK->Prop
abbrev pL (X:Cx)(f:af->af->Sem af)(r:R2):Prop:=
 ∀(pins:bj) (s:aA) (σ:St) (H:Hp) (x y:V) (v u:af) (Q:VK),Inv X pins σ H s->RelV x v->RelV y u->r x y H Q ->
  wpAny (model X.prog X.w) X.A (f v u) (EP X pins σ Q) X.xe s
abbrev UnR (X:Cx)(f:af->Sem af)(r:V->Hp->VK->Prop):Prop:=
 ∀(pins:bj) (s:aA) (σ:St) (H:Hp) (x:V) (v:af) (Q:VK),Inv X pins σ H s->RelV x v->r x H Q ->
  wpAny (model X.prog X.w) X.A (f v) (EP X pins σ Q) X.xe s
abbrev kG (X:Cx)(f:af)(r:List V->Hp->VK->Prop):Prop:=
 ∀(pins:bj) (s:aA) (σ:St) (H:Hp) (xs:List V) (us:ar) (Q:VK),Inv X pins σ H s->Vals xs us->r xs H Q ->
  wpAny (model X.prog X.w) X.A (call f us) (EP X pins σ Q) X.xe s
abbrev adv (X:Cx)(r:V->Hp->(Bool->Hp->Prop)->Prop):Prop:=
 ∀(pins:bj) (s:aA) (σ:St) (H:Hp) (x:V) (v:af) (Q:Bool->Hp->Prop),Inv X pins σ H s->RelV x v->r x H Q ->
  wpAny (model X.prog X.w) X.A (truthy v) (TP X pins σ Q) X.xe s
abbrev tOp (r:R2)(ta tb:TE):TE:=λσ H Q=>ta σ H λx H1=>tb σ H1 λy H2=>r x y H2 Q
abbrev tUn (r:V->Hp->VK->Prop)(ta:TE):TE:=λσ H Q=>ta σ H λx H1=>r x H1 Q
abbrev rI (C:Int->Int->Prop)(g:Int->Int->V):R2:=λx y H Q=>∃i j,x=.int i/\y=.int j/\C i j/\Q (g i j) H
abbrev rI0 (g:Int->Int->V):R2:=λx y H Q=>∃i j,x=.int i/\y=.int j/\Q (g i j) H
abbrev rU (g:Int->V):V->Hp->VK->Prop:=λx H Q=>∃i,x=.int i/\Q (g i) H
section
variable {X:Cx}{a b:aC}{ta tb:TE}{pos:Pos}
def ZP(ha:PE X a ta)(hb:PE X b tb){H:Hp}{R:V->V->Hp->Prop}(I:Inv X pins σ H s)
  (h:ta σ H λx H1=>tb σ H1 λy H2=>R x y H2) {Q:af->aA->Prop} {f:af->af->Sem af}
  (hf:∀v u s2 x y H2,Inv X pins σ H2 s2->RelV x v->RelV y u->R x y H2->wpAny (model X.prog X.w) X.A (f v u) Q X.xe s2) :
  wpAny (model X.prog X.w) X.A (eval a X.env) (λv s₁=>wpAny (model X.prog X.w) X.A (eval b X.env) (λu s₂=>wpAny (model X.prog X.w) X.A (f v u) Q X.xe s₂) X.xe s₁) X.xe s:=by
 refine nA (ha pins s σ H _ I h) λv j ⟨x,H1,I1,r1,g⟩=>?_;refine nA (hb pins j σ H1 _ I1 g) λu s2 ⟨y,H2,c,r2,d⟩=>?_;exact hf v u s2 x y H2 c r1 r2 d
def abU{r:R2}(J:pL X (binaryOp op) r)(ha:PE X a ta)(hb:PE X b tb):PE X (.BinOp a op b pos) (tOp r ta tb):=by
 kt_k;exact wpAny_BinOp<|ZP ha hb I h λv u c x y H2 d rx ry q=>J pins c σ H2 x y v u Q d rx ry q
def aax{r:V->Hp->VK->Prop}(J:UnR X (unaryOp op) r)(ha:PE X a ta):PE X (.UnaryOp op a pos) (tUn r ta):=by
 kt_k;exact UnaryOp_<|nA (ha pins s σ H _ I h) λv d ⟨x,H1,I1,r1,c⟩=>J pins d σ H1 x v Q I1 r1 c
def opI{f:af->af->Sem af}{C:Int->Int->Prop}{g:Int->Int->Int}
  (J:∀(i j:Int) (t u:Tok) (s:aA) (Q:af->aA->Prop) (E:af->aA->Prop),C i j->Q (.int (g i j) s.toks) { s with toks:=s.toks+1 }->wpAny (model X.prog X.w) X.A (f (.int i t)<|.int j u) Q E s) :
  pL X f (rI C λi j=>.int<|g i j):=by
 kj_on;obtain⟨i,j,rfl,rfl,hc,q⟩:=h;obtain⟨t,rfl⟩:=rx;obtain⟨c,rfl⟩:=ry;exact J i j t c s _ _ hc ⟨.int<|g i j,H,I.tok _,⟨_,rfl⟩,q⟩
def aak{f:af->af->Sem af}{g:Int->Int->Int}
  (J:∀(i j:Int) (t u:Tok) (s:aA) (Q:af->aA->Prop) (E:af->aA->Prop),Q (.int (g i j) s.toks) { s with toks:=s.toks+1 }->wpAny (model X.prog X.w) X.A (f (.int i t)<|.int j u) Q E s) :
  pL X f (rI0 λi j=>.int<|g i j):=by
 kj_on;obtain⟨i,j,rfl,rfl,q⟩:=h;obtain⟨t,rfl⟩:=rx;obtain⟨c,rfl⟩:=ry;exact J i j t c s _ _ ⟨.int<|g i j,H,I.tok _,⟨_,rfl⟩,q⟩
def Xs{f:af->af->Sem af}{g:Int->Int->Bool}
  (J:∀(i j:Int) (t u:Tok) (s:aA) (Q:af->aA->Prop) (E:af->aA->Prop),Q (.bool<|g i j) s->wpAny (model X.prog X.w) X.A (f (.int i t)<|.int j u) Q E s) :
  pL X f (rI0 λi j=>.bl<|g i j):=by
 kj_on;obtain⟨i,j,rfl,rfl,q⟩:=h;obtain⟨t,rfl⟩:=rx;obtain⟨c,rfl⟩:=ry;exact J i j t c s _ _ ⟨.bl<|g i j,H,I,rfl,q⟩
abbrev acU (i j:Int):Prop:=0<=j/\j<=1000000/\i.natAbs<2 ^ 64
abbrev Uy (i j:Int):Prop:=(-(2 ^ 64)<i/\i<2 ^ 64)\/(-(2 ^ 64)<j/\j<2 ^ 64)
def Uy.ok{i j:Int}(h:Uy i j):IntMulOk i j:=by
 rcases h with⟨h1,h2⟩|⟨h1,h2⟩
 ·exact .of_left (intBits_le_64 h1 h2)
 ·exact .of_right<|intBits_le_64 h1 h2
def Yz:pL X (binaryOp .Add) (rI0 λi j=>.int<|i+j):=aak λ_ _ _ _ _ _ _ q=>add_int q
def XH:pL X (binaryOp .Sub) (rI0 λi j=>.int<|i-j):=aak λ_ _ _ _ _ _ _ q=>sub_int q
def XA:pL X (binaryOp .Mult) (rI Uy λi j=>.int<|i * j):=opI λ_ _ _ _ _ _ _ hc q=>mul_int q hc.ok
def XF:pL X (binaryOp .Mod) (rI (λ_ j=>0<j) λi j=>.int<|i % j):=opI λi j _ _ _ _ _ hc q=>by
 have h1:(0:Int)<j:=hc;exact mod_int' ()<|by rw[Int.fmod_eq_emod_of_nonneg i ()];exact q
def Z7:pL X (binaryOp .Pow) (rI acU λi j=>.int<|i ^ j.toNat):=opI λ_ _ _ _ _ _ _ hc q=>pow_int_small hc.1 hc.2.1 hc.2.2 q
def unI{f:af->Sem af}{g:Int->Int}
  (J:∀(i:Int) (t:Tok) (s:aA) (Q:af->aA->Prop) (E:af->aA->Prop),Q (.int (g i) s.toks) { s with toks:=s.toks+1 }->wpAny (model X.prog X.w) X.A (f<|.int i t) Q E s) :
  UnR X f (rU λi=>.int<|g i):=by
 intro pins s σ H x v Q I rx h;obtain⟨i,rfl,q⟩:=h;obtain⟨t,rfl⟩:=rx;exact J i t s _ _ ⟨.int<|g i,H,I.tok _,⟨_,rfl⟩,q⟩
def XI:UnR X (unaryOp .USub) (rU λi=>.int<|-i):=unI λ_ _ _ _ _ q=>neg_int q
end
abbrev X7:V->V->Bool
 | .non,.non=>true | .non,.int _=>true | .int _,.non=>true | .non,.bl _=>true | .bl _,.non=>true | .non,.str _=>true | .str _,.non=>true
 | .int _,.int _=>true | .bl _,.bl _=>true | .str _,.str _=>true | .byt _,.byt _=>true
 | .int _,.str _=>true | .str _,.int _=>true | .bl _,.str _=>true | .str _,.bl _=>true
 | _,_=>false
section
variable {X:Cx}{a b c:aC}{ta tb tc:TE}{pos:Pos}
def Xh{H:Hp}{Q:VK}{k:Bool}(I:Inv X pins σ H s)(q:Q (.bl k) H)(e:k=k'):EP X pins σ Q (.bool k') s:=by
 subst e;exact⟨.bl k,H,I,rfl,q⟩
def abM:pL X (compareOp .Lt) (rI0 λi j=>.bl<|decide<|i<j):=Xs λ_ _ _ _ _ _ _ q=>lt_int q
def abu:pL X (compareOp .LtE) (rI0 λi j=>.bl<|decide<|i<=j):=Xs λ_ _ _ _ _ _ _ q=>le_int q
def aaJ:pL X (compareOp .Gt) (rI0 λi j=>.bl<|decide<|j<i):=Xs λ_ _ _ _ _ _ _ q=>gt_int q
def UG:pL X (compareOp .IsNot) (λx y H Q=>y=.non/\Q (.bl<|!decide (x=.non)) H):=by
 kj_on;obtain⟨rfl,q⟩:=h
 cases ry
 refine isnot_none_gen (Xh I q ?_)
 cases x<;>first
  | (cases rx;rfl)
  | (obtain⟨t,rfl⟩:=rx;rfl)
def Qt(b:aC)(h:op≠.In<|>δ)(h2:op≠.NotIn<|>δ):behindInMarks op b=false:=by
 have e1:(op == CmpOp.In)=false:=by cases op<;>first|rfl|exact absurd rfl h
 have e2:(op == CmpOp.NotIn)=false:=by cases op<;>first|rfl|exact absurd rfl h2
 cases b<;>simp[behindInMarks,e1,e2]
def Vj{op:CmpOp}{r:R2}(J:pL X (compareOp op) r)(ha:PE X a ta)(hb:PE X b tb)(U:behindInMarks op b=false):PE X (.Compare a [op] [b] pos) (tOp r ta tb):=by
 kt_k;exact wpAny_Compare1 (ZP ha hb I h λv u c x y H2 d rx ry q=>J pins c σ H2 x y v u Q d rx ry q) U
abbrev abO (t:TE):TT:=λσ H Q=>t σ H λx H'=>∃k,x=.bl k/\Q k H'
def T7{op:CmpOp}{r:R2}(J:pL X (compareOp op) r)(ha:PE X a ta)(hb:PE X b tb)(U:behindInMarks op b=false):PT X (.Compare a [op] [b] pos) (abO<|tOp r ta tb):=by
 kt_k;refine wpAny_isTrue_Compare1 (nA (ha pins s σ H _ I h) λv j ⟨x,H1,I1,r1,p⟩=>nA (hb pins j σ H1 _ I1 p) λu t ⟨y,H2,d,r2,f⟩=>
  nA (J pins t σ H2 x y v u _ d r1 r2 f) λc B ⟨z,H3,m,g,k,e,q⟩=>?_) U
 subst e
 cases g
 exact dz ⟨H3,m,q⟩
abbrev Oz (r J:R2)(ta tb tc:TE):TE:=λσ H Q=>ta σ H λx H1=>tb σ H1 λy H2=>r x y H2 λz H3=>∃k,z=.bl k /\
 (if k=true then tc σ H3 λd c=>J y d c Q else Q (.bl false) H3)
def RV{r Z:R2}(ho:pL X (compareOp op) r)(U:pL X (compareOp op') Z)(ha:PE X a ta)(hb:PE X b tb)(hc:PE X c tc)
  (hm:lastMarks [op,op'] [b,c]=false<|>η):PE X (.Compare a [op,op'] [b,c] pos) (Oz r Z ta tb tc):=by
 kt_k;refine Compare_chain (nA (ha pins s σ H _ I h) λv D ⟨x,H1,I1,r1,K⟩=>chain_link (nA (hb pins D σ H1 _ I1 K) λu L ⟨y,H2,j,r2,m⟩=>
  nA (ho pins L σ H2 x y v u _ j r1 r2 m) λd t ⟨z,H3,f,q,k,e,g⟩=>?_)) hm
 subst e
 cases q
 refine dz ?_
 cases k with
 | false=>exact ite_ff ⟨.bl false,H3,f,rfl,g⟩
 | true=>exact ite_tt<|chain_last<|nA (hc pins t σ H3 _ f g) λF p ⟨C,B,M,J,G⟩=>U pins p σ B y C u F Q M r2 J G
abbrev XM (K:au)(x:V)(H:Hp)(k:Bool):Prop:=
 match x with
 | .non=>k=false
 | .bl b=>k=b
 | .int i=>k=(i != 0)
 | .str y=>y.length<=sizeLine/\k=((y.length:Int) != 0)
 | .byt y=>y.size<=sizeLine/\k=((y.size:Int) != 0)
 | .ref p=>(∃xs,qf K H p xs/\k=!xs.isEmpty)\/(∃xs,nX K H p xs/\k=!xs.isEmpty)\/∃c,H p=some (.dK c)/\k=!c.isEmpty
 | _=>False
def IZ{κ:Type}{kvs:List<|κ×V}{vs:List<|κ×af}(r:KV kvs vs):(!vs.isEmpty)=!kvs.isEmpty:=by
 cases r<;>rfl
def Br{xs:List V}{its:ar}(r:Vals xs its):(!its.toArray.isEmpty)=!xs.isEmpty:=by
 cases r<;>simp
def xJ:(sizeLine:Nat)<2 ^ 63:=by rw[d_];decide
def YJ:adv X (λx H Q=>∃k,XM X.K x H k/\Q k H):=by
 intro pins s σ H x v Q I rx h;obtain⟨k,e,q⟩:=h;have F:=xJ;have hs:sizeLine=16777216:=d_
 cases x with
 | non=>
  cases rx
  have c:k=false:=e;subst c;exact truthy_none ⟨H,I,q⟩
 | bl b=>
  cases rx
  have c:k=b:=e;subst c;exact dz ⟨H,I,q⟩
 | int i=>
  obtain⟨t,rfl⟩:=rx;have c:k=(i != 0):=e;subst c;exact PySem.P.truthy_int ⟨H,I,q⟩
 | str y=>
  obtain⟨t,rfl⟩:=rx;obtain⟨D,c⟩:y.length<=sizeLine/\k=((y.length:Int) != 0):=e;subst c;exact PySem.P.truthy_str () ⟨H,I.tok _,q⟩
 | byt y=>
  obtain⟨t,rfl⟩:=rx;obtain⟨D,c⟩:y.size<=sizeLine/\k=((y.size:Int) != 0):=e;subst c;exact PySem.W.truthy_bytes () ⟨H,I.tok _,q⟩
 | ref p=>
  cases rx
  have c:(∃xs,qf X.K H p xs/\k=!xs.isEmpty)\/(∃xs,nX X.K H p xs/\k=!xs.isEmpty)\/∃d,H p=some (.dK d)/\k=!d.isEmpty:=e
  rcases c with⟨xs,g,c⟩|⟨xs,g,c⟩|⟨d,g,c⟩
  ·subst c;obtain⟨B,r,pl,C⟩:=I.list g;have f:=r.length;exact wpAny_truthy_list pl.isList (by dsimp[bf];lia) ⟨H,I.tok _,by rw[Br r];exact q⟩
  ·subst c;obtain⟨B,r,pl,C⟩:=I.tuple g;have f:=r.length;exact truthy_tuple pl (by dsimp[bf];lia) ⟨H,I.tok _,by rw[Br r];exact q⟩
  ·subst c;obtain⟨C,hS,j,r,m⟩:d.length<=sizeLine/\(p == sysModules)=false/\∃j,KV d j/\s.heap.DictOf (kh X.prog X.w) p j:=I.hok p _ g;have f:d.length=j.length:=i6 r;exact wpAny_truthy_dict hS m () ⟨H,I.tok _,by rw[IZ r];exact q⟩
 | _=>exact(show False from e).elim
def Pz(ha:PE X a ta)(J:∀whole,isTrue a X.env whole=(do let v <- whole;standAt a.pos;holding [v] (truthy v))) :
  PT X a (λσ H Q=>ta σ H λx H'=>∃k,XM X.K x H' k/\Q k H'):=by
 kt_k;exact isTrue_plain (nA (ha pins s σ H _ I h) λv d ⟨x,H1,I1,r1,c⟩=>YJ pins d σ H1 x v Q I1 r1 c)<|J _
def Iu:pL X (binaryOp .Add) (λx y H Q=>∃i j,x=.str i/\y=.str j/\i.length+j.length<=sizeLine/\Q (.str<|i++j) H):=by
 kj_on;obtain⟨i,j,rfl,rfl,c,q⟩:=h;obtain⟨t,rfl⟩:=rx;obtain⟨d,rfl⟩:=ry;exact add_str (λd f=>⟨.str<|i++j,H,I.tok _,⟨_,rfl⟩,q⟩) c
def vals1{x:V}(r:Vals [x] us):∃u,us=[u]/\RelV x u:=by
 cases r with
 | cons r1 r2=>cases r2;exact⟨_,rfl,r1⟩
def vals2{x:V}(r:Vals [x,y] us):∃u w',us=[u,w']/\RelV x u/\RelV y w':=by
 cases r with
 | cons r1 r2=>
  cases r2 with
  | cons c d=>cases d;exact⟨_,_,rfl,r1,c⟩
def RX:kG X (.builtin "abs") (λxs H Q=>∃i,xs=[.int i]/\Q (.int<|if i<0 then -i else i) H):=by
 kcf_m;obtain⟨i,rfl,q⟩:=h;obtain⟨u,rfl,t,rfl⟩:=vals1 r;exact call_abs_int λu c=>⟨.int<|if i<0 then -i else i,H,I.tok _,⟨_,rfl⟩,q⟩
def C_:kG X (.type "int") (λxs H Q=>(∃i,xs=[.int i]/\Q (.int i) H)\/∃k,xs=[.bl k]/\Q (.int<|if k then 1 else 0) H):=by
 kcf_m
 rcases h with⟨i,rfl,q⟩|⟨k,rfl,q⟩
 ·obtain⟨u,rfl,t,rfl⟩:=vals1 r;exact call_int_int ⟨.int i,H,I,⟨_,rfl⟩,q⟩
 ·obtain⟨u,rfl,r1⟩:=vals1 r
  cases r1
  exact call_int_bool ⟨.int<|if k then 1 else 0,H,I.tok _,⟨_,rfl⟩,q⟩
abbrev adJ (K:au)(x:V)(H:Hp)(n:Nat):Prop:=
 match x with
 | .str y=>y.length<=sizeLine/\n=y.length
 | .byt y=>y.size<=sizeLine/\n=y.size
 | .ref p=>(∃xs,qf K H p xs/\n=xs.length)\/∃xs,nX K H p xs/\n=xs.length
 | _=>False
def Rh:kG X (.builtin "len") (λxs H Q=>∃x n,xs=[x]/\adJ X.K x H n/\Q (.int n) H):=by
 kcf_m;obtain⟨x,n,rfl,e,q⟩:=h;mg_lt;have B:=xJ;have hs:sizeLine=16777216:=d_
 cases x with
 | str y=>
  obtain⟨t,rfl⟩:=rx;obtain⟨k,d⟩:y.length<=sizeLine/\n=y.length:=e;subst d;exact len_str () ⟨.int _,H,I.tok _,⟨_,rfl⟩,q⟩
 | byt y=>
  obtain⟨t,rfl⟩:=rx;obtain⟨k,d⟩:y.size<=sizeLine/\n=y.size:=e;subst d;exact PySem.W.len_bytes () ⟨.int _,H,I.tok _,⟨_,rfl⟩,q⟩
 | ref p=>
  cases rx
  have d:(∃xs,qf X.K H p xs/\n=xs.length)\/∃xs,nX X.K H p xs/\n=xs.length:=e
  rcases d with⟨xs,f,d⟩|⟨xs,f,d⟩
  ·subst d;obtain⟨g,j,pl,m⟩:=I.list f;have c:=j.length;exact Calls.call_len_list pl.isList (by dsimp[bf];lia) ⟨.int xs.length,H,I.tok _,⟨_,by dsimp[bf];rw[c]⟩,q⟩
  ·subst d;obtain⟨g,j,pl,m⟩:=I.tuple f;have c:=j.length;exact len_tuple pl (by dsimp[bf];lia) ⟨.int xs.length,H,I.tok _,⟨_,by dsimp[bf];rw[c]⟩,q⟩
 | _=>exact(show False from e).elim
end
structure ObjM (h:aq)(x dx C:ak)(mA:Str->bb):Prop where
 obj:h.get? x=some (PySem.W.instObj C dx)
 ns:h.Ns1 dx mA
 ne:dx≠x
def MH{h:aq}{J:Str->bb}(n:h.Ns1 dx J):∃od,h.get? dx=some od/\∀name,PySem.W.lookIn name od=some (J name):=by
 obtain⟨o,es,ep,k,f,g,_,j⟩:=n;refine⟨o,k,λname=>?_⟩;have e:=j name;unfold nsFind findBy at e;rw[<- Array.find?_toList]at e;unfold PySem.W.lookIn;rw[f];dsimp only;split
 ·rename_i y q;rw[q]at e;exact cH some e
 ·rename_i q;rw[q]at e;have a:es.toList.any (·.refKey)=false:=by
   rw[List.any_eq_false];intro y m;obtain⟨z,t,c⟩:=g y<|Array.mem_toList_iff.mp m;simp[DictEntry.refKey,c]
  have d:¬es.toList.any (·.refKey)=true:=by rw[a];exact br
  rw[aN d];exact cH some e
def ObjM.look{x:ak}{J:Str->bb}(I:ObjM h x dx C J):∃od,PySem.W.InstAt h x (PySem.W.instObj C dx) C (some od)/\∀name,PySem.W.lookIn name od=some (J name):=
 let⟨od,ho,hl⟩:=MH I.ns
 ⟨od,⟨I.obj,rfl,rfl,ho⟩,hl⟩
def zx.some_of{v:V}(r:zx (some v) o):∃u,o=some u/\RelV v u:=by
 cases o with
 | none=>exact(show False from r).elim
 | some u=>exact⟨u,rfl,r⟩
section
variable {P:aj}{w:ah}{H:Hp}{h:aq}{a C dx:ak}{fs:List (Str×V)}
def Vi(hok:xX P w H h)(e:H a=some (.ins C dx fs)):∃mA,ObjM h a dx C mA/\(∀f,zx (fs.lookup f)<|mA f)/\PySem.Within mA (fs.map (·.1))/\fs.length<=1000/\H dx=some (.own a):=by
 obtain⟨d,z,ne,c,mA,n,r,q⟩:=(show kI P w H h a (.ins C dx fs)from hok a _ e);exact⟨mA,⟨c,n,ne⟩,r,q,z,d⟩
end
structure Cls (K:au)(C:ak):Prop where
 pg:PySem.W.plainGet K C Str.empty=true
 hd:PySem.W.hasDictIn K C=true
 po:PySem.W.plainOver K C=true
 sa:PySem.W.findIn K (.ref C) "__setattr__" = some (some<|.builtin "object.__setattr__")
def Cls.get{K:au}(c:Cls K C)(f:Str):PySem.W.plainGet K C f=true:=c.pg
section
variable {X:Cx}{pins:bj}{σ:St}{H:Hp}{s:aA}{A:az}{E:af->aA->Prop}{Q:af->aA->Prop}{c:af}{b:Bool}
inductive TyOf (K:au) (H:Hp):V->af->Prop where
 | non:TyOf K H .non (.type "NoneType")
 | bl (x:Bool):TyOf K H (.bl x) (.type "bool")
 | int (i:Int):TyOf K H (.int i) (.type "int")
 | str (x:Str):TyOf K H (.str x) (.type "str")
 | flt (x:UInt64):TyOf K H (.flt x) (.type "float")
 | lst {a:ak} {xs:List V} (e:H a=some (.lst xs)):TyOf K H (.ref a) (.type "list")
 | frz {a:ak} {o:Obj} {xs:List V} (e:H a=some (.frz o<|.lst xs)):TyOf K H (.ref a) (.type "list")
 | tup {a:ak} {xs:List V} (e:H a=some (.tup xs)):TyOf K H (.ref a) (.type "tuple")
 | dK {a:ak} {kvs:List<|Key×V} (e:H a=some (.dK kvs)):TyOf K H (.ref a) (.type "dict")
 | dT {a:ak} {kvs:List<|List Key×V} (e:H a=some (.dT kvs)):TyOf K H (.ref a) (.type "dict")
 | ins {a C dx:ak} {fs:List<|Str×V} (e:H a=some (.ins C dx fs)) (cl:Cls K C) (ha:PySem.W.findIn K (.ref C) "__class__" = some (some<|.builtin "object.__class__"))
   (hn:PySem.W.specialIn K (.builtin "object.__class__") "__get__" = some (some<|.builtin "getset_descriptor.__get__")) (htk:PySem.W.takesIn K (.builtin "object.__class__")=some true)
   (hm:PySem.W.mroIn K C (.type "object")=some true):TyOf K H (.ref a)<|.ref C
def Mt{x:V}{t:af}(I:Inv X pins σ H s)(rx:RelV x u)(ty:TyOf X.K H x t)(e:PySem.W.kitOne X.K t c=some b)(h:∀tk,Q (.bool b) { s with toks:=tk }) :
  wpAny (model X.prog X.w) A (call (.builtin "isinstance") [u,c]) Q E s:=by
 cases ty with
 | non=>cases(show u=Value.none from rx);exact cR PySem.W.kitx_none I.Ed True.intro e (λz=>nomatch z) h
 | bl y=>cases(show u=Value.bool y from rx);exact cR PySem.W.kitx_bool I.Ed True.intro e (λz=>nomatch z) h
 | int i=>obtain⟨t,q⟩:=(show ∃t,u=Value.int i t from rx);cases q;exact cR PySem.W.kitx_int I.Ed True.intro e (λz=>nomatch z) h
 | str y=>obtain⟨t,q⟩:=(show ∃t,u=Value.str y t from rx);cases q;exact cR PySem.W.kitx_str I.Ed True.intro e (λz=>nomatch z) h
 | flt y=>obtain⟨t,q⟩:=(show ∃t,u=Value.float y t from rx);cases q;exact cR PySem.W.kitx_float I.Ed True.intro e (λz=>nomatch z) h
 | @lst a xs d=>
  cases(show u=Value.ref a from rx)
  obtain⟨_,_,n,_,h1⟩:=(show kI X.prog X.w H s.heap a (.lst xs)from I.hok a _ d);exact cR PySem.W.kitx_list I.Ed ⟨_,h1,rfl⟩ e (λz=>nomatch z) h
 | @frz a m xs d=>
  cases(show u=Value.ref a from rx)
  obtain⟨_,_,_,n,_,h1⟩:=(show kI X.prog X.w H s.heap a (.frz m<|.lst xs)from I.hok a _ d);exact cR PySem.W.kitx_list I.Ed ⟨_,h1,rfl⟩ e (λz=>nomatch z) h
 | @tup a xs d=>
  cases(show u=Value.ref a from rx)
  obtain⟨_,_,_,p⟩:=(show kI X.prog X.w H s.heap a (.tup xs)from I.hok a _ d);obtain⟨o,h1,h2,_⟩:=p;exact cR PySem.W.kitx_tuple I.Ed ⟨o,h1,h2⟩ e (λz=>nomatch z) h
 | @dK a f d=>
  cases(show u=Value.ref a from rx)
  obtain⟨_,_,B,_,p⟩:=(show kI X.prog X.w H s.heap a (.dK f)from I.hok a _ d);obtain⟨o,es,ep,h1,h2,_⟩:=p;exact cR PySem.W.kitx_dict I.Ed ⟨o,h1,h2.1⟩ e (λz=>nomatch z) h
 | @dT a f d=>
  cases(show u=Value.ref a from rx)
  obtain⟨_,_,xs,_,o,es,ep,h1,h2,_⟩:=(show kI X.prog X.w H s.heap a (.dT f)from I.hok a _ d);exact cR PySem.W.kitx_dict I.Ed ⟨o,h1,h2.1⟩ e (λz=>nomatch z) h
 | @ins a C dx fs d j ha hn g k=>
  cases(show u=Value.ref a from rx)
  obtain⟨F,O,_⟩:=Vi I.hok d;obtain⟨D,J,_⟩:=O.look;exact cR (PySem.W.kitx_own (j.get _) j.hd ha hn g k) I.Ed J e (λz=>nomatch z) h
end
structure Room (k:Nat)(A:az):Prop where
 hd:A.handled=none
 dp:A.depth+3 * k+5<recursionLimit
 un:A.units+16 * k+200<cLine
 gs:A.guards=some []
def Room.mono{k:Nat}{A:az}(r:Room k A)(h:j<=k):Room j A:=⟨r.hd,by have:=r.dp;lia,by have:=r.un;lia,r.gs⟩
def Room.deeper{k:Nat}{A:az}(r:Room (k+1) A)(env:Env):Room k (A.deeper env):=
 ⟨r.hd,by have:=r.dp;show A.depth+1+3 * k+5<_;lia,by have:=r.un;show A.units+3+16 * k+200<_;lia,r.gs⟩
def Room.depth{k:Nat}{A:az}(r:Room k A):A.depth<recursionLimit:=by have:=r.dp;lia
def Room.units{k:Nat}{A:az}(r:Room k A):A.units+64<cLine:=by have:=r.un;lia
abbrev ad7:TA:=λ_ H Q=>Q [] H
abbrev aaV (ta:TE)(J:TA):TA:=λσ H Q=>ta σ H λx H1=>J σ H1 λxs H2=>Q (x::xs) H2
section
variable {X:Cx}{e:aC}{es:List aC}{te:TE}{t:TA}{pos:Pos}
def AR:PA X [] ad7:=λ_ _ _ _ H Q I h=>Calls.spliced_nil ⟨[],H,I,.nil,h⟩
def wF(ha:PE X e te)(J:PA X es t)(hs:starEach (e::es) X.env=(false,eval e X.env)::starEach es X.env<|>ε):PA X (e::es) (aaV te t):=by
 intro pos pins s σ H Q I h;rw[hs]
 skip
 refine Calls.spliced_cons<|nA (ha pins s σ H _ I h) λu f ⟨x,H1,I1,r1,g⟩=>?_;exact nA (J pos pins f σ H1 _ I1 g) λus j ⟨xs,H2,c,r2,d⟩=>⟨x::xs,H2,c,.cons r1 r2,d⟩
abbrev ac6 (t:TA):TE:=λσ H Q=>t σ H λxs H1=>xs.length<=sizeLine/\∀p,H1 p=none->Q (.ref p) (upd H1 p<|.tup xs)
abbrev ad5 (t:TA):TE:=λσ H Q=>t σ H λxs H1=>xs.length<=sizeLine/\∀p,H1 p=none->Q (.ref p) (upd H1 p<|.lst xs)
def ZV{x1}(h:PA X es t):PE X (.Tuple es x1 pos) (ac6 t):=by
 intro pins s σ H Q I d;refine wpAny_Tuple_spliced (nA (h pos pins s σ H _ I d) λus c ⟨xs,H1,I1,r,z,q⟩=>⟨by rw[<- r.length];exact z,?_⟩);have hf:H1 c.heap.objs.size=none:=I1.hok.fresh<|aP _;refine⟨.ref c.heap.objs.size,upd H1 c.heap.objs.size<|.tup xs,I1.laid (t':=c.toks) (λb u e=>aZ _ e) (aP _) ?_,rfl,q _ hf⟩;exact⟨z,us,r,⟨_,bA _ rfl,rfl,rfl,_,rfl⟩⟩
def Ys(h:PA X es t):PE X (.List es pos) (ad5 t):=by
 intro pins s σ H Q I d;refine wpAny_List_spliced (nA (h pos pins s σ H _ I d) λus c ⟨xs,H1,I1,r,z,q⟩=>⟨by rw[<- r.length];exact z,?_⟩);have hf:H1 c.heap.objs.size=none:=I1.hok.fresh<|aP _;refine⟨.ref c.heap.objs.size,upd H1 c.heap.objs.size<|.lst xs,I1.laid (t':=c.toks) (λb u e=>aZ _ e) (aP _) ?_,rfl,q _ hf⟩;exact⟨z,us,0,r,bA _ rfl⟩
end
meta abbrev Sp:=List V->Hp->VK->XK->Prop
meta abbrev SH:=List Env->Hp->aA->XK->af->aA->Prop
structure Env0 (P:aj)(w:ah)(K:au)(mg:Str->bb)(base:aq)(A:az)(outer:List Env)(s:aA)(H:Hp):Prop where
 frames:A.frames=some outer
 mod:Mod K mg base
 bs:∀b o,base.get? b=some o->s.heap.get? b=some o/\H b=none
 bsz:base.objs.size<=s.heap.objs.size
 A9:s.heap.FunFrames base outer
 frf:∀b∈frs outer,H b=none
 hok:xX P w H s.heap
 bare:AllBare s.gens
abbrev CE (outer:List Env)(P:aj)(w:ah)(H:Hp)(s:aA)(Q:VK)(u:af)(s':aA):Prop:=
 ∃v H',s'.os=s.os/\AllBare s'.gens/\Un (frs outer) [] H H' s.heap s'.heap/\xX P w H' s'.heap/\RelV v u/\Q v H'
abbrev CR (CX:SH)(outer:List Env)(P:aj)(w:ah)(H:Hp)(s:aA)(Q:VK)(E:XK)(r:Result)(s':aA):Prop:=
 match r with
 | .ok (.ret u)=>CE outer P w H s Q u s'
 | .ok _=>False
 | .error e=>CX outer H s E e s'
structure FnOk (P:aj)(w:ah)(K:au)(mg:Str->bb)(base:aq)(CX:SH)(k:Nat)(f:ak)(fd:FuncData)(ps:am)(sp:Sp):Prop where
 len:∀vs H Q E,sp vs H Q E->vs.length=ps.length
 run:∀(A:az) (outer:List Env) (s:aA) (H:Hp) (args:Args) (us:ar) (vs:List V) (Q:VK) (E:XK),Room k A->Env0 P w K mg base A outer s H->BindsTo s fd args (ps.zip us)->Vals vs us->sp vs H Q E ->
  codeAny (model P w) A (.call (.ref f) args) (CR CX outer P w H s Q E) s
section
variable {X:Cx}{pins:bj}{σ:St}{H:Hp}{s s':aA}
def Inv.adX(I:Inv X pins σ H s):Env0 X.prog X.w X.K X.mg X.base X.A X.stack s H:=
 ⟨I.ok.frames,I.ok.mod,I.bs,bI I.ok.bsz I.sz,I.stack,I.JC,I.hok,I.bare⟩
def Inv.after{Q:VK}(I:Inv X pins σ H s)(h:CE X.stack X.prog X.w H s Q u s'):EP X pins σ Q u s':=by
 obtain⟨v,H',os,c,un,hok,r,q⟩:=h;obtain⟨j,g,d,t,f⟩:=s';obtain rfl:f=s.os:=os;exact⟨v,H',I.call (h':=j) (g':=g) (d':=d) (t':=t) (ch:=[]) un hok c λb z=>absurd z<|by simp,r,q⟩
end
abbrev WZ (sp:Sp)(dvs:List V)(E:XK)(t:TA):TE:=λσ H Q=>t σ H λc H1=>sp (c++dvs) H1 Q E
abbrev Binds (K:au)(fd:FuncData)(ps:am)(ds:ar):Prop:=
 ∀(s:aA) (us:ar),K.In s.heap->(us++ds).length=ps.length->BindsTo s fd ⟨us,[]⟩ (ps.zip<|us++ds)
def Binds.all{K:au}{ps:am}(h:∀us:ar,us.length=ps.length->bindArgs fd ⟨us,[]⟩=pure (ps.zip us)):Binds K fd ps []:=λs us _ c=>by
 rw[cj]at c ⊢;exact .of_eq<|h us c
abbrev Passes (CX:SH)(X:Cx)(E:XK):Prop:=∀(pins:bj) (σ:St) (H:Hp) (s:aA) (e:af) (s':aA),Inv X pins σ H s->CX X.stack H s E e s'->X.xe e s'
section
variable {X:Cx}{CX:SH}{k:Nat}{f C:ak}{fd:FuncData}{ps:am}{sp:Sp}{dvs:List V}{ds:ar}{E:XK}{x:Str}{p pos:Pos}{e:aC}{es:List aC}{t:TA}
def XC{H:Hp}{Q:VK}(F:FnOk X.prog X.w X.K X.mg X.base CX k f fd ps sp)(J:Room k X.A)(hb:Binds X.K fd ps ds)(U:Vals dvs ds)(Z:Passes CX X E)
  (I:Inv X pins σ H s) (r:Vals vs us) (h:sp (vs++dvs) H Q E):wpAny (model X.prog X.w) X.A (call (.ref f) us) (EP X pins σ Q) X.xe s:=by
 have r2:Vals (vs++dvs) (us++ds):=r.append U;have d:(us++ds).length=ps.length:=by rw[<- r2.length];exact F.len _ _ _ _ h
 refine wpAny_call (jd (F.run X.A X.stack s H ⟨us,[]⟩ (us++ds) (vs++dvs) Q E J I.adX (hb s us I.Ed d) r2 h) λr s' c=>?_)
 cases r with
 | error e=>exact Z pins σ H s e s' I c
 | ok fl=>
  cases fl with
  | ret u=>exact I.after c
  | next=>exact False.elim c
  | brk=>exact False.elim c
  | cont=>exact False.elim c
def UX(F:FnOk X.prog X.w X.K X.mg X.base CX k f fd ps sp)(Z:Room k X.A)(hg:Gl X x)(hm:X.mg x=some (.ref f))(hk:PySem.W.keepIn X.K (.ref f)=true)(hb:Binds X.K fd ps ds)(hd:Vals dvs ds)(hx:Passes CX X E)
  (ha:PA X (e::es) t) (J:(x == ("__debug__" : Str))=false<|>δ) (he:starEach (e::es) X.env=(false,eval e X.env)::starEach es X.env<|>ε) (U:((backTo pos<|starEach es X.env).any (·.1)=false)<|>ε) :
  PE X (.Call (.Name x p) (e::es) [] pos) (WZ sp dvs E t):=by
 kt_k;refine iO<|KL I hg hm ?_ J;refine PySem.W.callWith_K (h₀:=X.base) I.ok.mod.kin hk (nA (ha pos pins s σ H _ I h) λus d ⟨c,H1,I1,r,q⟩=>⟨I1.Ed,?_⟩) he U;exact XC F Z hb hd hx I1 r q
end
section
variable {fd:FuncData}{ps ks:am}
end
structure FnScope (N P:am)(sc:Scope):Prop where
 kind:sc.kind=.function
 co:sc.isCoroutine=false
 gen:sc.isGenerator=false
 nd:N.Nodup
 pre:N.take P.length=P
 par:∀x∈P,sc.names.lookup x=some .local\/sc.names.lookup x=some .cell
 nofree:∀y∈sc.names,y.2≠.free
theorem Cv{J:Str->Option NameKind}{x:Str}:∀{binds:List<|Str×af}{m:Str->bb},(∀v,(x,v)∉binds)->bindL J binds m x=m x
 | [],_,_=>rfl
 | (n,v)::r,m,h=>by
  unfold bindL;rw[Cv λw hw=>h w<|aO _ hw];split
  ·have:x≠n:=by rintro rfl;exact h v aJ
   simp[this]
  ·rfl
theorem CH{J:Str->Option NameKind}{x:Str}:∀{binds:List<|Str×af}{m:Str->bb},(∀v,(x,v)∉binds)->bindC J binds m x=m x
 | [],_,_=>rfl
 | (n,v)::r,m,h=>by
  unfold bindC;rw[CH λw hw=>h w<|aO _ hw];split
  ·rfl
  ·have:x≠n:=by rintro rfl;exact h v aJ
   simp[this]
theorem CO{J:Str->Option NameKind}{x:Str}{v:af}:∀{P:am}{vs:ar}{i:Nat}{m:Str->bb},P.Nodup->P[i]?=some x->vs[i]?=some v->J x=some .local ->
  bindL J (P.zip vs) m x=some v
 | [],_,_,_,_,h,_,_=>by simp at h
 | _::_,[],_,_,_,_,h,_=>by simp at h
 | p::P,w::vs,0,m,nd,h1,h2,hk=>by
  simp at h1 h2;subst h1;subst h2;show bindL J ((p,w)::P.zip vs) m p=_;unfold bindL;rw[Cv λv hv=>(bZ.mp nd).1 (jl hv).1,aR hk];simp
 | p::P,w::vs,i+1,m,nd,h1,h2,hk=>by
  skip
  unfold bindL;exact CO (i:=i) (bZ.mp nd).2 (by simpa using h1) (by simpa using h2) hk
theorem CG{J:Str->Option NameKind}{x:Str}{v:af}:∀{P:am}{vs:ar}{i:Nat}{m:Str->bb},P.Nodup->P[i]?=some x->vs[i]?=some v->J x≠some .local ->
  bindC J (P.zip vs) m x=some v
 | [],_,_,_,_,h,_,_=>by simp at h
 | _::_,[],_,_,_,_,h,_=>by simp at h
 | p::P,w::vs,0,m,nd,h1,h2,hk=>by
  simp at h1 h2;subst h1;subst h2;show bindC J ((p,w)::P.zip vs) m p=_;unfold bindC;rw[CH λv hv=>(bZ.mp nd).1 (jl hv).1,aN hk];simp
 | p::P,w::vs,i+1,m,nd,h1,h2,hk=>by
  skip
  unfold bindC;exact CG (i:=i) (bZ.mp nd).2 (by simpa using h1) (by simpa using h2) hk
abbrev start (N:am)(vs:List V):St:=vs.map some++List.replicate (N.length-vs.length) none
abbrev IJ (CX:SH)(P:aj)(w:ah)(K:au)(mg:Str->bb)(base:aq)(N:am)(J:Str)(scope:Scope)(f:ak)(U:af)(A:az)(outer:List Env)(s:aA)(H:Hp)(E:XK):Cx where
 prog:=P
 w:=w
 K:=K
 mg:=mg
 base:=base
 A:=A.deeper (envOfC J scope s.heap.objs.size f U)
 N:=N
 s₀:=s
 H₀:=H
 env:=envOfC J scope s.heap.objs.size f U
 outer:=outer
 stack:=envOfC J scope s.heap.objs.size f U::outer
 ex:=[]
 calm:=true
 fn:=λ_=>true
 pn:=[]
 xe:=λe s'=>wpAny (model P w) (A.deeper<|envOfC J scope s.heap.objs.size f U) (leaving (envOfC J scope s.heap.objs.size f U) e) (λ_ c=>CX outer H s E e c) (λd c=>CX outer H s E d c) s'
def G4{J:Scope}{n:Nat}{x:Str}(h:J.names.lookup x=some .cell):∃c,(cellsFrom n J.names []).lookup x=some c:=by
 have q:=fB J.names n []<|.inl h;exact dU.mp q
def MX{CX:SH}{P:aj}{w:ah}{K:au}{mg:Str->bb}{base:aq}{N ps:am}{scope:Scope}{f:ak}{A:az}{outer:List Env}{s:aA}{H:Hp}{E:XK}{vs:List V}
  (S:FnScope N ps scope) (J:A.handled=none) (e0:Env0 P w K mg base A outer s H) (U:vs.length=ps.length) (r:Vals vs us)
  (x:InCallC s s.heap.objs.size (bindL (envOfC qual scope s.heap.objs.size f cd).kindOf (ps.zip us) λ_=>none) (cellsFrom (s.heap.objs.size+1) scope.names []) (bindC (envOfC qual scope s.heap.objs.size f cd).kindOf (ps.zip us) λ_=>none) s1) :
  Inv (IJ CX P w K mg base N qual scope f cd A outer s H E) [] (start N vs) H s1:=by
 have D:ps.length<=N.length:=by have:=cH List.length S.pre;rw[cu]at this;lia
 obtain⟨h1,G,rfl,C⟩:=x.done;have d:∀b:ak,b∉(IJ CX P w K mg base N qual scope f cd A outer s H E).ex:=λb z=>absurd (show b∈([]:ba)from z) (by simp);refine⟨⟨e0.mod,S.kind,rfl,rfl,aP _,λy z c h1 h2=>?_,λy g=>?_,λy c _ h=>?_,λ_=>J,Around.frames_deeper e0.frames,.inr ⟨rfl,rfl⟩,λb z=>absurd z<|d b,e0.bs,e0.bsz,λb _ _=>d b,λb z=>absurd z<|d b,e0.A9,e0.frf⟩,
  rfl,e0.bare,Un.kept C,⟨_,x.toInCall.ns,λi y v h1 h2 h3=>?_⟩,λy c h=>⟨_,x.cell y c h⟩,e0.hok.fresh<|aP _,λy c h=>?_,λp m=>absurd (show p∈([]:bj)from m)<|by simp,e0.hok.kept C,?_⟩
 ·exact name_of_addr x.apart (cW h1) (cW h2)
 ·have g:scope.names.lookup y=some .cell\/scope.names.lookup y=some .free:=g
  rcases g with g|g
  ·exact G4 g
  ·exact absurd rfl<|S.nofree _<|cW g
 ·exact d8 (x.above y c<|cW h)
 ·have t:i<vs.length:=by
   unfold start at h2;by_cases t:i<vs.length
   ·exact t
   ·rw[iP<|by simpa using t]at h2;rw[List.getElem?_replicate]at h2;split at h2<;>cases h2
  have ha:vs[i]?=some v:=by
   unfold start at h2;rw[bu<|by simpa using t,aK]at h2
   cases e:vs[i]? with
   | none=>rw[e]at h2;cases h2
   | some a=>rw[e]at h2;cases h2;rfl
  obtain⟨u,B,F⟩:=r.get ha;have m:ps[i]?=some y:=by
   rw[<- S.pre,eW ()];exact h1
  have j:ps.Nodup:=by rw[<- S.pre];exact S.nd.sublist (List.take_sublist _ _)
  refine⟨u,F,?_⟩
  rcases S.par y (aY m)with k|k
  ·exact .inl ⟨k,CO j m B k⟩
  ·obtain⟨c,e⟩:=G4 (n:=s.heap.objs.size+1) k;refine .inr ⟨.inl k,c,e,?_⟩;have q:=x.cell y c e;rw[CG j m B<|by show scope.names.lookup y≠_;rw[k];decide]at q;exact q
 ·exact e0.hok.fresh (d8<|x.above y c<|cW h)
 ·unfold start;show _=N.length;rw[bq,aF,List.length_replicate]
  lia
def aau{CX:SH}{P:aj}{w:ah}{K:au}{mg:Str->bb}{base:aq}{k:Nat}{f:ak}{kV pm ct:af}
  {osl:Array<|bb} {N ps:am} {sp:Sp} (lk:K.lookup f=some ⟨oc,od,.func<|PySem.W.fnOf name qual params body scope dV kV doc pm an cdv ct,osl⟩) (hcd:PySem.W.codeIn K cdv qual=true) (S:FnScope N ps scope)
  (len:∀vs H Q E,sp vs H Q E->vs.length=ps.length)
  (Z:∀(A:az) (outer:List Env) (s:aA) (H:Hp) (vs:List V) (Q:VK) (E:XK),Room k (A.deeper<|envOfC qual scope s.heap.objs.size f cdv)->sp vs H Q E ->
   ∃t,Eg (IJ CX P w K mg base N qual scope f cdv A outer s H E) body t/\t { nx:=λ_ H'=>Q .non H',rt:=Q } (start N vs) H) :
  FnOk P w K mg base CX (k+1) f (PySem.W.fnOf name qual params body scope dV kV doc pm an cdv ct) ps sp:=by
 refine⟨len,λA outer s H F us vs Q E m e0 hb r g=>?_⟩;have M:=len _ _ _ _ g;have C:K.In s.heap:=e0.mod.kin.keeps λb o e=>(e0.bs b o e).1;have p:s.heap.NoLimit:=e0.mod.nolimit.keeps λb o e=>(e0.bs b o e).1;have d:∀y∈ps.zip us,scope.names.lookup y.1=some .local\/(scope.names.lookup y.1=some .cell/\((cellsFrom (s.heap.objs.size+1) scope.names []).lookup y.1).isSome=true):=λ⟨n,v⟩ U=>by
  rcases S.par n (jl U).1 with q|q
  ·exact .inl q
  ·exact .inr ⟨q,fB _ _ _<|.inl q⟩
 refine codeAny_call_function m.depth (C _ _ lk) rfl S.co S.gen rfl (PySem.W.codeRec_of C hcd)<|hb _ _ _ _ ?_;refine wpAny_newFunctionEnv_cells S.kind d λL G D x=>?_;subst G;refine⟨p.keeps x.toInCall.keep,codeAny_func ?_⟩;obtain⟨t,O,T⟩:=Z A outer s H vs Q E (m.deeper _) g;have I:Inv (IJ CX P w K mg base N qual scope f cdv A outer s H E) [] (start N vs) H D:=MX S m.hd e0 M r x;refine gv (O [] D (start N vs) H _ I T) (λfl s' hs=>?_) λe s' hs=>hs;have j:∀{c:St} {H':Hp} {v:V} {u:af},Inv (IJ CX P w K mg base N qual scope f cdv A outer s H E) [] c H' s'->RelV v u->Q v H'->CE outer P w H s Q u s':=
  λ{c H' v u} J B q=>⟨v,H',J.os,J.bare,J.base,J.hok,B,q⟩
 cases fl with
 | ret u=>
  obtain⟨v,c,H',J,B,q⟩:=hs;exact j J B q
 | next=>
  obtain⟨c,H',J,q⟩:=hs;exact j (v:=V.non) (u:=Value.none) J rfl q
 | brk=>
  obtain⟨_,_,_,q⟩:=hs;exact False.elim q
 | cont=>
  obtain⟨_,_,_,q⟩:=hs;exact False.elim q
section
variable {X:Cx}{x:Str}{p pos:Pos}{e:aC}{es:List aC}{t:TA}{id T:String}{r:List V->Hp->VK->Prop}
abbrev tCB (r:List V->Hp->VK->Prop)(t:TA):TE:=λσ H Q=>t σ H λc H1=>r c H1 Q
def Pn(hc:kG X (.builtin id) r)(hg:Gl X x)(Z:X.mg x=none)(hv:bootBuiltins x=some (.builtin id))(ha:PA X (e::es) t)(hn:x ≠ "__name__"<|>δ)(J:(x == ("__debug__" : Str))=false<|>δ)
  (he:starEach (e::es) X.env=(false,eval e X.env)::starEach es X.env<|>ε) (U:((backTo pos<|starEach es X.env).any (·.1)=false)<|>ε):PE X (.Call (.Name x p) (e::es) [] pos) (tCB r t):=by
 kt_k;refine iO<|xM I hg Z hv ?_ hn J;exact PyProof.Rows.callWith_builtin1 (nA (ha pos pins s σ H _ I h) λus f ⟨c,H1,I1,r1,d⟩=>hc pins f σ H1 c us Q I1 r1 d) he U
def Mw(hc:kG X (.type T) r)(hg:Gl X x)(Z:X.mg x=none)(hv:bootBuiltins x=some (.type T))(ha:PA X (e::es) t)(hn:x ≠ "__name__"<|>δ)(J:(x == ("__debug__" : Str))=false<|>δ)
  (he:starEach (e::es) X.env=(false,eval e X.env)::starEach es X.env<|>ε) (U:((backTo pos<|starEach es X.env).any (·.1)=false)<|>ε):PE X (.Call (.Name x p) (e::es) [] pos) (tCB r t):=by
 kt_k;refine iO<|xM I hg Z hv ?_ hn J;exact dw (nA (ha pos pins s σ H _ I h) λus f ⟨c,H1,I1,r1,d⟩=>hc pins f σ H1 c us Q I1 r1 d) he U
end
end L2
namespace HT
open PySem PyProof.Rows
abbrev lexLt:ae->ae->Bool
 | [],[]=>false
 | [],_::_=>true
 | _::_,[]=>false
 | x::xs,y::ys=>if x=y then lexLt xs ys else decide (x<y)
def uC(x y:Int)(xs ys:ae):lexLt (x::xs) (y::ys)=if x=y then lexLt xs ys else decide (x<y):=rfl
def sV:lexLt [] []=false:=rfl
def oW(y:Int)(ys:ae):lexLt [] (y::ys)=true:=rfl
def rP(x:Int)(xs:ae):lexLt (x::xs) []=false:=rfl
section
variable {prog:aj}{w:ah}{A:az}{E:af->aA->Prop}{s:aA}
def UB{t b:ak}{vs ws:ar}{Q:af->aA->Prop}(J:IsTup s.heap t vs.toArray)(hb:IsTup s.heap b ws.toArray)(hv:vs≠[])
  (h1:ws=[]->Q (.ref t) s) (h2:ws≠[]->Q (.ref s.heap.objs.size) { s with heap:=s.heap.push { cls:=.type "tuple",data:=.seq (vs++ws).toArray }})
  (hsz:vs.length+ws.length<=sizeLine):wpAny (model prog w) A (binaryOp .Add (.ref t)<|.ref b) Q E s:=by
 obtain⟨⟨cls,D,data,C⟩,k,hc,n,B⟩:=id J;obtain⟨⟨p,d,m,g⟩,c,f,q,j⟩:=id hb;simp only at hc B f j;subst hc B f j;have e:vs.toArray++ws.toArray=(vs++ws).toArray:=by simp
 by_cases hw:ws=[]
 ·exact concat_meets ⟨_,k,rfl⟩ ⟨_,c,rfl⟩ noFill_tuple_add seq_tuple_add gH gF (gb _ _)
   (tuple_addW1 t b vs.toArray ws.toArray n q D d C g (by simpa using hv)<|by simp[hw]) ⟨k,c,h1 hw⟩
 ·refine concat_meets ⟨_,k,rfl⟩ ⟨_,c,rfl⟩ noFill_tuple_add seq_tuple_add gH gF (gb _ _)
   (tuple_addW2 t b vs.toArray ws.toArray n q D d C g (by simpa using hv) (by simpa using hw)<|by rw[bf,bf];exact hsz) ⟨k,c,?_⟩
  rw[e];exact h2 hw
abbrev sIx (n d:Nat):Option Int->Nat
 | none=>d
 | some v=>if v<0 then(v+(n:Int)).toNat else min v.toNat n
end
end HT
namespace L2
open PySem PySem.Spec PyProof.Rows
def intsAre_of{ns:ae}:∀{us:ar},Vals (ns.map V.int) us->IntsAre us ns:=by
 induction ns with
 | nil=>intro us r;rw[d9]at r;cases r;exact .nil
 | cons n ns c=>
  intro us r;rw[bF]at r
  cases r with
  | cons r1 r2=>
   obtain⟨t,e⟩:=r1;subst e;exact .cons n t<|c r2
section
variable {X:Cx}{p2:Pos}
abbrev abn (K:au):R2:=λx y H Q=>∃a b xs ys,x=.ref a/\y=.ref b/\nX K H a xs/\nX K H b ys/\xs≠[]/\xs.length+ys.length<=sizeLine /\
 (ys=[]->Q (.ref a) H)/\(ys≠[]->∀p,H p=none->Q (.ref p) (upd H p<|.tup<|xs++ys))
def Vals.Fv(r:Vals xs us):us=[] ↔ xs=[]:=by
 cases r with
 | nil=>simp
 | cons _ _=>simp
def Vk:pL X (binaryOp .Add) (abn X.K):=by
 kj_on;obtain⟨a,b,xs,ys,rfl,rfl,ha,hb,g,c,k,f⟩:=h
 cases rx
 cases ry
 obtain⟨j,r1,p1,_⟩:=I.tuple ha;obtain⟨d,r2,p2,_⟩:=I.tuple hb;refine HT.UB p1 p2 (λz=>g<|r1.Fv.mp z) (λz=>⟨.ref a,H,I,rfl,k<|r2.Fv.mp z⟩) (λz=>?_) (by rw[<- r1.length,<- r2.length];exact c);refine⟨.ref s.heap.objs.size,_,I.laid (t':=s.toks) (o:=.tup<|xs++ys) (λb m q=>aZ _ q) (aP _) ?_,rfl,f (λw=>z<|r2.Fv.mpr w) _<|I.hok.fresh<|aP _⟩;exact⟨by rw[bq];exact c,_,r1.append r2,rL.new _ _⟩
end
abbrev DY (n:Nat)(i:Int):bi:=if 0<=i then(if i<n then some i.toNat else none)else if -(n:Int)<=i then some (i+n).toNat else none
abbrev sN {α:Type}(xs:List α)(i:Int):Option α:=(DY xs.length i).bind λj=>xs[j]?
def JP{n:Nat}{i:Int}(h:DY n i=some j):seqIndex? i n=some j/\j<n/\-(n:Int)<=i/\i<n:=by
 unfold DY at h;by_cases h0:0<=i
 ·rw[aR h0]at h;by_cases h1:i<n
  ·rw[aR h1]at h;have e:i.toNat=j:=a_ h;exact⟨by rw[seqIndex_of h0 h1,e],(),(),h1⟩
  ·rw[aN h1]at h;cases h
 ·rw[aN h0]at h;by_cases h1:-(n:Int)<=i
  ·rw[aR h1]at h;have e:(i+n).toNat=j:=a_ h;exact⟨by rw[seqIndex_neg () h1,e],(),h1,()⟩
  ·rw[aN h1]at h;cases h
def Ep{α:Type}{xs:List α}{i:Int}{v:α}(h:sN xs i=some v):∃j,seqIndex? i xs.length=some j/\xs[j]?=some v/\j<xs.length/\-(xs.length:Int)<=i/\i<xs.length:=by
 unfold sN at h
 cases e:DY xs.length i with
 | none=>rw[e]at h;cases h
 | some j=>
  rw[e]at h;obtain⟨h1,h2,h3,c⟩:=JP e;exact⟨j,h1,h,h2,h3,c⟩
def VR{α:Type}{xs:List α}{j:Nat}{v:α}(h:xs[j]?=some v):sN xs (j:Int)=some v:=by
 have c:j<xs.length:=(aG.mp h).1;have e:DY xs.length (j:Int)=some j:=by
  unfold DY;rw[aR (),aR ()];simp
 unfold sN;rw[e];exact h
def PY{α:Type}(xs:List α)(v:α):sN (xs++[v]) (-1)=some v:=by
 have c:(xs++[v]).length=xs.length+1:=by simp
 have e:DY (xs++[v]).length (-1)=some xs.length:=by
  unfold DY;rw[c,aN ⋯,aR ()];congr 1
  lia
 unfold sN;rw[e]
 skip
 simp
abbrev wO (b:aC):Prop:=∀o i,subscripted b false o i=operate [o,i] (getItem o i)
abbrev SI (X:Cx)(r:R2):Prop:=
 ∀(d c:aC) (pins:bj) (s:aA) (σ:St) (H:Hp) (x y:V) (v u:af) (Q:VK),Inv X pins σ H s->RelV x v->RelV y u->r x y H Q ->
  subscripted c false v u=operate [v,u] (getItem v u)->wpAny (model X.prog X.w) X.A (subscriptTail d c v u) (EP X pins σ Q) X.xe s
abbrev Fy (X:Cx)(id:String)(r:V->List V->Hp->VK->Prop):Prop:=
 ∀(pins:bj) (s:aA) (σ:St) (H:Hp) (x:V) (xs:List V) (v:af) (us:ar) (Q:VK),Inv X pins σ H s->RelV x v->Vals xs us->r x xs H Q ->
  wpAny (model X.prog X.w) X.A (call (.builtin id) (v::us)) (EP X pins σ Q) X.xe s
section
variable {X:Cx}{a b:aC}{ta tb:TE}{pos:Pos}
def GL{r:R2}(J:SI X r)(ha:PE X a ta)(hb:PE X b tb)(hs:wO b):PE X (.Subscript a b pos) (tOp r ta tb):=by
 kt_k;exact Subscript_<|ZP ha hb I h λv u c x y H2 d rx ry q=>J a b pins c σ H2 x y v u Q d rx ry q<|hs _ _
abbrev aeb (K:au):R2:=λx y H Q=>∃p xs i v,x=.ref p/\y=.int i/\qf K H p xs/\sN xs i=some v/\Q v H
abbrev ad8 (K:au):R2:=λx y H Q=>∃p xs i v,x=.ref p/\y=.int i/\nX K H p xs/\sN xs i=some v/\Q v H
abbrev ade:R2:=λx y H Q=>∃z i c,x=.str z/\y=.int i/\z.length<=sizeLine/\sN z.cps.toList i=some c/\Q (.str ⟨#[c]⟩) H
def JL:SI X (aeb X.K):=by
 intro g m pins s σ H x y v u Q I rx ry h hs;obtain⟨p,xs,i,z,rfl,rfl,J,D,q⟩:=h
 cases rx
 obtain⟨t,rfl⟩:=ry;obtain⟨f,r,pl,L⟩:=I.list J;obtain⟨j,h1,h2,h3,C,G⟩:=Ep D;obtain⟨w,B,d⟩:=r.get h2;have F:=r.length;have hn:=xJ;have c:EP X pins σ Q w s:=⟨z,H,I,d,q⟩;by_cases h0:0<=i
 ·have k:i.toNat=j:=by
   rw[seqIndex_of h0 G]at h1;exact a_ h1
  exact item_listR pl.isList h0 () (by rw[k];simpa using B) c hs
 ·have k:(i+(f.toArray.size:Int)).toNat=j:=by
   rw[seqIndex_neg () C]at h1;rw[bf,<- F];exact a_ h1
  exact subscriptTail_builtinR (x:=w) pl.isList.typeIs slot_list_getitem.lookup
   (wpAny_getItem_list_neg (Q:=λr s'=>r=w/\EP X pins σ Q r s') pl.isList () (by rw[bf]<;>lia) () (by rw[k];simpa using B) ⟨rfl,c⟩) hs
def ZH:SI X (ad8 X.K):=by
 intro f g pins s σ H x y v u Q I rx ry h hs;obtain⟨p,xs,i,z,rfl,rfl,D,k,q⟩:=h
 cases rx
 obtain⟨t,rfl⟩:=ry;obtain⟨m,r,pl,J⟩:=I.tuple D;obtain⟨j,h1,h2,h3,F,G⟩:=Ep k;obtain⟨w,B,c⟩:=r.get h2;have C:=r.length;have hn:=xJ;have d:EP X pins σ Q w s:=⟨z,H,I,c,q⟩;exact subscriptTail_builtinR (x:=w) pl.typeIs slot_tuple_getitem.lookup
  (getItem_tuple (j:=j) (Q:=λr s'=>r=w/\EP X pins σ Q r s') pl () () (by rw[bf,<- C];exact h1) (by simpa using B) ⟨rfl,d⟩) hs
def Y9:SI X ade:=by
 intro d f pins s σ H x y v u Q I rx ry h hs;obtain⟨z,i,c,rfl,rfl,C,k,q⟩:=h;obtain⟨t,rfl⟩:=rx;obtain⟨B,rfl⟩:=ry;obtain⟨j,h1,h2,h3,g,p⟩:=Ep k;have m:z.cps.toList.length=z.length:=by simp[Str.length]
 rw[m]at h1 g p;have hn:=xJ;exact tail_any (typeIs_str s z t) slot_str_getitem.lookup (getItem_str (c:=c) (by
  have e1:decide (i < -(2 ^ 63:Int))=false:=bH ();have e2:decide (i>=2 ^ 63)=false:=bH ();rw[e1,e2,Bool.or_false]) (by rw[h1];simpa using h2) ⟨.str ⟨#[c]⟩,H,I.tok _,⟨_,rfl⟩,q⟩) hs
def HC(its:ar)(n j:Nat)(u:af):Obj.mapSeq (·.setIfInBounds j u) { cls:=.type "list",data:=.seq its.toArray n }={ cls:=.type "list",data:=.seq (its.set j u).toArray n }:=by
 simp[Obj.mapSeq]
def Inv.lst{H:Hp}{s:aA}{p:ak}{xs:List V}(I:Inv X pins σ H s)(h:H p=some (.lst xs)) :
  ∃(its:ar) (n:Nat),Vals xs its/\s.heap.get? p=some { cls:=.type "list",data:=.seq its.toArray n }/\xs.length<=sizeLine:=by
 obtain⟨z,its,n,r,e⟩:=I.hok p _ h;exact⟨its,n,r,e,z⟩
def Inv.Zy{H:Hp}{s:aA}{p:ak}{ys:List V}{its its':ar}{n:Nat}{f:Obj->Obj}(I:Inv X pins σ H s)(h:H p=some (.lst xs))
  (J:s.heap.get? p=some { cls:=.type "list",data:=.seq its.toArray n }) (hf:f { cls:=.type "list",data:=.seq its.toArray n }={ cls:=.type "list",data:=.seq its'.toArray n' }) (r:Vals ys its') (U:ys.length<=sizeLine) (t:Nat) :
  Inv X pins σ (upd H p<|.lst ys) { s with heap:=s.heap.update p f,toks:=t }:=by
 have e:(s.heap.update p f).get? p=some { cls:=.type "list",data:=.seq its'.toArray n' }:=by
  rw[gW f J<|by rw[hf]<;>rfl,hf]
 refine I.write (x:=p) (e:=p) (by rw[h];trivial) (.inl rfl) (λb u hb q=>(Heap.get?_update_other _ _<|Ne.symm hb).trans q) ⟨_,e⟩ ?_;exact⟨U,its',n',r,e⟩
abbrev abx:V->V->V->Hp->(Hp->Prop)->Prop:=λo i v H Q=>∃p xs k j,o=.ref p/\i=.int k/\H p=some (.lst xs)/\DY xs.length k=some j/\Q (upd H p<|.lst<|xs.set j v)
def set_list:Ho X abx:=by
 intro pins s σ H o i v L iv u Q I D F G h;obtain⟨p,xs,k,j,rfl,rfl,C,J,q⟩:=h
 cases D
 obtain⟨t,rfl⟩:=F;obtain⟨c,n,r,g,K⟩:=I.lst C;obtain⟨h1,h2,h3,m⟩:=JP J;have d:=r.length;have hn:=xJ;have B:Inv X pins σ (upd H p<|.lst<|xs.set j v) { s with heap:=s.heap.update p<|Obj.mapSeq (·.setIfInBounds j u)}:=
  I.Zy C g (HC c n j u) (r.set G j) (by rw[cz];exact K) s.toks
 by_cases h0:0<=k
 ·have f:k.toNat=j:=by
   rw[seqIndex_of h0 m]at h1;exact a_ h1
  exact PySem.W.ki_setAt g h0 () (by rw[bf,<- d];exact m)<|by rw[f];exact⟨_,B,q⟩
 ·have f:(k+(c.toArray.size:Int)).toNat=j:=by
   rw[seqIndex_neg () h3]at h1;rw[bf,<- d];exact a_ h1
  exact PySem.W.ki_setBack g () (by rw[bf,<- d];exact h3) ()<|by rw[f];exact⟨_,B,q⟩
abbrev u9:V->Bool
 | .non=>true
 | .bl _=>true
 | .int _=>true
 | .str _=>true
 | _=>false
abbrev Il:V->V->Bool
 | .non,.non=>true
 | .bl a,.bl b=>a == b
 | .bl a,.int b=>(if a then 1 else 0) == b
 | .int a,.bl b=>a == (if b then 1 else 0)
 | .int a,.int b=>a == b
 | .str a,.str b=>a == b
 | _,_=>false
def W7{A:az}{x:V}{v:af}(ry:RelV y u)(rx:RelV x v)(U:u9 y=true)(J:u9 x=true):SeqAt.EqAt A s u v (Il y x):=by
 cases y with
 | non=>
  cases ry
  cases x with
  | non=>cases rx;exact SeqAt.EqAt.same _
  | bl b=>cases rx;exact SeqAt.EqAt.none_bool b
  | int b=>obtain⟨t,rfl⟩:=rx;exact SeqAt.EqAt.none_int b t
  | str b=>obtain⟨t,rfl⟩:=rx;exact SeqAt.EqAt.none_str b t
  | _=>exact absurd (show false=true from J) br
 | bl a=>
  cases ry
  cases x with
  | non=>cases rx;exact SeqAt.EqAt.bool_none a
  | bl b=>cases rx;exact SeqAt.EqAt.bool_bool a b
  | int b=>obtain⟨t,rfl⟩:=rx;exact SeqAt.EqAt.bool_int a b t
  | str b=>obtain⟨t,rfl⟩:=rx;exact SeqAt.EqAt.bool_str a b t
  | _=>exact absurd (show false=true from J) br
 | int a=>
  obtain⟨c,rfl⟩:=ry
  cases x with
  | non=>cases rx;exact SeqAt.EqAt.int_none a c
  | bl b=>cases rx;exact SeqAt.EqAt.int_bool a c b
  | int b=>obtain⟨t,rfl⟩:=rx;exact SeqAt.EqAt.int_int a c b t
  | str b=>obtain⟨t,rfl⟩:=rx;exact SeqAt.EqAt.int_str a c b t
  | _=>exact absurd (show false=true from J) br
 | str a=>
  obtain⟨c,rfl⟩:=ry
  cases x with
  | non=>cases rx;exact SeqAt.EqAt.str_none a c
  | bl b=>cases rx;exact SeqAt.EqAt.str_bool a c b
  | int b=>obtain⟨t,rfl⟩:=rx;exact SeqAt.EqAt.str_int a c b t
  | str b=>obtain⟨t,rfl⟩:=rx;exact SeqAt.EqAt.str_str a c b t
  | _=>exact absurd (show false=true from J) br
 | _=>exact absurd (show false=true from U) br
abbrev eqU (x:V)(u:af):Bool:=match u with
 | .none=>Il .non x
 | .bool b=>Il (.bl b) x
 | .int i _=>Il (.int i) x
 | .str z _=>Il (.str z) x
 | _=>false
def IS{x:V}(r:RelV y u)(f:u9 y=true):eqU x u=Il y x:=by
 cases y with
 | non=>cases r;rfl
 | bl b=>cases r;rfl
 | int i=>obtain⟨t,rfl⟩:=r;rfl
 | str z=>obtain⟨t,rfl⟩:=r;rfl
 | _=>exact absurd (show false=true from f) br
theorem Be{A:az}{x:V}{v:af}(rx:RelV x v)(J:u9 x=true):∀{xs:List V}{us:ar},Vals xs us->xs.all u9=true->∀u∈us,SeqAt.EqAt A s u v (eqU x u)
 | _,_,.nil,_=>λu c=>by cases c
 | y::xs,u::us,.cons r t,f=>λd c=>by
  rw[i7,cJ]at f
  rcases bw.mp c with rfl|c
  ·rw[IS r f.1];exact W7 r rx f.1 J
  ·exact Be rx J t f.2 d c
abbrev inV (x:V)(xs:List V):Bool:=xs.any λy=>Il y x
def uA:kG X (.type "list") (λxs H Q=>∃p ys,xs=[.ref p]/\(qf X.K H p ys\/nX X.K H p ys)/\∀l,H l=none->Q (.ref l) (upd H l<|.lst ys)):=by
 kcf_m;obtain⟨p,ys,rfl,k,q⟩:=h;mg_lt
 cases rx
 have j:∀(c:ar),Vals ys c->ys.length<=sizeLine->∀(h':aq) (d:Nat),(∀b o',s.heap.get? b=some o'->h'.get? b=some o') ->
   h'.get? s.heap.objs.size=some { cls:=.type "list",dict:=none,data:=.seq c.toArray d,slots:=#[]}->EP X pins σ Q (.ref s.heap.objs.size) { s with heap:=h' }:=λc f m h' d kp e=>
  ⟨.ref s.heap.objs.size,_,I.laid (t':=s.toks) kp (aP _)<|show kI X.prog X.w _ h' _ (.lst ys)from⟨m,c,d,f,e⟩,rfl,q _<|I.hok.fresh<|aP _⟩
 rcases k with k|k
 ·obtain⟨c,f,pl,m⟩:=I.list k;have g:=f.length;obtain⟨o,B,hc,n,t⟩:=pl.isList;exact call_list_seq p (.inl rfl) B hc t (λh' d kp e=>j c f m h' d kp e) (by dsimp[bf]<;>lia)
 ·obtain⟨c,f,pl,m⟩:=I.tuple k;have g:=f.length;obtain⟨o,B,hc,n,t⟩:=pl;exact call_list_seq p (.inr rfl) B hc t (λh' d kp e=>j c f m h' d kp e)<|by dsimp[bf]<;>lia
def sZ:kG X (.type "tuple") (λxs H Q=>∃p ys,xs=[.ref p]/\((qf X.K H p ys/\∀l,H l=none->Q (.ref l) (upd H l<|.tup ys))\/(nX X.K H p ys/\Q (.ref p) H))):=by
 kcf_m;obtain⟨p,ys,rfl,h⟩:=h;mg_lt
 cases rx
 rcases h with⟨d,q⟩|⟨d,q⟩
 ·obtain⟨c,f,pl,j⟩:=I.list d;have g:=f.length;refine call_tuple_list pl.isList (λh' kp=>?_) (by dsimp[bf]<;>lia);have I1:Inv X pins σ H { s with heap:=h' }:=I.kept (t':=s.toks) kp;have k:Inv X pins σ (upd H h'.objs.size<|.tup ys) { s with heap:=h'.push { cls:=.type "tuple",data:=.seq c.toArray }}:=
   I1.laid (t':=s.toks) (λb o e=>aZ _ e) (aP _) (show kI X.prog X.w _ _ _ (.tup ys)from⟨j,c,f,rL.new _ _⟩)
  exact⟨.ref h'.objs.size,_,k,rfl,q _<|I1.hok.fresh<|aP _⟩
 ·obtain⟨c,f,pl,j⟩:=I.tuple d;exact call_tuple_same pl ⟨.ref p,H,I,rfl,q⟩
abbrev tyV (K:au)(T:String)(x:V)(H:Hp):Prop:=match x with
 | .str _=>T = "str"
 | .int _=>T = "int"
 | .ref p=>(T = "list" /\ ∃xs,qf K H p xs)\/(T = "tuple" /\ ∃o,K.lookup p=some o/\o.cls=.type "tuple" /\ o.dict=none) \/
   (T = "dict" /\ ((∃c,H p=some (.dK c))\/∃c,H p=some (.dT c)))\/(T = "set" /\ ∃S n,H p=some (.set S n))
 | _=>False
def Yy{H:Hp}{s:aA}{x:V}{v:af}(I:Inv X pins σ H s)(r:RelV x v)(ty:tyV X.K T x H) :
  s.TypeIs v T/\∀a,v=.ref a->∃ob,s.heap.get? a=some ob/\ob.dict=none:=by
 cases x with
 | str z=>
  obtain⟨t,rfl⟩:=r
  cases(show T = "str" from ty)
  exact⟨typeIs_str s z t,nofun⟩
 | int i=>
  obtain⟨t,rfl⟩:=r
  cases(show T = "int" from ty)
  exact⟨typeIs_int s i t,nofun⟩
 | ref p=>
  cases r
  rcases ty with⟨rfl,xs,j⟩|⟨rfl,o,d,hc,g⟩|⟨rfl,d⟩|⟨rfl,S,n,d⟩
  ·obtain⟨k,_,pl,_⟩:=I.list j;refine⟨pl.isList.typeIs,λa e=>?_⟩
   cases e
   obtain⟨o,n,e,c,g,_⟩:=pl;exact⟨o,e,g⟩
  ·refine⟨⟨o,I.Ed p o d,hc⟩,λa e=>?_⟩
   cases e
   exact⟨o,I.Ed _ o d,g⟩
  ·have z:∃o,s.heap.get? p=some o/\o.ExactDict:=by
    rcases d with⟨f,d⟩|⟨f,d⟩
    ·obtain⟨_,_,_,_,o,_,_,e,ex,_⟩:=I.hok p _ d;exact⟨o,e,ex⟩
    ·obtain⟨_,_,_,_,o,_,_,e,ex,_⟩:=I.hok p _ d;exact⟨o,e,ex⟩
   obtain⟨o,e,ex⟩:=z;refine⟨⟨o,e,ex.1⟩,λa e2=>?_⟩
   cases e2
   exact⟨o,e,ex.2.1⟩
  ·obtain⟨o,_,_,_,e,ex,_⟩:=I.hok p _ d;refine⟨⟨o,e,ex.1⟩,λa e2=>?_⟩
   cases e2
   exact⟨o,e,ex.2.1⟩
 | _=>exact False.elim ty
abbrev tBM (K:au)(T:String)(r:V->List V->Hp->VK->Prop)(to:TE)(t:TA):TE:=λσ H Q=>to σ H λx H1=>tyV K T x H1/\t σ H1 λxs H2=>r x xs H2 Q
variable {o e:aC}{es:List aC}{to:TE}{t:TA}{name:Str}{apos cpos:Pos}{T id:String}{r:V->List V->Hp->VK->Prop}
def OT(pa:PlainAttrs T)(slot:Slot T name id)(hty:typeOf (.builtin id)=pure (.type "method_descriptor"))(hm:Fy X id r)(ho:PE X o to)(ha:PA X (e::es) t)
  (U:attributeBase o name X.env (eval o X.env)=eval o X.env<|>ε)
  (hfew:(((backTo cpos<|starEach (e::es) X.env).all (λx=>!x.1) && (backToKw cpos<|keywordEach [] X.env).all (λx=>x.1.isSome)
   && decide ((e::es).length+([]:List Keyword).length+(if ([]:List Keyword).isEmpty then 0 else 1)<30))=true)<|>ε)
  (Z:(apos.endLine == cpos.line)=true<|>ε) (hs:starEach (e::es) X.env=(false,eval e X.env)::starEach es X.env<|>ε) (J:((backTo cpos<|starEach es X.env).any (·.1)=false)<|>ε) :
  PE X (.Call (.Attribute o name apos) (e::es) [] cpos) (tBM X.K T r to t):=by
 kt_k;refine gI U hfew Z rfl<|nA (ho pins s σ H _ I h) λv m ⟨x,H1,I1,r1,ty,k⟩=>?_;obtain⟨h1,h2⟩:=Yy I1 r1 ty;refine⟨T,id,pa,slot,hty,h1,h2,?_⟩;have c:=ha cpos pins m σ H1 _ I1 k;rw[hs]at c ⊢;refine fC (by show(false || (backTo cpos<|starEach es X.env).any (·.1))=false;rw[J]<;>rfl)<|fQ ?_;exact nA c λus d ⟨j,H2,f,r2,g⟩=>hm pins d σ H2 x j v us Q f r1 r2 g
end
abbrev MtM (X:Cx)(id:String)(r:V->List V->Hp->VK->Prop):Prop:=
 ∀(pins:bj) (s:aA) (σ:St) (H:Hp) (x:V) (xs:List V) (v:af) (us:ar) (Q:VK),Inv X pins σ H s->RelV x v->Vals xs us->r x xs H Q ->
  wpAny (model X.prog X.w) X.A (call (.builtin id) (v::us)) (EP X pins σ Q) X.xe s
def Vals.one:∀{x:V}{us:ar},Vals [x] us->∃u,us=[u]/\RelV x u
 | _,_,.cons r .nil=>⟨_,rfl,r⟩
theorem Vals.eraseIdx:∀{xs:List V}{us:ar}(i:Nat),Vals xs us->Vals (xs.eraseIdx i) (us.eraseIdx i)
 | _,_,_,.nil=>.nil
 | _,_,0,.cons _ t=>t
 | _,_,i+1,.cons r t=>.cons r<|Vals.eraseIdx i t
theorem Vals.rep(h:Vals xs us):∀k:Nat,Vals (List.replicate k xs).flatten (List.replicate k us).flatten
 | 0=>.nil
 | k+1=>by
  rw[dD,dD,eN,eN];exact Vals.append h<|Vals.rep h k
theorem CK{α:Type}:∀(l:List α) (i:Nat),(l.eraseIdx i).length<=l.length
 | [],_=>aP _
 | _::_,0=>jn _
 | _::r,i+1=>Nat.succ_le_succ<|CK r i
theorem foldl_rep(its:ar):∀(k:Nat) (acc:ar),
  List.foldl (λx1 x2=>x1++x2) acc.toArray (List.replicate k its.toArray)=(acc++(List.replicate k its).flatten).toArray
 | 0,acc=>by simp
 | k+1,acc=>by
  have e:acc.toArray++its.toArray=(acc++its).toArray:=by simp
  have e2:(acc++its)++(List.replicate k its).flatten=acc++(List.replicate (k+1) its).flatten:=by
   rw[dD,eN,cG]
  rw[<- e2,<- foldl_rep its k (acc++its),<- e,dD,gp]
section
variable {X:Cx}{pins:bj}{σ:St}{H:Hp}{s:aA}{l:ak}{xs ys:List V}
def Inv.Zd{its its':ar}{n:Nat}{f:Array af->Array af}{t':Nat}(I:Inv X pins σ H s)(J:H l=some (.lst xs))
  (e:s.heap.get? l=some { cls:=.type "list",data:=.seq its.toArray n }) (hf:f its.toArray=its'.toArray) (hv:Vals ys its') (U:ys.length<=sizeLine) :
  Inv X pins σ (upd H l<|.lst ys) { s with heap:=s.heap.update l<|Obj.mapSeq f,toks:=t' }:=by
 have q:=PySem.IsL.update e f;rw[hf]at q;refine I.write (x:=l) (e:=l) (by rw[J];exact trivial) (.inl rfl) (λd u hb c=>(Heap.get?_update_other s.heap (Obj.mapSeq f)<|Ne.symm hb).trans c) ⟨_,q⟩ ?_;exact⟨U,its',_,hv,q⟩
def Inv.YO{its:ar}{t':Nat}(I:Inv X pins σ H s)(hv:Vals ys its)(J:ys.length<=sizeLine) :
  Inv X pins σ (upd H s.heap.objs.size<|.lst ys) { s with heap:=s.heap.push { cls:=.type "list",data:=.seq its.toArray },toks:=t' }:=
 I.laid (λ_ _ q=>aZ _ q) (aP _) ⟨J,its,0,hv,bA _ rfl⟩
def Inv.fresh(I:Inv X pins σ H s):H s.heap.objs.size=none:=I.hok.fresh<|aP _
def Inv.Jg(I:Inv X pins σ H s)(J:H l=some (.lst xs)):xs.length<=sizeLine/\∃(its:ar) (n:Nat),Vals xs its/\xs.length=its.length/\s.heap.get? l=some { cls:=.type "list",data:=.seq its.toArray n }:=by
 obtain⟨z,its,n,r,e⟩:=I.hok l _ J;exact⟨z,its,n,r,r.length,e⟩
def F7{n:Nat}(h:n<=sizeLine):Builtin.List.listTooLong n=false:=by
 unfold Builtin.List.listTooLong;exact bH ()
end
section
variable {X:Cx}
abbrev Vd:V->List V->Hp->VK->Prop:=λx c H Q=>∃l xs y,x=.ref l/\c=[y]/\H l=some (.lst xs)/\xs.length<sizeLine/\Q .non (upd H l<|.lst<|xs++[y])
def Dg:MtM X "list.append" Vd:=by
 intro pins s σ H x j v us Q I rx g h;obtain⟨l,xs,y,rfl,rfl,d,m,q⟩:=h
 cases rx
 obtain⟨u,rfl,f⟩:=g.one;obtain⟨z,c,n,r,k,e⟩:=I.Jg d;refine gz F.slot_list_append ⟨_,e,rfl⟩ F.entry_list_append (F.args_list_append_2 _ _) (PySem.list_append l c.toArray n u<|by rw[bf];lia) ⟨e,?_⟩;refine⟨.non,_,I.Zd (its':=c++[u]) d e (by simp) (r.append<|.cons f .nil) ?_,rfl,q⟩;rw[bq,List.length_singleton]
 lia
abbrev Vx:V->List V->Hp->VK->Prop:=λx c H Q=>∃l b xs zs,x=.ref l/\c=[.ref b]/\H l=some (.lst xs)/\H b=some (.lst zs)/\xs.length+zs.length<=sizeLine/\Q .non (upd H l<|.lst<|xs++zs)
def Mx:MtM X "list.extend" Vx:=by
 intro pins s σ H x C v us Q I rx t h;obtain⟨l,b,xs,zs,rfl,rfl,j,m,J,q⟩:=h
 cases rx
 obtain⟨u,rfl,p⟩:=t.one
 cases p
 obtain⟨z,d,n,r,D,e⟩:=I.Jg j;obtain⟨G,c,B,r2,k,e2⟩:=I.Jg m;have g:d.toArray.size+c.toArray.size<=sizeLine:=by rw[bf,bf];lia
 have f:¬(!d.toArray.isEmpty && Builtin.List.listTooLong (d.toArray.size+c.toArray.size))=true:=by
  rw[F7 g,Bool.and_false];exact br
 refine gz F.slot_list_extend ⟨_,e,rfl⟩ F.entry_list_extend (F.args_list_extend_2 _ _)
  (AutoSeq1.list_extend_list_list_0 l d.toArray n b c.toArray B f (by rw[bf];lia) ()) ⟨e,e2,?_⟩
 refine⟨.non,_,I.Zd (its':=d++c) j e (by simp) (r.append r2) ?_,rfl,q⟩;rw[bq]
 lia
abbrev XU:V->List V->Hp->VK->Prop:=λx c H Q=>∃l xs i k y,x=.ref l/\c=[.int i]/\H l=some (.lst xs)/\-(2 ^ 63)<=i/\i<2 ^ 63/\seqIndex? i xs.length=some k/\xs[k]?=some y/\Q y (upd H l<|.lst<|xs.eraseIdx k)
def Ro:MtM X "list.pop" XU:=by
 intro pins s σ H x C v us Q I rx p h;obtain⟨l,xs,i,k,y,rfl,rfl,f,h1,h2,m,B,q⟩:=h
 cases rx
 obtain⟨u,rfl,j⟩:=p.one;obtain⟨t,rfl⟩:=j;obtain⟨z,c,n,r,g,e⟩:=I.Jg f;obtain⟨w,hw,d⟩:=r.get B;refine gz F.slot_list_pop ⟨_,e,rfl⟩ F.entry_list_pop (F.args_list_pop_2 _ _)
  (MeetsSeq.list_pop_at l c.toArray n i t k w (fitsIndex_both h1 h2) (by rw[bf,<- g];exact m) (by rw[<- dg];exact hw)<|by rw[bf];lia) ⟨e,?_⟩
 refine⟨y,_,I.Zd (its':=c.eraseIdx k) f e ?_ (r.eraseIdx k) ?_,d,q⟩
 ·skip
  rw[List.eraseIdxIfInBounds_toArray]
 ·have:=CK xs k
  lia
abbrev ad9:R2:=λx y H Q=>∃l b xs zs,x=.ref l/\y=.ref b/\H l=some (.lst xs)/\H b=some (.lst zs)/\xs.length+zs.length<=sizeLine/\∀p,H p=none->Q (.ref p) (upd H p<|.lst<|xs++zs)
def Y8:pL X (binaryOp .Add) ad9:=by
 kj_on;obtain⟨l,b,xs,zs,rfl,rfl,j,k,t,q⟩:=h
 cases rx
 cases ry
 obtain⟨z,d,n,r,m,e⟩:=I.Jg j;obtain⟨p,c,B,r2,f,e2⟩:=I.Jg k;refine PySem.P.add_list e e2 ?_ (by rw[bf,bf];lia);have g:d.toArray++c.toArray=(d++c).toArray:=by simp
 rw[g];exact⟨.ref _,_,I.YO (t':=s.toks) (r.append r2)<|by rw[bq];lia,rfl,q _ I.fresh⟩
abbrev ac1:R2:=λx y H Q=>∃l k xs,x=.ref l/\y=.int k/\H l=some (.lst xs)/\-(2 ^ 63)<=k/\k<2 ^ 63/\xs.length * k.toNat<=sizeLine /\
 ∀p,H p=none->Q (.ref p) (upd H p<|.lst (List.replicate k.toNat xs).flatten)
def len_rep{α:Type}(xs:List α)(k:Nat):(List.replicate k xs).flatten.length=k * xs.length:=by
 induction k with
 | zero=>simp
 | succ k c=>rw[dD,eN,bq,c,je,Nat.add_comm]
def W4:pL X (binaryOp .Mult) ac1:=by
 kj_on;obtain⟨l,k,xs,rfl,rfl,J,h1,h2,D,q⟩:=h
 cases rx
 obtain⟨t,rfl⟩:=ry;obtain⟨z,c,n,r,G,e⟩:=I.Jg J;have g:c.toArray.size * k.toNat<=sizeLine:=by rw[bf,<- G];exact D
 have p:¬c.toArray.size * k.toNat>(2 ^ 63-1) / 8:=by
  have:(sizeLine:Nat)<=(2 ^ 63-1) / 8:=by decide
  omega
 have j:¬(!Builtin.List.listFitsIndex k)=true:=by
  rw[fitsIndex_both h1 h2];exact br
 have d:¬Builtin.List.listTooLong (c.toArray.size * k.toNat)=true:=by
  rw[F7 g];exact br
 have f:List.foldl (λB C=>B++C) #[] (List.replicate (if c.toArray.isEmpty=true then 0 else k.toNat) c.toArray)=(List.replicate k.toNat c).flatten.toArray:=by
  have f0:∀m:Nat,List.foldl (λB C=>B++C) #[] (List.replicate m c.toArray)=(List.replicate m c).flatten.toArray:=λm=>by
   have:=foldl_rep c m [];rw[List.nil_append]at this;exact this
  rw[f0]
  cases c with
  | nil=>simp
  | cons a K=>rw[aN<|by simp]
 refine wpAny_binaryOp_repeat_ref (T := "list") (U := "int") ⋯ ⟨_,e,rfl⟩ (λs'=>typeIs_int s' k t) noFill_list_mul F.fills_int_mul F.slot_int_rmul repeat_list F.slot_int_index.lookup
  (gz F.slot_int_rmul (typeIs_int s k t) F.entry_int_rmul (F.args_int_rmul_2 _ _) (int___rmul___int_list k t l c.toArray n)
   ⟨e,rfl,⟨_,e,rfl⟩,gz F.slot_list_mul ⟨_,e,rfl⟩ F.entry_list_mul (F.args_list_mul_2 _ _) (AutoListH.list___mul___list_int_3 l c.toArray n k t j p d) ⟨e,?_⟩⟩)
 rw[f];exact⟨.ref _,_,I.YO (t':=s.toks) (r.rep k.toNat)<|by rw[len_rep,Nat.mul_comm];exact D,rfl,q _ I.fresh⟩
end
end L2
namespace Att
open PySem PySem.W PySem.Calls PyProof.Rows
def zX{P:Params}:∀(ns:ae) (vs:ar),WellAll P h vs (ns.map WData.int)->IntsAre vs ns:=by
 intro ns
 induction ns with
 | nil=>
  intro vs w;rw[d9]at w
  cases w
  exact .nil
 | cons n ns c=>
  intro vs w;rw[bF]at w
  cases w with
  | cons a b=>
   cases a
   exact .cons _ _<|c _ b
def ME{l:OpenLaw}{n:Nat}(hn:l.most=some n){P:Params}{h:aq}
  (J:l.row.toRowW.claim.pre args=true) (U:WellAll P h vals args) :
  ∃a vs ns,vals=[Value.ref a]/\args=[WData.list<|ns.map WData.int]/\h.get? a=some { cls:=.type "list",data:=.seq vs.toArray }/\IntsAre vs ns/\ns.length<=n:=by
 have k:WShape.hasAll [] args [.list .int]=true:=(pre_splitW J).1;have hc:l.pre.holds [] { args:=args }=true:=(pre_splitW J).2;obtain⟨d,r,rfl,h1,h2⟩:=hasAllW_cons k;obtain rfl:=hasAllW_nil h2;obtain⟨xs,rfl,h3⟩:=hasW_list h1;obtain⟨ns,rfl⟩:=items_int h3;have f:ns.length<=n:=by
  unfold OpenLaw.pre at hc;have g:(WTm.not<|.lt (.lit<|.int (n:Int))<|.len<|.arg 0).holds [] { args:=[.list<|ns.map .int]}=true:=by
   have g:=(holds_andW hc).1;rw[hn]at g;exact g
  have j:=condW_of g<|w_not<|w_lt w_lit<|w_len_list<|w_arg rfl;rw[aF]at j;refine i9 λq=>?_;have m:(n:Int)<((ns.length:Nat):Int):=by omega
  first
   | (rw[bg m]at j;exact absurd j ⋯)
   | (simp at j;omega)
 cases U with
 | cons t B=>
  cases B
  cases t with
  | list p c=>exact⟨_,_,ns,rfl,rfl,p,zX ns _ c,f⟩
def Nn(l:OpenLaw)(args:List WData):l.row.toRowW.claim.post args (.bool true) args=true:=
 postW_of (r:=l.row.toRowW) (X:=(true == true))
  (show WShape.has [] (.bool true) .bool=true by first|rfl|decide|simp[WShape.has,WShape.arms,WShape.armsAll])
  (show(WTm.eq .res<|.lit<|.bool true).value [] { args:=args,res:=some<|.bool true,after:=args }=some (.bool<|true == true)from w_eq_bool (w_res rfl) w_lit) rfl
def Ht{l:OpenLaw}{n:Nat}{q:aj}{Z:(Str->bb)->aq->Prop}{YP:ah->aq->Prop}{d:DefRec}
  (hn:l.most=some n) (U:d.params.defaults=[])
  (call:∀(w:ah) (s₀ s₁:aA) (mg mb:Str->bb) (fa:ak) (o:Obj) (pm cd doc:af) (a:ak) (vs:ar) (ns:ae),
   Ground q loose [] Z w s₀ mg mb s₁.heap->YP w s₁.heap ->
   s₁.heap.get? fa=some o->o.data=.func (docDef d.name d.params d.body d.scope pm cd doc)->s₁.heap.CodeRec cd d.name->mg d.name=some (.ref fa) ->
   s₁.heap.get? a=some { cls:=.type "list",data:=.seq vs.toArray }->IntsAre vs ns->ns.length<=n->s₁.gens=#[] ->
   codeAny (model l.prog w) callerA (.call (.ref fa) ⟨[.ref a],[]⟩) (λr s'=>r=.ok (.ret<|.bool true)/\OldK s₁.heap s'.heap/\s'.os=s₁.os/\AllBare s'.gens) s₁) :
  WalkO q loose Z YP l.row.toRowW d [] (λf vs=>PySem.call f vs):=by
 intro w s₀ s₁ mg mb G Y fa o pm cd doc P kV O M p B m hg F C as k D T t L;obtain rfl:P=.none:=Dflts.none B U;obtain rfl:kV=.none:=Dflts.noKw B;obtain⟨a,vs,ns,rfl,rfl,j,c,g⟩:=ME hn k t;refine enter_call<|jd (call w s₀ s₁ mg mb fa o pm cd doc a vs ns G Y O (fd_plain M) p m j c g hg) λr s' N=>?_;obtain⟨rfl,h2,h3,J⟩:=N;exact⟨.inl ⟨.bool true,.bool true,[],rfl,λ_=>rfl,.bool true,Nn l _,λ_=>⟨List.Pairwise.nil,λ_ K=>(nomatch K)⟩⟩,h2,h3,J⟩
end Att
namespace L2
open PySem PySem.Spec PyProof.Rows
theorem CD:∀{vs:ar}{ns:ae},IntsAre vs ns->Vals (ns.map V.int) vs
 | _,_,.nil=>.nil
 | _,_,.cons n t h=>.cons ⟨t,rfl⟩<|CD h
abbrev VB (H:Hp):Prop:=∀b,H b=none\/∃o xs,H b=some (.frz o<|.lst xs)
def OB{P:aj}{w:ah}{K:au}{mg mb:Str->bb}{CX:SH}{k:Nat}{fa a:ak}{x:Str}{sp:Sp}{s₁:aA}{vs:ar}{ns:ae}
  (KX:K.In s₁.heap) (hns:s₁.heap.Ns mainGlobals mg) (hb:s₁.heap.Ns builtinsNs mb) (hbb:∀x:Str,x ≠ "__name__" -> mb x=bootBuiltins x) (hlim:s₁.heap.NoLimit) (hg:s₁.gens=#[])
  (ha:s₁.heap.get? a=some { cls:=.type "list",data:=.seq vs.toArray }) (hi:IntsAre vs ns) (hl:ns.length<=sizeLine) (hr:Room k callerA)
  (F:∀base:aq,K.In base->base.Ns mainGlobals mg->FnOk P w K mg base CX k fa fd [x] sp) (hbind:∀(s:aA) (u:af),BindsTo s fd ⟨[u],[]⟩ [(x,u)])
  (hsp:∀H:Hp,VB H->qf K H a (ns.map V.int)->sp [.ref a] H (λv _=>v=.bl true) λ_ _ _=>False)
  (hCX:∀H e s',CX [] H s₁ (λ_ _ _=>False) e s'->False) :
  codeAny (model P w) callerA (.call (.ref fa) ⟨[.ref a],[]⟩) (λr s'=>r=.ok (.ret<|.bool true)/\OldK s₁.heap s'.heap/\s'.os=s₁.os/\AllBare s'.gens) s₁:=by
 have M:=CD hi;have t:=hi.length;have g:∀H:Hp,VB H->qf K H a (ns.map V.int)->xX P w H s₁.heap->(∀b,H b≠none->b=a)->(H a≠none->K.lookup a=none) ->
   codeAny (model P w) callerA (.call (.ref fa) ⟨[.ref a],[]⟩) (λr s'=>r=.ok (.ret<|.bool true)/\OldK s₁.heap s'.heap/\s'.os=s₁.os/\AllBare s'.gens) s₁:=by
  intro H L hS hok N hK;have c:∀{b:ak} {o:Obj},s₁.heap.get? b=some o->H b=none->(Ec s₁.heap H).get? b=some o:=λe n=>OJ e n;have D:∀{b:ak} {o:Obj} {es:Array DictEntry} {ep:Nat},s₁.heap.get? b=some o->o.data=.dict es ep->H b=none:=λ{b o es ep} e d=>by
   cases q:H b with
   | none=>rfl
   | some u=>
    have J:b=a:=N b (by rw[q];simp);subst J;rw[ha]at e;cases e;have T:Data.seq vs.toArray _=Data.dict es ep:=d
    cases T
  have f:∀{b:ak} {m:Str->bb},s₁.heap.Ns b m->(Ec s₁.heap H).Ns b m:=λ{b m} ⟨o,es,ep,e,d,r⟩=>⟨o,es,ep,c e<|D e d,d,r⟩;have p:K.In (Ec s₁.heap H):=λb o e=>c (KX b o e) (by
   cases q:H b with
   | none=>rfl
   | some u=>
    have J:b=a:=N b (by rw[q];simp);subst J;rw[hK<|by rw[q];simp]at e;cases e)
  have Y:Mod K mg (Ec s₁.heap H):=⟨p,f hns,⟨mb,f hb,hbb⟩,let⟨mc,h1,h2⟩:=hlim;⟨mc,f h1,h2⟩⟩;have e0:Env0 P w K mg (Ec s₁.heap H) callerA [] s₁ H:=⟨rfl,Y,λb o e=>VA e,Nat.le_of_eq<|Mp _ _,trivial,λb hb=>absurd (show b∈([]:ba)from hb)<|by simp,hok,.of_eq hg⟩;refine jd ((F _ p<|f hns).run callerA [] s₁ H ⟨[.ref a],[]⟩ [.ref a] [.ref a] _ _ hr e0 (hbind s₁<|.ref a) (.cons rfl .nil)<|hsp H L hS) λr s' h=>?_
  cases r with
  | error e=>exact(hCX H e s' h).elim
  | ok fl=>
   cases fl with
   | next=>exact False.elim h
   | brk=>exact False.elim h
   | cont=>exact False.elim h
   | ret u=>
    obtain⟨v,H',os,B,un,C,Z,q⟩:=h;have O:v=.bl true:=q;subst O;obtain rfl:u=Value.bool true:=Z;refine⟨rfl,OldK.of_keep λb o e=>?_,os,B⟩
    cases q:H b with
    | none=>exact un.keep b o e q (by intro z;exact absurd (show b∈([]:ba)from z)<|by simp) (by simp)
    | some u=>
     rcases L b with z|⟨W,xs,z⟩
     ·rw[q]at z;cases z
     ·have U:=un.frzs b W _ z;obtain⟨e1,_⟩:=hok b _ z;obtain⟨e2,_⟩:=C b _ U;rw[e]at e1;cases e1;exact e2
 cases G:K.lookup a with
 | some o=>
  have e:=KX a o G;rw[ha]at e
  cases e
  refine g (λ_=>none) (λ_=>.inl rfl) (.inr ⟨_,vs.toArray,_,G,rfl,rfl,rfl,by rw[bf,t];exact hl,by simpa using M⟩) (λb u z=>by have j:(none:Option HO)=some u:=z;cases j) (λb z=>absurd rfl z) λz=>absurd rfl z
 | none=>
  refine g (λb=>if b=a then some (.frz { cls:=.type "list",data:=.seq vs.toArray } (.lst<|ns.map V.int))else none) (λb=>?_) (.inl<|.inr ⟨{ cls:=.type "list",data:=.seq vs.toArray },aR rfl⟩) (λb u z=>?_) (λb z=>?_) λ_=>G
  ·by_cases hb:b=a
   ·exact .inr ⟨_,_,aR hb⟩
   ·exact .inl<|aN hb
  ·by_cases hb:b=a
   ·have j:=(aR hb).symm.trans z
    cases j
    subst hb;exact⟨ha,by rw[aF];exact hl,vs,_,M,ha⟩
   ·have j:=(aN hb).symm.trans z
    cases j
  ·by_cases hb:b=a
   ·exact hb
   ·exact absurd (aN hb) z
def US{l:PySem.W.OpenLaw}{n k:Nat}{q:aj}{XP:(Str->bb)->aq->Prop}{YP:ah->aq->Prop}{d:DefRec}{K:Params->au}{CX:ah->SH}{sp:ah->Sp}{x:Str}
  (hn:l.most=some n) (hn2:n<=sizeLine) (hdf:d.params.defaults=[]) (hr:Room k callerA)
  (hY:∀(w:ah) (h:aq),YP w h->(K w.params).In h)
  (F:∀(w:ah) (mg:Str->bb) (fa:ak) (h:aq),(K w.params).In h->h.Ns mainGlobals mg->mg d.name=some (.ref fa) ->
   ∃fd:FuncData,(∀(s:aA) (u:af),BindsTo s fd ⟨[u],[]⟩ [(x,u)]) /\
    ∀base:aq,(K w.params).In base->base.Ns mainGlobals mg->FnOk l.prog w (K w.params) mg base (CX w) k fa fd [x] (sp w))
  (hsp:∀(w:ah) (H:Hp) (a:ak) (ns:ae),ns.length<=n->VB H->qf (K w.params) H a (ns.map V.int)->sp w [.ref a] H (λv _=>v=.bl true) λ_ _ _=>False)
  (hCX:∀(w:ah) (H:Hp) (s:aA) (e:af) (s':aA),CX w [] H s (λ_ _ _=>False) e s'->False) :
  PySem.W.WalkO q loose XP YP l.row.toRowW d [] (λf vs=>PySem.call f vs):=by
 refine Att.Ht hn hdf λw C m mg Z fa o N P L a vs ns G Y U O M t p j c hg=>?_;have B:=hY w _ Y;obtain⟨fd,hb,J⟩:=F w mg fa _ B G.T.g t;exact OB B G.T.g G.T.b G.T.builtins G.T.nolimit hg p j (bI c hn2) hr J hb (λH D hS=>hsp w H a ns c D hS) λH e s'=>hCX w H m e s'
abbrev wI (s:aE):Arguments:=match s with
 | .FunctionDef _ a _ _ _ _ _ _ _ _=>a
 | _=>{ posonlyargs:=[],args:=[],vararg:=none,kwonlyargs:=[],kw_defaults:=[],kwarg:=none,defaults:=[]}
abbrev su (s:aE):List aE:=match s with
 | .FunctionDef _ _ b _ _ _ _ _ _ _=>b
 | _=>[]
abbrev jN (s:aE):Scope:=match s with
 | .FunctionDef _ _ _ _ _ _ c _ _ _=>c
 | _=>{ kind:=.function,names:=[],isGenerator:=false,isCoroutine:=false }
meta abbrev qj:SH:=λ_ _ _ _ _ _=>False
meta abbrev E0:XK:=λ_ _ _=>False
def ab5{X:Cx}:Passes qj X E0:=λ_ _ _ _ _ _ _ h=>h.elim
structure Fun (K:au)(x qual:Str)(st:aE)(f:ak)(fd:FuncData):Prop where
 ex:∃(oc:af) (od:Option ak) (kV doc pm:af) (an:Option ak) (cdv ct:af) (osl:Array<|bb),
  fd=PySem.W.fnOf x qual (wI st) (su st) (jN st) .none kV doc pm an cdv ct/\K.lookup f=some ⟨oc,od,.func fd,osl⟩/\PySem.W.codeIn K cdv qual=true
 kp:PySem.W.keepIn K (.ref f)=true
section
variable {P:aj}{w:ah}{K:au}{mg:Str->bb}{base:aq}
def Fun.ok{x:Str}{st:aE}{f:ak}{N ps:am}{k:Nat}{sp:Sp}(F:Fun K x qual st f fd)(S:FnScope N ps<|jN st)(len:∀vs H Q E,sp vs H Q E->vs.length=ps.length)
  (J:∀(cdv:af) (A:az) (outer:List Env) (s:aA) (H:Hp) (vs:List V) (Q:VK) (E:XK),Room k (A.deeper<|envOfC qual (jN st) s.heap.objs.size f cdv)->sp vs H Q E ->
   ∃t,Eg (IJ qj P w K mg base N qual (jN st) f cdv A outer s H E).nox (su st) t/\t { nx:=λ_ H'=>Q .non H',rt:=Q } (start N vs) H):FnOk P w K mg base qj (k+1) f fd ps sp:=by
 obtain⟨B,D,kV,p,C,G,cdv,ct,m,rfl,j,d⟩:=F.ex;refine aau j d S len λA outer s H vs Q E g c=>?_;obtain⟨t,h,q⟩:=J cdv A outer s H vs Q E g c;exact⟨t,h.nox,q⟩
def Fun.binds{x:Str}{st:aE}{f:ak}{ps:am}(F:Fun K x qual st f fd)
  (h:∀(kV doc pm:af) (an:Option ak) (cdv ct:af) (us:ar),us.length=ps.length->bindArgs (PySem.W.fnOf x qual (wI st) (su st) (jN st) .none kV doc pm an cdv ct) ⟨us,[]⟩=pure (ps.zip us)):Binds K fd ps []:=by
 obtain⟨j,g,kV,doc,pm,an,cdv,ct,c,rfl,k,d⟩:=F.ex;exact .all<|h kV doc pm an cdv ct
def W6{x:Str}{st:aE}{f:ak}{kV J ct:af}(l:K.lookup f=some ⟨oc,od,.func<|PySem.W.fnOf x qual (wI st) (su st) (jN st) .none kV doc J an cdv ct,osl⟩)
  (c:PySem.W.codeIn K cdv qual=true) (k:PySem.W.keepIn K (.ref f)=true):Fun K x qual st f (PySem.W.fnOf x qual (wI st) (su st) (jN st) .none kV doc J an cdv ct):=⟨⟨oc,od,kV,doc,J,an,cdv,ct,osl,rfl,l,c⟩,k⟩
end
set_option maxHeartbeats 4000000
abbrev YX (σ:St):bi->Option V
 | some j=>(σ[j]?).getD none
 | none=>none
abbrev yv (env:Env):List (Str×NameKind)->List (Str×ak)->List (Str×ak)
 | [],cs=>cs
 | (n,k)::r,cs=>yv env r (if k == .free then(n,(env.cells.lookup n).getD 0)::cs else cs)
def IA{scope:Scope}{env:Env}(h:∀y∈scope.names,y.2=.free->∃c,env.cells.lookup y.1=some c):closureFor scope env=pure (yv env scope.names []):=by
 have g:∀(l:List<|Str×NameKind) (d:List<|Str×ak),(∀y∈l,y.2=.free->∃c,env.cells.lookup y.1=some c) ->
   (forIn l d (λ(x:Str×NameKind) (r:List<|Str×ak)=>(match x with
    | (name,kind)=>if (kind == NameKind.free)=true then(do let c <- cellOf env name;pure (ForInStep.yield ((name,c)::r)))else pure (ForInStep.yield r):Sem<|ForInStep<|List<|Str×ak)))=(pure (yv env l d):Sem<|List<|Str×ak):=by
  intro l
  induction l with
  | nil=>intro d _;rfl
  | cons y r m=>
   intro d f;obtain⟨n,k⟩:=y;rw[List.forIn_cons];by_cases p:k=.free
   ·subst p;obtain⟨c,hc⟩:=f (n,.free) aJ rfl;have e1:cellOf env n=pure c:=by
     unfold cellOf;rw[hc]
    dsimp[cV,fF,e1,pure_bind];rw[m _ λz j=>f z<|aO _ j];dsimp[yv,cV,fF,hc,ig]
   ·have hb:(k == NameKind.free)=false:=by simpa using p
    dsimp[hb,bM,cY,pure_bind];rw[m _ λz j=>f z<|aO _ j];dsimp[yv,hb,bM,cY]
 have:=g scope.names [] h;exact(cH (λz=>z >>= λd=>(pure d:Sem<|List<|Str×ak)) this).trans (pure_bind _ _)
theorem BQ:∀{l:List<|Str×NameKind}{x:Str}{k:NameKind},l.lookup x=some k->(x,k)∈l
 | [],_,_,h=>nomatch h
 | (n,k')::r,x,k,h=>by
  rw[eg]at h
  cases c:x == n with
  | true=>
   rw[c]at h;have e:x=n:=by simpa using c
   subst e
   cases h
   exact aJ
  | false=>rw[c]at h;exact aO _<|BQ h
theorem CJ{env:Env}{x:Str}{c:ak}:∀{l:List<|Str×NameKind}{cs:List<|Str×ak},(∀y∈l,y.2=.free->∃c,env.cells.lookup y.1=some c)->(yv env l cs).lookup x=some c->env.cells.lookup x=some c\/cs.lookup x=some c
 | [],cs,_,h=>.inr h
 | (n,k)::r,cs,hl,h=>by
  have h':=CJ (l:=r) (λz g=>hl z<|aO _ g) h
  rcases h' with h'|h'
  ·exact .inl h'
  ·by_cases f:k=.free
   ·subst f;dsimp[cV,fF]at h';obtain⟨j,hc⟩:=hl (n,.free) aJ rfl;rw[hc,ig,eg]at h'
    cases d:x == n with
    | true=>
     rw[d]at h';have e:x=n:=by simpa using d
     subst e;left;rw[hc];exact h'
    | false=>rw[d]at h';exact .inr h'
   ·have hb:(k == NameKind.free)=false:=by simpa using f
    dsimp[hb,bM,cY]at h';exact .inr h'
theorem C1{env:Env}{x:Str}:∀{l:List<|Str×NameKind}{cs:List<|Str×ak},(cs.lookup x).isSome=true->((yv env l cs).lookup x).isSome=true
 | [],cs,h=>h
 | (n,k)::r,cs,h=>by
  skip
  refine C1 (l:=r) ?_;by_cases c:(k == NameKind.free)=true
  ·rw[aR c,eg]
   cases d:x == n with
   | true=>rfl
   | false=>exact h
  ·rw[aN c];exact h
theorem BI{env:Env}{x:Str}:∀{l:List<|Str×NameKind}{cs:List<|Str×ak},(x,NameKind.free)∈l->((yv env l cs).lookup x).isSome=true
 | [],_,h=>nomatch h
 | (n,k)::r,cs,h=>by
  rcases bw.mp h with e|h
  ·cases e
   skip
   refine C1 (l:=r) ?_;rw[aR<|by rfl,eg];simp
  ·exact BI (l:=r) h
theorem rD:∀(names:List<|Str×NameKind) (n:Nat) (acc:List<|Str×ak),cellsFrom n names acc=cellsFrom n names []++acc
 | [],_,_=>rfl
 | (x,k)::r,n,acc=>by
  unfold cellsFrom;split
  ·rw[rD r (n+1) ((x,n)::acc),rD r (n+1) [(x,n)],cG];rfl
  ·exact rD r n acc
theorem Bk:∀(names:List<|Str×NameKind) (n:Nat) {x:Str}{c:ak},(x,c)∈cellsFrom n names []->(x,NameKind.cell)∈names
 | [],_,_,_,h=>nomatch h
 | (y,k)::r,n,x,c,h=>by
  unfold cellsFrom at h;split at h
  ·rename_i d;rw[rD]at h
   rcases bJ.mp h with z|z
   ·exact aO _ (Bk r _ z)
   ·rw[aW]at z
    cases z
    have:k=.cell:=by simpa using d
    rw[this];exact aJ
  ·exact aO _<|Bk r _ h
theorem yx{α:Type}{x:Str}:∀{l m:List<|Str×α},(l++m).lookup x=match l.lookup x with|some c=>some c|none=>m.lookup x
 | [],_=>rfl
 | (y,c)::l,m=>by
  rw[i_,eg,eg]
  cases x == y with
  | true=>rfl
  | false=>exact yx
def Ux{n:Nat}{acc:List<|Str×ak}{x:Str}{c:ak}(h:(cellsFrom n names acc).lookup x=some c):(cellsFrom n names []).lookup x=some c\/((cellsFrom n names []).lookup x=none/\acc.lookup x=some c):=by
 rw[rD,yx]at h
 cases e:(cellsFrom n names []).lookup x with
 | some d=>rw[e]at h;exact .inl h
 | none=>rw[e]at h;exact .inr ⟨rfl,h⟩
def YL{n:Nat}{acc:List<|Str×ak}{x:Str}(h:(x,NameKind.cell)∉names):(cellsFrom n names acc).lookup x=acc.lookup x:=by
 rw[rD,yx]
 cases e:(cellsFrom n names []).lookup x with
 | some d=>exact absurd (Bk names n<|cW e) h
 | none=>rfl
def Vt{A:az}{E:af->aA->Prop}{s:aA}{scope:Scope}{J:ak}{cl:List<|Str×ak}{env:Env}{Q:Env->aA->Prop}
  (U:∀h':aq,h'.Ns s.heap.objs.size (λ_=>none)->(∀b o,s.heap.get? b=some o->h'.get? b=some o)->CellsOk h' (s.heap.objs.size+1) (cellsFrom (s.heap.objs.size+1) scope.names []) ->
   Q (newEnv scope s.heap.objs.size J (cellsFrom (s.heap.objs.size+1) scope.names cl) qual none .none (some env) builtinsNs) { s with heap:=h',toks:=s.toks+([]:List<|Str×af).length }) :
  wpAny M A (newFunctionEnv scope J cl [] qual none .none<|some env) Q E s:=by
 dsimp[newFunctionEnv,gA,fF];refine aI<|wpAny_alloc ?_;refine aI (wpAny_layCells _ (λname kind d=>by cases c:kind == NameKind.cell<;>simp[c]) _ _ _ _ ?_);have ok:=cellsFrom_ok scope.names (s.heap.push { cls:=.type "dict",data:=.dict #[]}) (s.heap.objs.size+1) [] ⟨λ_ _ f=>(nomatch f),List.Pairwise.nil⟩ (by rw[dX];exact aP _);rw[dX]at ok;rw[show({ s with heap:=s.heap.push { cls:=.type "dict",data:=.dict #[]}}:aA).heap.objs.size=s.heap.objs.size+1 from dX ..];rw[jo];refine aI<|aV<|aV ?_;exact U _ ((Heap.Ns.new s.heap<|.type "dict").keeps<|pushCells_keeps _ _) (λb o e=>pushCells_keeps _ _ b o<|aZ _ e) ok
abbrev p9 (X:Cx)(scope:Scope)(N:am)(C:ak)(s₀:aA)(H₀:Hp)(ex:ba):Cx where
 prog:=X.prog
 w:=X.w
 K:=X.K
 mg:=X.mg
 base:=X.base
 A:=X.A
 N:=N
 s₀:=s₀
 H₀:=H₀
 env:=compEnvC scope (cellsFrom (C+1) scope.names<|yv X.env scope.names []) C X.env
 outer:=X.stack
 stack:=X.stack
 ex:=ex
 fn:=λx=>scope.names.lookup x == some .cell
 calm:=X.calm
 pn:=[]
 xe:=λ_ _=>False
structure CpScope (X:Cx)(scope:Scope)(N:am)(cap:List (bi)):Prop where
 kind:scope.kind=.function
 nocf:∀x,(x,NameKind.free)∈scope.names->(x,NameKind.cell)∉scope.names
 nm:∀y∈scope.names,y.2=.local->scope.names.lookup y.1=some .local
 fr:∀y∈scope.names,y.2=.free->X.env.kindOf y.1=some .cell\/X.env.kindOf y.1=some .free
 rl:∀y,((relabel scope X.env).names.lookup y=some .cell\/(relabel scope X.env).names.lookup y=some .free)->(y,NameKind.free)∈scope.names\/scope.names.lookup y=some .cell
 len:cap.length=N.length
 nolf:∀x,(x,NameKind.free)∈scope.names->scope.names.lookup x≠some .local
 cp:∀(i j:Nat) (x:Str),N[i]?=some x->cap[i]?=some (some j)->X.N[j]?=some x/\(x,NameKind.free)∈scope.names
def Xl{X:Cx}{scope:Scope}{N:am}{cap:List<|bi}{H:Hp}{s:aA}{fp:ba}{h₁:aq}{m:Str->bb}{tk:Nat}(S:CpScope X scope N cap)(I:Inv X pins σ H s)
  (hf:∀b∈fp,yU X pins H b) (ho:∀b∈fp,∃o,s.heap.get? b=some o) (hn:h₁.Ns s.heap.objs.size m) (hC:CellsOk h₁ (s.heap.objs.size+1)<|cellsFrom (s.heap.objs.size+1) scope.names []) (hk:∀b o,s.heap.get? b=some o->h₁.get? b=some o) :
  Inv (p9 X scope N s.heap.objs.size s H fp) [] (cap.map<|YX σ) H { s with heap:=h₁,toks:=tk }:=by
 have D:∀y∈scope.names,y.2=.free->∃c,X.env.cells.lookup y.1=some c:=λy hy e=>I.ok.has _<|S.fr y hy e;have U:∀x c,(yv X.env scope.names []).lookup x=some c->X.env.cells.lookup x=some c:=λx c e=>by
  rcases CJ D e with z|z
  ·exact z
  ·cases z
 have f:∀x c,(cellsFrom (s.heap.objs.size+1) scope.names<|yv X.env scope.names []).lookup x=some c->((x,c)∈cellsFrom (s.heap.objs.size+1) scope.names []/\h₁.IsCell c none/\s.heap.objs.size+1<=c)\/X.env.cells.lookup x=some c:=λx c e=>by
  rcases Ux e with z|z
  ·exact .inl ⟨cW z,hC.empty x c<|cW z⟩
  ·exact .inr<|U x c z.2
 have old:∀x c,X.env.cells.lookup x=some c->c<s.heap.objs.size:=λx c e=>by
  obtain⟨v,z⟩:=I.cell x c e;exact z.lt
 have lt:∀b o,s.heap.get? b=some o->b≠s.heap.objs.size:=λb o e=>bD<|bh e;refine⟨⟨I.ok.mod,?_,I.ok.glob,I.ok.blt,aP _,?_,?_,?_,I.ok.hd,I.ok.frames,.inl rfl,?_,I.bs,bI I.ok.bsz I.sz,?_,?_,I.stack,I.JC⟩,rfl,I.bare,Un.kept hk,?_,?_,I.hok.fresh<|aP _,?_,?_,I.hok.kept hk,?_⟩
 ·exact S.kind
 ·intro x y c e1 e2
  rcases f x c e1 with a|a
  ·rcases f y c e2 with b|b
   ·exact name_of_addr hC.apart a.1 b.1
   ·exact absurd (old y c b)<|not_lt.mpr<|d8 a.2.2
  ·rcases f y c e2 with b|b
   ·exact absurd (old x c a) (not_lt.mpr<|d8 b.2.2)
   ·exact I.ok.inj x y c a b
 ·intro x e;refine dU.mp (fB _ _ _ ?_)
  rcases S.rl x e with t|t
  ·exact .inr (BI (env:=X.env) (cs:=[]) t)
  ·exact .inl t
 ·intro x c e F;have e:scope.names.lookup x=some .cell:=by
   have e:(scope.names.lookup x == some .cell)=true:=e;simpa using e
  obtain⟨d,hd⟩:=dU.mp<|fB scope.names (s.heap.objs.size+1) []<|.inl e;have F:(cellsFrom (s.heap.objs.size+1) scope.names<|yv X.env scope.names []).lookup x=some c:=F;rw[rD,yx,hd]at F
  cases F
  exact d8 (hC.empty x c<|cW hd).2
 ·intro b hb;obtain⟨o,e⟩:=ho b hb;refine⟨lt b o e,λx c e2=>?_⟩
  rcases f x c e2 with z|z
  ·exact iM (jf (bh e) z.2.2)
  ·exact(hf b hb).2.2.2.2.1 x c z
 ·intro b o e hb;obtain⟨_,_,_,h3,_⟩:=hf b hb
  rcases h3 with z|z
  ·exact I.ok.noex b o e z
  ·exact absurd (bU (bh (I.ok.bs b o e).1) z)<|dQ _
 ·intro b hb hz;obtain⟨_,h1,h2,_⟩:=hf b hb
  rcases bw.mp (I.IP b hz)with z|z
  ·exact h1 z
  ·exact h2 z
 ·refine⟨m,hn,λi x v e1 e2 e3=>?_⟩;rw[aK]at e2
  cases hc:cap[i]? with
  | none=>rw[hc]at e2;cases e2
  | some Z=>
   rw[hc]at e2
   cases Z with
   | none=>cases e2
   | some j=>
    have g:(σ[j]?).getD none=some v:=a_ e2;obtain⟨hj,t⟩:=S.cp i j x e1 hc;obtain⟨m0,Y,T⟩:=I.loc;have L:σ[j]?=some (some v):=by
     cases h:σ[j]? with
     | none=>rw[h]at g;cases g
     | some z=>rw[h,ig]at g;rw[g]
    have G:=S.fr (x,.free) t rfl;have hv:Vis X.env.scope x:=.inr G;obtain⟨u,V,lo⟩:=T j x v hj L hv;refine⟨u,V,?_⟩
    rcases lo with⟨lo,_⟩|⟨_,c,F,W⟩
    ·rcases G with z|z<;>(rw[z]at lo;cases lo)
    ·have h2:=BI (env:=X.env) (cs:=[]) t;obtain⟨M,B⟩:=dU.mp h2;have:M=c:=a_<|(U x M B).symm.trans F;subst this;refine .inr ⟨?_,M,(YL<|S.nocf x t).trans B,?_⟩
     ·rcases e3 with z|z|z
      ·exfalso;have:(relabel scope X.env).names.lookup x=some .local:=z;have J:scope.names.lookup x=some .local:=by
        have K:∃k,(x,k)∈(relabel scope X.env).names/\k=.local:=by
         clear B h2;have:=BQ this;exact⟨_,this,rfl⟩
        obtain⟨k,O,rfl⟩:=K;obtain⟨⟨n',k'⟩,P,q⟩:=aX.mp O;dsimp only at q;split at q
        ·cases q
        ·cases q
         exact S.nm (x,.local) P rfl
       exact False.elim<|S.nolf x t J
      ·exact .inl z
      ·exact .inr z
     ·obtain⟨o,C,hd⟩:=W;exact⟨o,hk _ _ C,hd⟩
 ·intro x c e
  rcases f x c e with z|z
  ·exact⟨_,z.2.1⟩
  ·obtain⟨v,o,C,hd⟩:=I.cell x c z;exact⟨v,o,hk _ _ C,hd⟩
 ·intro x c e
  rcases f x c e with z|z
  ·exact I.hok.fresh (d8 z.2.2)
  ·exact I.freeC x c z
 ·intro p hp
  cases hp
 ·rw[aF,S.len];rfl
abbrev X9 (X:Cx)(ifs:List aC)(t:TT):Prop:=
 ∀(pins:bj) (s:aA) (σ:St) (H:Hp) (Q:Bool->Hp->Prop),Inv X pins σ H s->t σ H Q ->
  wpAny (model X.prog X.w) X.A (forIn ifs true λc r=>if r=true then do let ok <- isTrue c X.env (eval c X.env);pure (ForInStep.yield ok)else pure (ForInStep.yield r)) (TP X pins σ Q) X.xe s
abbrev adw:TT:=λ_ H Q=>Q true H
def VS{X:Cx}:X9 X [] adw:=λ_ _ _ H _ I h=>wpAny_tests_nil ⟨H,I,h⟩
def VT{X:Cx}{c:aC}{t:TT}(h:PT X c t):X9 X [c] t:=λpins s σ H Q I q=>wpAny_tests_one<|h pins s σ H Q I q
abbrev XQ (cap:List<|bi)(g:TG)(tc:TT)(te:TE)(σ:St)(Q:VK)(J:It)(H1:Hp):Prop:=∀D,H1 D=none ->
 ∃W:Nat->Nat->St->Hp->Prop,(∃m,W 0 m (cap.map<|YX σ)<|upd H1 D<|.lst [])/\∀i m d H',W i m d H' ->
  (J.stop i H'/\Q (.ref D) H')\/(J.go i H'/\∀x H2,J.yld i H' x H2->g x d H2 λc H3=>tc c H3 λb j=>
   if b=true then te c j λy k=>∃ys,k D=some (.lst ys)/\ys.length<sizeLine/\∃f,f<m/\W (i+1) f c (upd k D<|.lst<|ys++[y])
   else ∃f,f<m/\W (i+1) f c j)
abbrev tLC (cap:List<|bi)(J:TI)(g:TG)(tc:TT)(te:TE):TE:=λσ H Q=>J σ H<|XQ cap g tc te σ Q
def UY{α:Type}{t:Sem α}{Q Q':α->aA->Prop}{A:az}{E:af->aA->Prop}(h:wpAny M A t Q (λ_ _=>False) s)(J:∀a s,Q a s->Q' a s):wpAny M A t Q' E s:=
 gv h J λ_ _ f=>f.elim
structure TurnG (ok:Cx->Prop)(P:aj)(w:ah)(K:au)(tg:aC)(J:It)(fp:ba)(it:ak)(tn:Nat->aq->Prop):Prop where
 obj:∀i h,tn i h->∀b∈fp,∃o,h.get? b=some o/\∀v,o.data≠.cell v
 keep:∀i h h',tn i h->(∀b∈fp,∀o,h.get? b=some o->h'.get? b=some o)->tn i h'
 item:∀(X:Cx),X.prog=P->X.w=w->X.K=K->ok X->∀(i:Nat) (pins:bj) (s:aA) (σ:St) (H:Hp) (E:af->aA->Prop),Inv X pins σ H s->(∀b∈fp,yU X pins H b)->tn i s.heap->J.go i H ->
  wpAny (model P w) X.A (pyNext<|.ref it) (λr s1=>∃u,r=some u /\
   wpAny (model P w) X.A (letOwnedTupleGo tg (.ref it) u) (λ_ s2=>∃x H',Inv X pins σ H' s2/\RelV x u/\J.yld i H x H'/\tn (i+1) s2.heap/\∀b∈fp,H' b=none) E s1) E s
 done:∀(X:Cx),X.prog=P->X.w=w->X.K=K->ok X->∀(i:Nat) (pins:bj) (s:aA) (σ:St) (H:Hp) (E:af->aA->Prop),Inv X pins σ H s->(∀b∈fp,yU X pins H b)->tn i s.heap->J.stop i H ->
  wpAny (model P w) X.A (pyNext<|.ref it) (λr s1=>r=none/\Inv X pins σ H s1) E s
 self:∀(A:az) (i:Nat) (s:aA) (Q:af->aA->Prop) (E:af->aA->Prop),tn i s.heap->Q (.ref it) s->wpAny (model P w) A (pyIter<|.ref it) Q E s
abbrev acL (ok:Cx->Prop)(X:Cx)(pins:bj)(σ:St)(tg:aC)(R:It->Hp->Prop)(U:af)(Z:aA):Prop:=
 ∃(it:ak) (d:ba) (c:Nat->aq->Prop) (J:It) (H':Hp),U=.ref it/\Inv X pins σ H' Z/\TurnG ok X.prog X.w X.K tg J d it c/\c 0 Z.heap/\(∀b∈d,yU X pins H' b)/\R J H'
abbrev PIg (ok:Cx->Prop)(X:Cx)(tg iter:aC)(J:TI):Prop:=
 ∀(pins:bj) (s:aA) (σ:St) (H:Hp) (R:It->Hp->Prop),Inv X pins σ H s->J σ H R ->
  wpAny (model X.prog X.w) X.A (eval iter X.env) (λv c=>wpAny (model X.prog X.w) X.A (pyIter v) (acL ok X pins σ tg R) X.xe c) X.xe s
def PI.g{X:Cx}{iter:aC}{U:TI}(h:PI X tg iter U):PIg (λY=>Y.calm=true) X tg iter U:=λpins s σ H R I q=>
 nA (h pins s σ H R I q) λv m h1=>nA h1 λf p ⟨it,k,j,J,H',e,d,T,a,b,c⟩=>⟨it,k,j,J,H',e,d,⟨T.obj,T.keep,T.item,T.done,T.self⟩,a,b,c⟩
def JY{ok:Cx->Prop}{X:Cx}{use:Option<|af->Sem Unit}{Q':af->aA->Prop}{iter:aC}{N:am}{wi:TI}{g:TG}{tc:TT}{te:TE}(S:CpScope X scope N cap)(hok:∀C s₀ H₀ ex,(∀a o u,X.H₀ a=some (.frz o u)->H₀ a=some (.frz o u))->ok (p9 X scope N C s₀ H₀ ex))(hi:PIg ok X tg iter wi)
  (hg:∀C s₀ H₀ ex,PG (p9 X scope N C s₀ H₀ ex) tg g) (ht:∀C s₀ H₀ ex,X9 (p9 X scope N C s₀ H₀ ex) ifs tc) (he:∀C s₀ H₀ ex,PE (p9 X scope N C s₀ H₀ ex) elt te)
  (hs:(∀x,foldedSetIterable iter X.env x=pure x)<|>ζ):∀(pins:bj) (s:aA) (σ:St) (H:Hp) (Q:VK),Inv X pins σ H s->tLC cap wi g tc te σ H Q ->
  (∀(s6:aA) (C D:ak) (H5:Hp) (m:Str->bb),s6.heap.Ns C m->yU X pins H5 C->(∀h',Heap.SameBut C s6.heap h'->Inv X pins σ H5 { s6 with heap:=h' })->Q (.ref D) H5->∀v,compPost (model X.prog X.w) X.A X.xe use Q' (.ref D) C (.ok v) s6) ->
  wpAny (model X.prog X.w) X.A (comprehension (.ListComp elt [⟨tg,iter,ifs,0⟩] scope pos) scope X.env (firstIterPos [⟨tg,iter,ifs,0⟩] pos) (newList []) (firstAsync [⟨tg,iter,ifs,0⟩]) (firstIter [⟨tg,iter,ifs,0⟩] X.env) use) Q' X.xe s:=by
 intro pins s σ H Q I h hfin;have Z:∀y∈scope.names,y.2=.free->∃c,X.env.cells.lookup y.1=some c:=λy hy e=>I.ok.has _<|S.fr y hy e;refine wpAny_comprehension_free (use:=use) rfl hs (IA Z) S.kind S.nm<|nA (hi pins s σ H _ I h) λxv s1 h1=>nA h1 λitv f h2=>?_;obtain⟨it,fp,tn,J,H2,rfl,I2,T,st2,f2,h2⟩:=h2;refine dB<|Vt λP k old t=>?_;obtain⟨W,⟨m0,w0⟩,turn⟩:=h2 f.heap.objs.size I2.fresh;dsimp only at k old t ⊢;have I3:Inv X pins σ (upd H2 f.heap.objs.size<|.lst []) { f with heap:=f.heap.push {}}:=I2.YO (t':=f.toks) (its:=[]) .nil<|bW _;have hfp:∀b∈fp,∃o,f.heap.get? b=some o:=λb hb=>by
  obtain⟨o,e,_⟩:=T.obj 0 _ st2 b hb;exact⟨o,e⟩
 have neD:∀b∈fp,b≠f.heap.objs.size:=λb hb=>by
  obtain⟨o,e⟩:=hfp b hb;exact bD<|bh e
 have f3:∀b∈fp,yU X pins (upd H2 f.heap.objs.size<|.lst []) b:=λb hb=>⟨by rw[jK<|neD b hb];exact(f2 b hb).1,(f2 b hb).2⟩;have hDC:f.heap.objs.size≠(f.heap.push {}).objs.size:=by rw[dX];exact bD (dI _)
 have I4:=Xl (tk:=f.toks+([]:List<|Str×af).length) (fp:=fp) S I3 f3 (λb hb=>by
  obtain⟨o,e⟩:=hfp b hb;exact⟨o,aZ _ e⟩) k t old
 have st4:tn 0 P:=T.keep _ _ _ st2 λb hb o e=>old b o<|aZ _ e;have hc:=hok (f.heap.push {}).objs.size { f with heap:=f.heap.push {}} (upd H2 f.heap.objs.size<|.lst []) fp λa o u e=>by
  have z:=I2.base.frzs a o u e;rw[jK λq=>by rw[q,I2.fresh]at z;cases z];exact z
 have G:∀{H':Hp},(∀b∈fp,H' b=none)->∀b∈fp,yU (p9 X scope N (f.heap.push {}).objs.size { f with heap:=f.heap.push {}} (upd H2 f.heap.objs.size<|.lst []) fp) [] H' b:=λhn b hb=>by
  have ok:=I4.ok;refine⟨hn b hb,(ok.exf b hb).1,ok.exfs b hb,.inl hb,λx c e=>(ok.exf b hb).2 x c e,λp hp=>nomatch hp⟩
 have O:∀s4:aA,s4={ f with heap:=P,toks:=f.toks+([]:List<|Str×af).length } ->
   codeAny (model X.prog X.w) X.A (.compLoop (.ListComp elt [⟨tg,iter,ifs,0⟩] scope pos) 0 (.ref it) (.ref f.heap.objs.size)<|compEnvC scope (cellsFrom ((f.heap.push {}).objs.size+1) scope.names<|yv X.env scope.names []) (f.heap.push {}).objs.size X.env)
    (compPost (model X.prog X.w) X.A X.xe use Q' (.ref f.heap.objs.size) (f.heap.push {}).objs.size) s4:=by
  rintro s4 rfl;refine codeAny_loop rfl (λn s'=>∃i L H',Inv (p9 X scope N (f.heap.push {}).objs.size { f with heap:=f.heap.push {}} (upd H2 f.heap.objs.size<|.lst []) fp) [] L H' s'/\tn i s'.heap/\(∀b∈fp,H' b=none)/\W i n L H') (λn s5 hI=>?_) m0 ⟨0,_,_,I4,st4,λb hb=>(f3 b hb).1,w0⟩;obtain⟨i,M,H5,I5,st5,fr5,w5⟩:=hI;show wpAny _ X.A ((compTurn (.ListComp elt [⟨tg,iter,ifs,0⟩] scope pos) 0 (.ref it) (.ref f.heap.objs.size)<|compEnvC scope (cellsFrom ((f.heap.push {}).objs.size+1) scope.names<|yv X.env scope.names []) (f.heap.push {}).objs.size X.env).onRaise λx=>do noteFrame x _;theTreesLotGoes x) _ _ s5;refine wpAny_noted ?_;rw[compTurn_list];refine aI (wpAny_standAt<|aI ?_)
  rcases turn i n M H5 w5 with⟨stop,q⟩|⟨go,step⟩
  ·refine nA (T.done (p9 X scope N (f.heap.push {}).objs.size { f with heap:=f.heap.push {}} (upd H2 f.heap.objs.size<|.lst []) fp) rfl rfl rfl hc i [] s5 M H5 _ I5 (G fr5) st5 stop) λr s6 h9=>?_;obtain⟨hr,Y⟩:=h9;subst hr;obtain⟨m6,hn6,_⟩:=Y.loc;refine aV<|hfin s6 _ _ H5 m6 hn6 (I3.Co (aP _) Y.free) (λh' sb=>?_) q _;have u6:=Y.base;have nC:∀b o,(f.heap.push {}).get? b=some o->b≠(f.heap.push {}).objs.size:=λb o e=>bD<|bh e;refine I3.Wm (ch:=fp) Y.os ⟨λb o e n hb hx=>?_,λb o e n hb hx=>?_,λb o e n hx=>?_,λb o e hx=>?_,u6.tups,u6.frzs,u6.tbls⟩ ?_ Y.bare ?_
   ·exact sb.extBut b o (nC b o e) (u6.keep b o e n hb hx)
   ·obtain⟨sl,z⟩:=u6.slot b o e n hb hx;exact⟨sl,sb.extBut b _ (nC b o e) z⟩
   ·exact u6.free b o e n hx
   ·obtain⟨o',z⟩:=u6.there b o e hx;exact⟨o',sb.extBut b _ (nC b o e) z⟩
   ·intro b o e;have hb:∀c v,H5 c=some v->c≠(f.heap.push {}).objs.size:=λc v e z=>by
     rw[z]at e;have:=Y.free;rw[show H5 (f.heap.push {}).objs.size=none from this]at e
     cases e
    refine(Y.hok b o e).stay (λc v hc q=>sb.extBut c v ?_ q) (λ_ q=>q) λ_ _ q=>q
    rcases hc with z|z
    ·rw[z];exact hb b o e
    ·exact hb c _ z
   ·intro b hb;obtain⟨_,z1,_,z3,z4,z5⟩:=f3 b hb;exact⟨z3,z1,z4,z5⟩
  ·refine nA (T.item (p9 X scope N (f.heap.push {}).objs.size { f with heap:=f.heap.push {}} (upd H2 f.heap.objs.size<|.lst []) fp) rfl rfl rfl hc i [] s5 M H5 _ I5 (G fr5) st5 go) λr s6 h9=>?_;obtain⟨u,hr,h6⟩:=h9;subst hr;refine aI<|nA h6 λ_ s7 ⟨x,H7,I7,r7,y7,st7,fr7⟩=>?_;have I7':=I7.pinned (G fr7)<|T.obj _ _ st7;refine aI<|UY (hg _ _ _ fp _ s7 M H7 x u _ I7' r7<|step x H7 y7) λ_ s8 ⟨F,H8,I8,q8⟩=>?_;refine aI<|UY (ht _ _ _ fp _ s8 F H8 _ I8 q8) λok s9 ⟨H9,I9,q9⟩=>?_;have again:∀{B:aA} {j:Hp},Inv (p9 X scope N (f.heap.push {}).objs.size { f with heap:=f.heap.push {}} (upd H2 f.heap.objs.size<|.lst []) fp) ([]++Bt fp s7.heap) F j B->(∃m',m'<n/\W (i+1) m' F j) ->
     ∃m,m<n/\∃i L H',Inv (p9 X scope N (f.heap.push {}).objs.size { f with heap:=f.heap.push {}} (upd H2 f.heap.objs.size<|.lst []) fp) [] L H' B/\tn i B.heap/\(∀b∈fp,H' b=none)/\W i m L H':=λ{B j} K h9=>by
    obtain⟨m',hm,U⟩:=h9;refine⟨m',hm,i+1,F,j,K.vX,T.keep _ _ _ st7 λb hb o e=>(K.pin (b,o)<|bV _<|bV _<|rK hb e).1,λb hb=>?_,U⟩;obtain⟨o,e,d⟩:=T.obj _ _ st7 b hb;exact(K.pin (b,o)<|bV _<|bV _<|rK hb e).2.1
   cases ok with
   | false=>
    rw[aN br]at q9;exact aV ⟨rfl,again I9 q9⟩
   | true=>
    rw[aR rfl]at q9;refine aI<|aI<|UY (he _ _ _ fp _ s9 F H9 _ I9 q9) λy B ⟨V,j,K,r10,ys,hD,hz,U⟩=>?_;refine aI<|UY (Dg _ B F j (.ref f.heap.objs.size) [V] _ [y] (λ_ H'=>H'=upd j f.heap.objs.size (.lst<|ys++[V])) K rfl (.cons r10 .nil) ⟨_,ys,V,rfl,rfl,hD,hz,rfl⟩) λ_ s11 ⟨_,H11,I11,_,e11⟩=>?_;subst e11;exact aV<|aV ⟨rfl,again I11 U⟩
 exact codeAny_compStart_list (O _ rfl)<|T.self _ 0 _ _ _ st4<|O _ rfl
def Zg{ok:Cx->Prop}{X:Cx}{iter:aC}{N:am}{J:TI}{g:TG}{tc:TT}{te:TE}(S:CpScope X scope N cap)(hok:∀C s₀ H₀ ex,(∀a o u,X.H₀ a=some (.frz o u)->H₀ a=some (.frz o u))->ok (p9 X scope N C s₀ H₀ ex))(hi:PIg ok X tg iter J)
  (hg:∀C s₀ H₀ ex,PG (p9 X scope N C s₀ H₀ ex) tg g) (U:∀C s₀ H₀ ex,X9 (p9 X scope N C s₀ H₀ ex) ifs tc) (Z:∀C s₀ H₀ ex,PE (p9 X scope N C s₀ H₀ ex) elt te)
  (hs:(∀x,foldedSetIterable iter X.env x=pure x)<|>ζ):PE X (.ListComp elt [⟨tg,iter,ifs,0⟩] scope pos) (tLC cap J g tc te):=by
 kt_k;rw[eval_ListComp];exact JY (use:=none) (Q':=EP X pins σ Q) S hok hi hg U Z hs pins s σ H Q I h λj C D c m hn f inv q v=>⟨m,hn,λh' d=>⟨.ref D,c,inv h' d,rfl,q⟩⟩
def ab1{X:Cx}{iter:aC}{N:am}{J:TI}{g:TG}{tc:TT}{te:TE}(hc:X.calm=true)(S:CpScope X scope N cap)(hi:PI X tg iter J)
  (hg:∀C s₀ H₀ ex,PG (p9 X scope N C s₀ H₀ ex) tg g) (U:∀C s₀ H₀ ex,X9 (p9 X scope N C s₀ H₀ ex) ifs tc) (Z:∀C s₀ H₀ ex,PE (p9 X scope N C s₀ H₀ ex) elt te)
  (hs:(∀x,foldedSetIterable iter X.env x=pure x)<|>ζ):PE X (.ListComp elt [⟨tg,iter,ifs,0⟩] scope pos) (tLC cap J g tc te):=
 Zg S (λ_ _ _ _ _=>hc) hi.g hg U Z hs
section
variable {X:Cx}
def P_{bs:List Bool}:∀{us:ar},Vals (bs.map V.bl) us->LSm.BoolsAre us bs:=by
 induction bs with
 | nil=>intro us r;cases r;exact .nil
 | cons b bs c=>
  intro us r
  cases r with
  | cons h t=>
   have e:_=Value.bool b:=h;subst e;exact .cons b<|c t
def MJ(hc:X.calm=true):kG X (.builtin "all") (λxs H Q=>∃(p:ak) (bs:List Bool),xs=[.ref p]/\qf X.K H p (bs.map V.bl)/\Q (.bl<|bs.all id) H):=by
 kcf_m;obtain⟨p,bs,rfl,m,q⟩:=h;mg_lt
 cases rx
 obtain⟨c,k,pl,C⟩:=I.list m;have hb:=P_ k;have d:=pl.isList;have f:p<s.heap.objs.size:=by obtain⟨_,e,_⟩:=d;exact bh e
 refine call_all_walk<|iX d ?_;refine⟨s.heap.objs.size,[s.heap.objs.size,p],[s.heap.objs.size],c.toArray.size,_,_,λi=>(bs[i]?).getD true,rfl,Walks.list (A:=X.A.in1) (I.ok.hd hc) _ p (bD f) c.toArray,
  ⟨⟨_,bA _ rfl,rfl,rfl⟩,d.push _⟩,λi v s' Q' B hP g=>?_,λh' t j=>?_⟩
 ·obtain⟨b,e,rfl⟩:=hb.get i v (by simpa using hP);dsimp[e,ig]at g;exact dz g
 ·have e:((List.range c.toArray.size).all λi=>(bs[i]?).getD true)=bs.all id:=by
   rw[bf,hb.length];exact LSm.range_all bs
  rw[e];exact⟨.bl _,H,I.kept<|LSm.kept_iter j,rfl,q⟩
def MY:pL X (compareOp .IsNot) (λx y H Q=>∃a b,x=.bl a/\y=.bl b/\Q (.bl<|a != b) H):=by
 kj_on;obtain⟨a,b,rfl,rfl,q⟩:=h
 cases rx;cases ry
 exact isnot_bool ⟨.bl _,H,I,rfl,q⟩
def Ew:kG X (.type "range") (λxs H Q=>∃i j,xs=[.int i,.int j]/\∀p,H p=none->Q (.ref p) (upd H p<|.rng i j)):=by
 kcf_m;obtain⟨i,j,rfl,q⟩:=h;obtain⟨u,d,rfl,⟨t,rfl⟩,⟨c,rfl⟩⟩:=vals2 r;refine call_range_2 ⟨.ref s.heap.objs.size,_,I.laid (o:=.rng i j) (λb o e=>aZ _ e) (aP _) ?_,rfl,q _ I.fresh⟩;exact⟨t,c,s.toks,bA _ rfl⟩
abbrev lB (i j:Int):ae:=(List.range (j-i).toNat).map λk:Nat=>i+(k:Int)
def vc(i j:Int):(lB i j).length=(j-i).toNat:=by unfold lB;rw[aF,b_]
def A_{i:Int}{n:Nat}{acc:Array af}(h:ItemsOf (λk v=>∃t,v=Value.int (i+(k:Int) * 1) t) acc n):Vals (((List.range n).map λk:Nat=>i+(k:Int)).map V.int) acc.toList:=by
 obtain⟨hs,hv⟩:=h;have c:∀(l:ar) (b:Nat),(∀j v,l[j]?=some v->∃t,v=Value.int (i+((b+j:Nat):Int)) t)->Vals (((List.range' b l.length).map λk:Nat=>i+(k:Int)).map V.int) l:=by
  intro l
  induction l with
  | nil=>intro b _;exact .nil
  | cons v l f=>
   intro b hb;rw[bR,ir,bF,bF];refine .cons ?_ ?_
   ·obtain⟨t,e⟩:=hb 0 v rfl;exact⟨t,by rw[e];simp⟩
   ·refine f (b+1) λj w hw=>?_;obtain⟨t,e⟩:=hb (j+1) w hw;exact⟨t,by rw[e,show b+(j+1)=b+1+j by lia]⟩
 have:=c acc.toList 0 λj v d=>by
  obtain⟨t,e⟩:=hv j v (by simpa using d);exact⟨t,by rw[e,cC,Int.mul_one]⟩
 rw[dZ,hs,<- fR]at this;exact this
def O4{i j:Int}:Builtin.Range.rangeSize i j 1=(((j-i).toNat:Nat):Int):=by rw[rangeSize_one];split<;>omega
def Ct(hc:X.calm=true):kG X (.type "list") (λxs H Q=>∃p i j,xs=[.ref p]/\H p=some (.rng i j)/\(-(2 ^ 62)<=i/\i<2 ^ 62/\-(2 ^ 62)<=j/\j<2 ^ 62)/\(j-i).toNat<=1000/\∀l,H l=none->Q (.ref l) (upd H l<|.lst<|(lB i j).map V.int)):=by
 kcf_m;obtain⟨p,i,j,rfl,C,⟨g,f,B,D⟩,hn,q⟩:=h;mg_lt
 cases rx
 obtain⟨t,G,v,e⟩:=I.hok p _ C;refine call_list_range (n:=(j-i).toNat) (I.ok.hd hc) e (small_one g f B D) O4 () λh' F c k m hS d=>?_;refine⟨.ref s.heap.objs.size,_,I.laid (o:=.lst<|(lB i j).map V.int) m (aP _) ⟨?_,c.toList,k,A_ d,by rw[hS]⟩,rfl,q _ I.fresh⟩;rw[aF,vc,d_];lia
end
section
variable {X:Cx}
def GK{prog:aj}{w:ah}{A:az}{E:af->aA->Prop}{s:aA}{Q:ar->aA->Prop}{r:ak}{a b c:Int}{t v:Tok}{n:Nat}(hh:A.handled=none)(Z:IsRange s.heap r a b c t u v)(J:Builtin.Range.small a b c=true)
  (hn:Builtin.Range.rangeSize a b c=n) (U:n<=2 ^ 24)
  (hQ:∀h' tk (acc':Array af),(∀b o,s.heap.get? b=some o->h'.get? b=some o)->ItemsOf (λi v=>∃t,v=.int (a+i * c) t) acc' n->Q acc'.toList { s with heap:=h',toks:=tk }) :
  wpAny (model prog w) A (collect<|.ref r) Q E s:=by
 unfold collect;refine aI<|wpAny_runValue<|iF F.entry_proto_collect ?_;rw[fS F.plain_proto_collect _]
 skip
 refine aI<|dB ?_;refine aV ⟨plainId_quiet F.plain_list_iadd _,iF F.entry_list_iadd ?_⟩;rw[fS F.plain_list_iadd _]
 skip
 have hS:(s.heap.push {}).get? s.heap.objs.size=some { cls:=.type "list",data:=.seq #[] 0 }:=bA _ rfl;have k:∀(h':aq) (tk:Nat) (acc':Array af) (j:Nat),(∀b o,b≠s.heap.objs.size->(s.heap.push {}).get? b=some o->h'.get? b=some o) ->
   h'.get? s.heap.objs.size=some { cls:=.type "list",dict:=none,data:=.seq acc' j,slots:=#[]}->ItemsOf (λi v=>∃t,v=.int (a+i * c) t) acc' n ->
   wpAny (model prog w) A (match Value.ref s.heap.objs.size with
   | Value.ref a=>do
    match (<- load a).data with
     | Data.seq xs _=>pure xs.toList
     | _=>unsupported "internal:collect"
   | _=>unsupported "internal:collect") Q E { s with heap:=h',toks:=tk }:=by
  intro h' tk acc' j m g d
  skip
  refine aI<|wpAny_load g ?_;refine aV ?_;exact hQ h' tk acc' (λb o e=>m b o (bD<|bh e)<|aZ _ e) d
 refine gv (wpAny_extend_range (A:=A) (R:=λq s'=>q=.ok (.ret<|.ref s.heap.objs.size)/\∃h' tk acc' j,s'={ s with heap:=h',toks:=tk }/\(∀b o,b≠s.heap.objs.size->(s.heap.push {}).get? b=some o->h'.get? b=some o) /\
   h'.get? s.heap.objs.size=some { cls:=.type "list",dict:=none,data:=.seq acc' j,slots:=#[]}/\ItemsOf (λi v=>∃t,v=.int (a+i * c) t) acc' n)
  (s:={ s with heap:=s.heap.push {}}) hh (aZ _ Z) J hn U s.heap.objs.size (.ref s.heap.objs.size) 0 hS
  (λh' tk acc' j m g d=>⟨rfl,h',tk,acc',j,rfl,m,g,d⟩)) (λp s' h=>?_) λe s' h=>?_
 ·cases p with
  | done f=>
   obtain⟨e,h',tk,acc',j,rfl,m,g,d⟩:=h
   cases e
   exact k h' tk acc' j m g d
  | again j=>exact⟨h.1,jd h.2 λr B Z=>by
    obtain⟨rfl,h',tk,acc',j,rfl,m,g,d⟩:=Z;exact k h' tk acc' j m g d⟩
 ·exact absurd h.1<|by simp
def wV(l:ak){a b:Int}{t v:Tok}{n:Nat}(J:Builtin.Range.small a b 1=true)
  (hn:Builtin.Range.rangeSize a b 1=n) (U:n<=1000) :
  Meets (Builtin.«tuple.__new__» ⟨[.type "tuple",.ref l],[]⟩)
   (λA R s=>A.handled=none/\IsRange s.heap l a b 1 t u v/\∀(h':aq) (tk:Nat) (acc':Array af),(∀b o',s.heap.get? b=some o'->h'.get? b=some o')->ItemsOf (λi v=>∃t,v=.int (a+i * 1) t) acc' n->R (.ok<|.ret<|.ref h'.objs.size) { s with heap:=h'.push { cls:=.type "tuple",data:=.seq acc' },toks:=tk }):=
 .of_wp λprog w A R s h=>by
  obtain⟨G,g,d,tk,D⟩:=s;obtain⟨B,k,h⟩:=h;have p:=sub_tuple_self;have f:=init_tuple_lookup;have q:=madeHere_tuple;have F:Shared.TypeIs ⟨G,g,d,tk,D⟩ (.ref l) "range" := ⟨_,k,rfl⟩;have j:A.in1.handled=none:=B
  wp_walk using dW k,jh F,GK (A:=A.in1) j k J hn (by omega)
  intro h' m acc' C c;show wpAny _ _ (Builtin.Tuple.tupleExact acc'.toList.toArray >>= λv=>ret v) _ _ _;unfold Builtin.Tuple.tupleExact;have e:acc'.toList.toArray=acc':=by simp
  refine aI (dB ?_<|by show acc'.toList.toArray.size<=sizeLine;rw[e,c.1,d_];omega);refine aV ⟨_,rfl,?_⟩;rw[e];exact h h' m acc' C c
def B4(hc:X.calm=true):kG X (.type "tuple") (λxs H Q=>∃p i j,xs=[.ref p]/\H p=some (.rng i j)/\(-(2 ^ 62)<=i/\i<2 ^ 62/\-(2 ^ 62)<=j/\j<2 ^ 62)/\(j-i).toNat<=1000/\∀l,H l=none->Q (.ref l) (upd H l<|.tup<|(lB i j).map V.int)):=by
 kcf_m;obtain⟨p,i,j,rfl,D,⟨m,k,C,G⟩,hn,q⟩:=h;mg_lt
 cases rx
 obtain⟨t,J,v,e⟩:=I.hok p _ D;refine callType_new F.called_tuple ⋯ (F.typeCall_tuple_1 _) (F.newCall_tuple_1 _) (λf=>F.args_object_init_2 f _) F.entry_tuple_new
  (wV (n:=(j-i).toNat) p (small_one m k C G) O4 hn) ⟨I.ok.hd hc,e,λh' g c B d=>⟨⟨_,bA _ rfl,rfl⟩,?_⟩⟩
 have I1:Inv X pins σ H { s with heap:=h',toks:=g }:=I.kept B;refine⟨.ref h'.objs.size,_,I1.laid (t':=g) (o:=.tup<|(lB i j).map V.int) (λb o e=>aZ _ e) (aP _) ⟨?_,c.toList,A_ d,?_⟩,rfl,q _<|I1.hok.fresh<|aP _⟩
 ·rw[aF,vc,d_];lia
 ·have e:c.toList.toArray=c:=by simp
  rw[e];exact rL.new _ _
def Gf{c:String}:kG X (.builtin "isinstance") (λxs H Q=>∃x t b,xs=[x,.ty c]/\TyOf X.K H x t/\PySem.W.kitOne X.K t (.type c)=some b/\Q (.bl b) H):=by
 kcf_m;obtain⟨x,t,b,rfl,ty,e,q⟩:=h;obtain⟨u,g,rfl,rx,d⟩:=vals2 r
 cases d
 exact Mt I rx ty e λf=>⟨.bl b,H,I.tok f,rfl,q⟩
abbrev YS (K:au):R2:=λx y H Q=>∃a b ys,x=.ref a/\y=.ref b/\nX K H a []/\nX K H b ys/\Q (.ref b) H
def PM:pL X (binaryOp .Add) (YS X.K):=by
 kj_on;obtain⟨a,b,ys,rfl,rfl,h1,h2,q⟩:=h
 cases rx
 cases ry
 obtain⟨us,r1,p1,_⟩:=I.tuple h1;obtain⟨C,r2,p2,_⟩:=I.tuple h2
 cases r1
 obtain⟨⟨cls,D,data,B⟩,p,hc,n,m⟩:=id p1;obtain⟨⟨t,g,j,k⟩,f,d,F,c⟩:=id p2;simp only at hc m d c;subst hc m d c;exact concat_meets ⟨_,p,rfl⟩ ⟨_,f,rfl⟩ noFill_tuple_add seq_tuple_add gH gF (gb _ _)
   (tuple_addW0 a b _ C.toArray n F D g B k<|by simp) ⟨p,f,⟨.ref b,H,I,rfl,q⟩⟩
end
def pT:bootBuiltins "len" = some (.builtin "len"):=by decide +kernel
def Xe:bootBuiltins "abs" = some (.builtin "abs"):=by decide +kernel
def HL:bootBuiltins "all" = some (.builtin "all"):=by decide +kernel
def CZ:bootBuiltins "sorted" = some (.builtin "sorted"):=by decide +kernel
def mq:bootBuiltins "isinstance" = some (.builtin "isinstance"):=by decide +kernel
def Ek:bootBuiltins "int" = some (.type "int"):=by decide +kernel
def JW:bootBuiltins "bool" = some (.type "bool"):=by decide +kernel
def uL:bootBuiltins "list" = some (.type "list"):=by decide +kernel
def BS:bootBuiltins "tuple" = some (.type "tuple"):=by decide +kernel
def Rf:bootBuiltins "range" = some (.type "range"):=by decide +kernel
def UP:∀{a b:ae},a.Perm b->a.Pairwise (·<=·)->b.Pairwise (·<=·)->a=b:=λp ha hb=>
 eX (λx y _ _ h1 h2=>Int.le_antisymm h1 h2) ha hb p
def Kf(i j:Int):(lB i j).Pairwise (·<=·):=by
 unfold lB;rw[cN];exact List.pairwise_lt_range.imp λh=>()
def uU(i j:Int):(lB i j).Nodup:=by
 unfold lB;rw[List.Nodup,cN];exact List.pairwise_lt_range.imp λh=>()
def o6{i j k:Int}:k∈lB i j ↔ i<=k/\k<j:=by
 unfold lB;rw[aX];constructor
 ·rintro⟨a,ha,rfl⟩;have:=c7.mp ha;omega
 ·rintro⟨h1,h2⟩;exact⟨(k-i).toNat,c7.mpr<|by omega,by omega⟩
theorem zL:∀{l m:ae},l.Nodup->(∀x∈l,x∈m)->m.length<=l.length->l.Perm m
 | [],m,_,_,h=>by
  have:m=[]:=cZ.mp<|Nat.le_zero.mp h;rw[this]
 | a::l,m,nd,hs,hl=>by
  have ha:a∈m:=hs a aJ;have c:=bZ.mp nd;have j:m.Perm (a::m.erase a):=List.perm_cons_erase ha;have g:=zL (l:=l) (m:=m.erase a) c.2 (λx f=>by
   have d:x≠a:=λe=>c.1<|e ▸ f;exact(List.mem_erase_of_ne d).mpr (hs x<|aO _ f)) (by
   rw[List.length_erase_of_mem ha];dsimp[bR]at hl;omega)
  exact(List.Perm.cons a g).trans j.symm
abbrev Kn (P:aj)(w:ah)(K:au)(mg:Str->bb)(base:aq)(k:Nat)(x:Str)(ps:am)(sp:Sp):Prop:=
 ∃(f:ak) (fd:FuncData),FnOk P w K mg base qj k f fd ps sp/\mg x=some (.ref f)/\PySem.W.keepIn K (.ref f)=true/\Binds K fd ps []
def abd{X:Cx}{k:Nat}{x:Str}{sp:Sp}{e:aC}{t:TA}{p:Pos}(G:Kn X.prog X.w X.K X.mg X.base k x ps sp)(Z:Room k X.A)(ha:PA X (e::es) t)(hg:Gl X x<|>ε)
  (U:(x == ("__debug__" : Str))=false<|>δ) (hs:starEach (e::es) X.env=(false,eval e X.env)::starEach es X.env<|>ε) (J:((backTo pos<|starEach es X.env).any (·.1)=false)<|>ε) :
  PE X (.Call (.Name x p) (e::es) [] pos) (WZ sp [] E0 t):=by
 obtain⟨f,fd,F,d,c,hb⟩:=G;exact UX F Z hg d c hb .nil ab5 ha U hs J
abbrev BY (J fs:am):am->List (bi)->Prop
 | [],[]=>True
 | _::N,none::c=>BY J fs N c
 | x::N,some j::c=>J[j]?=some x/\x∈fs/\BY J fs N c
 | _,_=>False
theorem BY.len{fs:am}:∀{N:am}{c:List<|bi},BY XN fs N c->c.length=N.length
 | [],[],_=>rfl
 | _::N,none::c,h=>cH (·+1) (BY.len (N:=N) (c:=c) h)
 | _::N,some j::c,h=>cH (·+1) (BY.len (N:=N) (c:=c) h.2.2)
 | [],_::_,h=>h.elim
 | _::_,[],h=>h.elim
theorem BY.cp{fs:am}:∀{N:am}{c:List<|bi},BY XN fs N c->∀(i j:Nat) (x:Str),N[i]?=some x->c[i]?=some (some j)->XN[j]?=some x/\x∈fs
 | [],[],_,i,j,x,h1,_=>by simp at h1
 | y::N,none::c,h,i,j,x,h1,h2=>by
  cases i with
  | zero=>simp at h2
  | succ i=>exact BY.cp (N:=N) (c:=c) h i j x (by simpa using h1)<|by simpa using h2
 | y::N,some k::c,h,i,j,x,h1,h2=>by
  cases i with
  | zero=>
   simp at h1 h2;subst h1 h2;exact⟨h.1,h.2.1⟩
  | succ i=>exact BY.cp (N:=N) (c:=c) h.2.2 i j x (by simpa using h1)<|by simpa using h2
 | [],_::_,h,_,_,_,_,_=>h.elim
 | _::_,[],h,_,_,_,_,_=>h.elim
def pQ{X:Cx}{scope:Scope}{N:am}(fs:am)(kind:scope.kind=.function)(nocf:∀y∈scope.names,y.2=.cell->scope.names.lookup y.1=some .cell/\(y.1,NameKind.free)∉scope.names)(nm:∀y∈scope.names,y.2=.local->scope.names.lookup y.1=some .local)
  (nolf:∀y∈scope.names,y.2=.free->scope.names.lookup y.1≠some .local) (hf:∀y∈scope.names,y.2=.free->y.1∈fs) (J:∀x∈fs,(x,NameKind.free)∈scope.names) (U:∀x∈fs,X.env.kindOf x=some .cell\/X.env.kindOf x=some .free) (cp:BY X.N fs N cap):CpScope X scope N cap where
 kind:=kind
 nocf:=λx hf hc=>(nocf (x,.cell) hc rfl).2 hf
 nm:=nm
 fr:=λy m e=>U _ (hf y m e)
 rl:=λy h=>by
  have go:∀k,(k=NameKind.cell\/k=NameKind.free)->(relabel scope X.env).names.lookup y=some k->(y,NameKind.free)∈scope.names\/scope.names.lookup y=some .cell:=λk U e=>by
   obtain⟨⟨p,f⟩,d,c⟩:=aX.mp<|BQ e;dsimp only at c;split at c
   ·rename_i hc
    cases c
    have:f=.free:=by
     dsimp[cJ]at hc;simpa using hc.1.1
    subst this;exact .inl d
   ·cases c
    rcases U with rfl|rfl
    ·exact .inr (nocf _ d rfl).1
    ·exact .inl d
  rcases h with h|h
  ·exact go _ (.inl rfl) h
  ·exact go _ (.inr rfl) h
 len:=cp.len
 nolf:=λx g=>nolf (x,.free) g rfl
 cp:=λi j x h1 h2=>by
  obtain⟨a,b⟩:=cp.cp i j x h1 h2;exact⟨a,J x b⟩
inductive Kd where
 | non|bl|int|str|lst|tup
 deriving DecidableEq
abbrev Kd.ty:Kd->af
 | .non=>.type "NoneType" | .bl=>.type "bool" | .int=>.type "int" | .str=>.type "str" | .lst=>.type "list" | .tup=>.type "tuple"
abbrev Z4 (H:Hp)(x:V):Kd->Prop
 | .non=>x=.non
 | .bl=>∃b,x=.bl b
 | .int=>∃i,x=.int i
 | .str=>∃s,x=.str s
 | .lst=>∃a xs,x=.ref a/\H a=some (.lst xs)
 | .tup=>∃a xs,x=.ref a/\H a=some (.tup xs)
def Z4.adg{K:au}{H:Hp}{x:V}{k:Kd}(h:Z4 H x k):TyOf K H x k.ty:=by
 cases k with
 | non=>cases h;exact .non
 | bl=>obtain⟨b,rfl⟩:=h;exact .bl b
 | int=>obtain⟨b,rfl⟩:=h;exact .int b
 | str=>obtain⟨b,rfl⟩:=h;exact .str b
 | lst=>obtain⟨a,xs,rfl,e⟩:=h;exact .lst e
 | tup=>obtain⟨a,xs,rfl,e⟩:=h;exact .tup e
def UZ{K:au}(k:Kd):PySem.W.kitOne K k.ty (.type "int")=some (decide<|k=.int\/k=.bl):=by cases k<;>rfl
def NP{K:au}(k:Kd):PySem.W.kitOne K k.ty (.type "bool")=some (decide<|k=.bl):=by cases k<;>rfl
def kit_tuple{K:au}(k:Kd):PySem.W.kitOne K k.ty (.type "tuple")=some (decide<|k=.tup):=by cases k<;>rfl
def Q_{K:au}(k:Kd):PySem.W.kitOne K k.ty (.type "list")=some (decide<|k=.lst):=by cases k<;>rfl
section
variable {prog:aj}{w:ah}{A:az}{E:af->aA->Prop}{s:aA}
def yt{t:ak}{i:Nat}{x:af}{Q:af->aA->Prop}(J:s.heap.IsTupleIter it t i)
  (U:s.heap.IsTuple t items) (Z:items[i]?=some x) (hQ:∀h',h'.IsTupleIter it t (i+1)->Heap.SameBut it s.heap h'->Q x { s with heap:=h' }) :
  wpAny (model prog w) A (Builtin.SmallTypes.nextOf<|.ref it) Q E s:=by
 obtain⟨o,d,hc,c⟩:=id J;obtain⟨j,g,_,k,f⟩:=U;unfold Builtin.SmallTypes.nextOf;refine aI (fh (name:=Str.ofString "__next__") J.typeIs ez
  (dh ez J.typeIs F.entry_tuple_iterator_next ?_<|F.args_tuple_iterator_next_1 _))
 show wpAny _ _ (field (.ref it) 0 >>= _) _ _ s;refine aI (wpAny_field d c (x:=.ref t) rfl ?_)
 skip
 rw[aN<|show ¬((Value.ref t == Value.none)=true)from br]
 skip
 refine aI (wpAny_field d c (x:=.int i 0) rfl ?_)
 skip
 refine aI<|gJ g f ?_;dsimp[eO,Z];refine aI (iQ d c (by simp)<|aV ⟨x,rfl,aV<|hQ _ ?_<|f9 ..⟩);exact⟨_,gW _ d<|Obj.isFreed_of_fields<|gB c _,(Obj.cls_mapFields ..).trans hc,by
  rw[gB c];simp[rawInt]⟩
def yR{t:ak}{i:Nat}{Q:af->aA->Prop}(U:A.handled=none)
  (J:s.heap.IsTupleIter it t i) (Z:s.heap.IsTuple t items) (hx:items[i]?=none)
  (hE:∀h' e,Heap.ExtBut it s.heap h'->(∃o,h'.get? e=some o/\o.cls=.type "StopIteration")->E (.ref e) { s with heap:=h' }) :
  wpAny (model prog w) A (Builtin.SmallTypes.nextOf<|.ref it) Q E s:=by
 obtain⟨o,g,hc,d⟩:=id J;obtain⟨j,f,_,k,c⟩:=Z;unfold Builtin.SmallTypes.nextOf;refine aI (fh (name:=Str.ofString "__next__") J.typeIs ez
  (dh ez J.typeIs F.entry_tuple_iterator_next ?_<|F.args_tuple_iterator_next_1 _))
 show wpAny _ _ (field (.ref it) 0 >>= _) _ _ s;refine aI (wpAny_field g d (x:=.ref t) rfl ?_)
 skip
 rw[aN<|show ¬((Value.ref t == Value.none)=true)from br]
 skip
 refine aI (wpAny_field g d (x:=.int i 0) rfl ?_)
 skip
 refine aI<|gJ f c ?_;dsimp[eO,hx];refine aI (iu<|aI<|iQ g d (by simp) ?_)
 skip
 refine aI ?_;dsimp[newExc,newTuple];refine aI (dB ?_<|by size_fits);refine aI (m:=firstArgMember _ _) (wpAny_of_eq (a:=Value.none) (by first|rfl|(dsimp[firstArgMember];rfl)) ?_);refine dB ?_ (by size_fits);dsimp[raiseNew];refine aI (wpAny_handled ?_)
 first|rw[show A.in1.handled=none from U]|rw[U]
 refine aI<|aV<|wpAny_throw ?_;exact hE _ _ (((f9 ..).extBut.push _).push _) ⟨_,bA _ rfl,rfl⟩
end
def SD{prog:aj}{w:ah}{A:az}(Z:A.handled=none)(it l:ak)(U:l≠it)(J:Array af) :
  Draws prog w A it [it,l] J.size (λi v=>J[i]?=some v) (λi h=>h.IsTupleIter it l i/\h.IsTuple l J) where
 live:=λ_ _ st=>let⟨o,ho,_⟩:=st.1;⟨o,ho⟩
 frame:=λ_ _ _ st g=>⟨st.1.at λo e=>g it (by simp) o e,let⟨o,ho,r⟩:=st.2;⟨o,g l (by simp) o ho,r⟩⟩
 item:=λi s Q E f st k=>by
  refine yt st.1 st.2 (x:=J[i]) (by simp[f]) λh' d c=>?_;exact k _ h' s.toks (by simp[f]) ⟨d,let⟨o,ho,r⟩:=st.2;⟨o,c.extBut l o U ho,r⟩⟩ c
 done:=λs Q E st j=>yR Z st.1 st.2 (by simp) j
def GD(l:ak)(J:Array af) :
  Meets (Builtin.«enumerate.__new__» ⟨[.type "enumerate",.ref l],[]⟩) (λ_ R s=>s.heap.IsTuple l J /\
   R (.ok<|.ret<|.ref (s.heap.push { cls:=.type "tuple_iterator",data:=.fields #[.ref l,.int 0 0]}).objs.size)
    { s with heap:=(s.heap.push { cls:=.type "tuple_iterator",data:=.fields #[.ref l,.int 0 0]}).push { cls:=.type "enumerate",data:=.fields #[.none,.bool false,.ref s.heap.objs.size,rawInt 0,.none,.none]}}):=
 .of_wp λprog w A R s h=>by
  obtain⟨D,g,d,q,C⟩:=s;obtain⟨j,h⟩:=h;have k:=sub_enumerate;obtain⟨t,f,p,B,m⟩:=id j
  wp_walk using dW f
  refine wpAny_stack_any λst=>aV ?_;split
  ·rename_i c _ _ _ _ _
   cases(c == Value.type "enumerate")
   ·wp_walk using dW f,gw j
    exact⟨_,rfl,h⟩
   ·wp_walk using dW f,gw j
    exact⟨_,rfl,h⟩
  ·wp_walk using dW f,gw j
   exact⟨_,rfl,h⟩
abbrev Ite (K:au)(a:ak):It:=
 ⟨λi H=>∃xs x,nX K H a xs/\xs[i]?=some x,λi H x H'=>∃T,H T=none/\x=.ref T/\∀xs y,nX K H a xs->xs[i]?=some y->H'=upd H T (.tup [.int i,y]),λi H=>∃xs,nX K H a xs/\xs.length=i⟩
def HY{P:aj}{w:ah}{K:au}(a e it:ak)(hei:e≠it):Turn P w K (.Tuple elts x1 tpos) (Ite K a) [e,it] e (λi h=>(∃old,IsEnum h e it i old)/\h.IsTupleIter it a i) where
 mem:=by simp
 obj:=λi h st b hb=>by
  kl_no;have B:b=e\/b=it:=by simpa using hb
  rcases B with rfl|rfl
  ·exact⟨_,st1,λv z=>by cases z⟩
  ·obtain⟨o,e,c,d⟩:=st2;exact⟨o,e,λv z=>by rw[d]at z;cases z⟩
 keep:=λi h h' st k=>by
  kl_no;exact⟨⟨old,k e (by simp) _ st1⟩,st2.at λo j=>k it (by simp) o j⟩
 item:=by
  x_go;subst hP hw hK;kl_no;obtain⟨xs,x,hq,W⟩:=hg;obtain⟨t,rv,p,hz⟩:=I.tuple hq;obtain⟨u,hu,ru⟩:=rv.get W;have F:a≠it:=by
   obtain⟨o,j,D,_⟩:=p;obtain⟨o2,L,C,_⟩:=st2;intro z;rw[z,L]at j
   cases j
   rw[D]at C;exact absurd (fV C) ⋯
  have hea:e≠a:=by
   obtain⟨o,j,D,_⟩:=p;intro z;rw[<- z,st1]at j
   cases j
   exact absurd (fV D) ⋯
  have hlt:i<t.toArray.size:=by
   rw[bf];exact(aG.mp hu).1
  refine wpAny_pyNext_enum_itemD (SD (A:=X.A.in1) (I.ok.hd hc) it a F t.toArray) st1 ⟨st2,p⟩ hlt hei (by simp[hei,hea]) λx' h' tk hP O hst hT hsz hk=>?_;have ex:x'=u:=by
   have:t.toArray[i]?=some u:=by simpa using hu
   rw[this]at hP;exact(a_ hP).symm
  subst ex;refine⟨_,rfl,wpAny_letOwnedTupleGo_enum O λh2 he2 M=>?_⟩;have N:H s.heap.objs.size=none:=I.hok.fresh<|aP _;have U:e<s.heap.objs.size:=bh st1;have hil:it<s.heap.objs.size:=by obtain⟨o,j,_⟩:=st2;exact bh j
  have T:∀b o,b≠e->b≠it->s.heap.get? b=some o->h2.get? b=some o:=λb o h1 h3 q=>M.extBut b o h1<|hk b o h1 h3 q;have hT2:h2.get? s.heap.objs.size=some { cls:=.type "tuple",data:=.seq #[.int i tk,x']}:=M.extBut _ _ (iM U) hT;obtain⟨e0,e1,e2,e3,e4,e5⟩:=hf e (by simp);obtain⟨Y,V,i2,i3,i4,i5⟩:=hf it (by simp);have nT:∀b o,s.heap.get? b=some o->b≠s.heap.objs.size:=λb o q=>bD<|bh q;have g:∀c v,H c=some v->c≠e/\c≠it:=λc v q=>⟨(λz=>by rw[z,e0]at q;cases q),(λz=>by rw[z,Y]at q;cases q)⟩;have I2:Inv X pins σ (upd H s.heap.objs.size<|.tup [.int i,x]) { s with heap:=h2,toks:=tk+1 }:=by
   refine I.step (g':=s.gens) (d':=s.drawn) (ch:=[e,it]) (λb hb=>?_) (λb o _ _ f q _=>?_) (λb o _ _ f q _=>?_) (λb o f q n=>?_) (λb o f q=>?_) (λb ys q=>?_) (λb o Z q=>?_) (λb ps q=>?_) (λm hm=>?_) (λb Z q=>?_) I.bare
   ·have B:b=e\/b=it:=by simpa using hb
    rcases B with rfl|rfl
    ·exact⟨e3,e1,e4,e5⟩
    ·exact⟨i3,V,i4,i5⟩
   ·exact T b o (λz=>f<|by simp[z]) (λz=>f<|by simp[z]) q
   ·exact⟨o.slots,T b o (λz=>f<|by simp[z]) (λz=>f<|by simp[z]) q⟩
   ·rw[jK<|nT b o q];exact n
   ·exact⟨o,T b o (λz=>f<|by simp[z]) (λz=>f<|by simp[z]) q⟩
   ·rw[jK<|jR q N];exact q
   ·rw[jK<|jR q N];exact q
   ·exact⟨#[],by rw[jK<|jR q N,q];simp⟩
   ·obtain⟨o,es,ep,j,r⟩:=hm;exact⟨o,es,ep,T _ o (Ne.symm e1) (Ne.symm V) j,r⟩
   ·by_cases z:b=s.heap.objs.size
    ·subst z;rw[j6]at q
     cases q
     exact⟨by show 2<=sizeLine;decide,[.int i tk,x'],.cons ⟨tk,rfl⟩<|.cons ru .nil,⟨_,hT2,rfl,rfl,0,rfl⟩⟩
    ·rw[jK z]at q;refine(I.hok b Z q).stay (λc v hc J=>T c v ?_ ?_ J) (λc J=>?_) λc ys J=>?_
     ·rcases hc with z|z
      ·rw[z];exact(g b Z q).1
      ·exact(g c _ z).1
     ·rcases hc with z|z
      ·rw[z];exact(g b Z q).2
      ·exact(g c _ z).2
     ·rw[jK<|jR J N];exact J
     ·rw[jK<|jR J N];exact J
  refine⟨.ref s.heap.objs.size,_,I2,rfl,⟨s.heap.objs.size,N,rfl,λys y hy G=>?_⟩,⟨⟨x',by simpa using he2⟩,?_⟩,λb hb=>?_⟩
  ·rw[I.yO hy hq]at G;rw[W]at G
   cases G
   rfl
  ·exact hst.1.at λo j=>M.extBut it o (Ne.symm hei) j
  ·have B:b=e\/b=it:=by simpa using hb
   rcases B with rfl|rfl
   ·rw[jK<|bD U];exact e0
   ·rw[jK<|bD hil];exact Y
 done:=by
  x_go;subst hP hw hK;kl_no;obtain⟨xs,hq,W⟩:=hg;obtain⟨t,rv,p,hz⟩:=I.tuple hq;obtain⟨Y,V,i2,i3,i4,i5⟩:=hf it (by simp);have F:a≠it:=by
   obtain⟨o,j,D,_⟩:=p;obtain⟨o2,L,C,_⟩:=st2;intro z;rw[z,L]at j
   cases j
   rw[D]at C;exact absurd (fV C) ⋯
  have hl:=rv.length;have ei:t.toArray.size=i:=by rw[bf,<- hl,W]
  exact wpAny_pyNext_enum_endD (SD (A:=X.A.in1) (I.ok.hd hc) it a F t.toArray) st1 ⟨by rw[ei];exact st2,p⟩ λh' eb=>⟨rfl,I.turned (t':=s.toks) (λb o hb q=>eb b o hb q) Y V i3 i4 i5⟩
 self:=λ_ _ _ _ _ st h=>let⟨⟨_,st1⟩,_⟩:=st;gK st1 h
def yL:bootBuiltins "enumerate" = some (.type "enumerate"):=by decide +kernel
section
variable {X:Cx}
abbrev abT (K:au)(ta:TA):TI:=λσ H R=>ta σ H λc H1=>∃a xs,c=[.ref a]/\nX K H1 a xs/\R (Ite K a) H1
def Q7{a:aC}{ta:TA}{p:Pos}(hg:Gl X "enumerate")(U:X.mg "enumerate" = none)(ha:PA X [a] ta)(hs:starEach [a] X.env=[(false,eval a X.env)]<|>ε):PI X (.Tuple elts x1 tpos) (.Call (.Name "enumerate" p) [a] [] pos) (abT X.K ta):=by
 intro pins s σ H R I h;refine Call_<|xM I hg U yL<|dw (nA (ha pos pins s σ H _ I h) λus c ⟨L,H1,I1,r1,D⟩=>?_) hs rfl;obtain⟨t,xs,e,G,q⟩:=D;subst e;obtain⟨u,rfl,rx⟩:=vals1 r1
 cases rx
 obtain⟨j,M,J,N⟩:=I1.tuple G;refine callType_new F.called_enumerate ⋯ (F.typeCall_enumerate_1 _) (F.newCall_enumerate_1 _) (λg=>F.args_object_init_2 g _) F.entry_enumerate_new (GD t j.toArray) ⟨J,⟨_,bA _ rfl,rfl⟩,?_⟩;have m:Inv X pins σ H1 { c with heap:=c.heap.push { cls:=.type "tuple_iterator",data:=.fields #[.ref t,.int 0 0]}}:=I1.kept (t':=c.toks) λb o e=>aZ _ e;have C:Inv X pins σ H1 { c with heap:=(c.heap.push { cls:=.type "tuple_iterator",data:=.fields #[.ref t,.int 0 0]}).push { cls:=.type "enumerate",data:=.fields #[.none,.bool false,.ref c.heap.objs.size,rawInt 0,.none,.none]}}:=m.kept (t':=c.toks) λb o e=>aZ _ e;have B:IsEnum ((c.heap.push { cls:=.type "tuple_iterator",data:=.fields #[.ref t,.int 0 0]}).push { cls:=.type "enumerate",data:=.fields #[.none,.bool false,.ref c.heap.objs.size,rawInt 0,.none,.none]}) (c.heap.push { cls:=.type "tuple_iterator",data:=.fields #[.ref t,.int 0 0]}).objs.size c.heap.objs.size 0 .none:=bA _ rfl;have k:((c.heap.push { cls:=.type "tuple_iterator",data:=.fields #[.ref t,.int 0 0]}).push { cls:=.type "enumerate",data:=.fields #[.none,.bool false,.ref c.heap.objs.size,rawInt 0,.none,.none]}).IsTupleIter c.heap.objs.size t 0:=⟨_,aZ _<|bA _ rfl,rfl,rfl⟩;have d:(c.heap.push { cls:=.type "tuple_iterator",data:=.fields #[.ref t,.int 0 0]}).objs.size≠c.heap.objs.size:=by rw[dX];exact iM (dI _)
 refine gK B ⟨_,[_,c.heap.objs.size],_,_,H1,rfl,C,HY t _ c.heap.objs.size d,⟨⟨.none,B⟩,k⟩,λb hb=>?_,q⟩;have f:b=(c.heap.push { cls:=.type "tuple_iterator",data:=.fields #[.ref t,.int 0 0]}).objs.size\/b=c.heap.objs.size:=by simpa using hb
 rcases f with rfl|rfl
 ·exact I1.Co (by rw[dX];exact jn _) (m.hok.fresh<|aP _)
 ·f_are
end
end L2
namespace L2
open PySem PySem.Spec PyProof.Rows
open PySem.SeqAt
open PySem.AutoSeq1 (wpAny_loadPart')
open PySem.MeetsSeq PySem.MeetsSeq2 PySem.MeetsSeq3 PySem.SeqAt
section
variable {X:Cx}
def Ol:pL X (binaryOp .FloorDiv) (rI (λ_ j=>0<j/\j<18446744073709551616) λi j=>.int<|i / j):=opI λi j _ _ _ _ _ hc q=>by
 have h1:(0:Int)<j:=hc.1;have h2:j<18446744073709551616:=hc.2;refine floordiv_int (by omega) (by rw[Int.fdiv_eq_ediv_of_nonneg i<|by omega];exact q)<|.inl<|PyProof.noPylong_of_log2 ?_;exact bU ((Nat.log2_lt<|by omega).mpr<|show j.natAbs<2 ^ 64 by omega) ⋯
end
end L2
namespace L2
open PySem PySem.Spec PyProof.Rows
abbrev Its (x:Str):It:=⟨λi _=>i<x.cps.size,λi H v H'=>H'=H/\∃c,x.cps[i]?=some c/\v=.str ⟨#[c]⟩,λi _=>i=x.cps.size⟩
def NK{P:aj}{w:ah}{K:au}(x:Str)(t:Tok)(it:ak):Turn P w K tg (Its x) [it] it (λi h=>h.IsStrIter it "str_ascii_iterator" x t i) where
 mem:=by simp
 obj:=λi h st b hb=>by
  have e:b=it:=by simpa using hb
  subst e;obtain⟨o,e,c,d⟩:=st;exact⟨o,e,λv z=>by rw[d]at z;cases z⟩
 keep:=λi h h' st k=>let⟨o,ho,r⟩:=st;⟨o,k it (by simp) o ho,r⟩
 item:=by
  x_go;subst hP hw hK;kcj_m;have W:=Walks.strAscii (prog:=X.prog) (w:=X.w) (I.ok.hd hc) it x t;refine W.item i s _ _ hg st λv h' j hv f g=>?_;obtain⟨c,u,m,rfl⟩:=hv;have I1:Inv X pins σ H { s with heap:=h',toks:=j }:=I.turned (λb o hb e=>g b o (by simpa using hb) e) f0 f1 f3 f4 f5;obtain⟨o,e,p,d⟩:=id f;exact⟨_,rfl,G8 (s:={ s with heap:=h',toks:=j }) e p d ⋯ ⟨.str ⟨#[c]⟩,H,I1,⟨u,rfl⟩,⟨rfl,c,m,rfl⟩,f,λb hb=>(hf b hb).1⟩⟩
 done:=by
  x_go;subst hP hw hK;kcj_m;have hg:i=x.cps.size:=hg;subst hg;have W:=Walks.strAscii (prog:=X.prog) (w:=X.w) (I.ok.hd hc) it x t;exact W.done s _ _ st λh' j g=>⟨rfl,I.turned (λb o hb e=>g b o (by simpa using hb) e) f0 f1 f3 f4 f5⟩
 self:=λ_ _ _ _ _ st h=>wpAny_pyIter_striter_ascii st h
section
variable {X:Cx}{tg:aC}
abbrev adz (J:TE):TI:=λσ H R=>J σ H λx H1=>∃y:Str,x=.str y/\y.cps.all (· < 128)=true/\R (Its y) H1
def Zz{l:aC}{J:TE}(U:PE X l J):PI X tg l (adz J):=by
 intro pins s σ H R I h;refine nA (U pins s σ H _ I h) λv c h9=>?_;obtain⟨x,H1,I1,r1,d⟩:=h9;obtain⟨y,e,ha,q⟩:=d;subst e;obtain⟨t,rfl⟩:=r1;refine wpAny_pyIter_ascii ha ?_;refine⟨c.heap.objs.size,[c.heap.objs.size],_,_,H1,rfl,I1.kept (t':=c.toks) λb o e=>aZ _ e,NK y t _,⟨_,bA _ rfl,rfl,rfl⟩,λb hb=>?_,q⟩;have e:b=c.heap.objs.size:=by simpa using hb
 subst e;f_are
def MK:kG X (.type "int") (λxs H Q=>∃(y:Str) (n:Int),xs=[.str y]/\y.length<=640/\PySem.intText? y=some n/\Q (.int n) H):=by
 intro pins s σ H xs us Q I f h;obtain⟨y,n,rfl,d,hn,q⟩:=h;obtain⟨w,rfl,c⟩:=vals1 f;obtain⟨u,rfl⟩:=c;exact PySem.W.KIN.call_text hn d ⟨.int n,H,I.tok _,⟨_,rfl⟩,q⟩
end
section
variable {κ:Type}[DecidableEq κ]
abbrev pU (kvs:List<|κ×V)(k:κ):Option V:=(kvs.find? λkv=>decide<|kv.1=k).map (·.2)
abbrev putK (kvs:List<|κ×V)(k:κ)(v:V):List (κ×V):=
 if (kvs.any λkv=>decide<|kv.1=k)=true then kvs.map (λkv=>if kv.1=k then(kv.1,v)else kv)else kvs++[(k,v)]
def vP{p:κ×V}{r:List<|κ×V}{k:κ}(e:p.1=k):pU (p::r) k=some p.2:=by simp[pU,b5,e]
def vN{p:κ×V}{r:List<|κ×V}{k:κ}(e:¬p.1=k):pU (p::r) k=pU r k:=by simp[pU,b5,e]
theorem yr(k:κ):∀kvs:List<|κ×V,(kvs.any λkv=>decide<|kv.1=k)=(pU kvs k).isSome
 | []=>rfl
 | p::r=>by
  rw[fL];by_cases e:p.1=k
  ·dsimp[vP e,bg e,Bool.true_or,gA]
  ·rw[vN e,bH e,gc];exact yr k r
def rX(kvs:List<|κ×V)(k:κ)(v:V):(putK kvs k v).length<=kvs.length+1:=by
 unfold putK;split
 ·rw[aF];lia
 ·rw[bq,bR,fJ];lia
def zx.t8{o:Option V}{u:bb}(r:zx o u):o.isSome=u.isSome:=by
 cases o with
 | none=>cases u with
  | none=>rfl
  | some _=>exact(show False from r).elim
 | some _=>cases u with
  | none=>exact(show False from r).elim
  | some _=>rfl
def zx.getD{o:Option V}{u:bb}{d:V}(r:zx o u)(J:RelV d d'):RelV (o.getD d) (u.getD d'):=by
 cases o with
 | none=>cases u with
  | none=>exact J
  | some _=>exact(show False from r).elim
 | some _=>cases u with
  | none=>exact(show False from r).elim
  | some _=>exact r
def KV.val(r:KV kvs vs)(k:κ):zx (pU kvs k) (valueAt vs k):=by
 unfold KV at r
 induction r with
 | nil=>exact True.intro
 | @cons p q ps c h t f=>
  obtain⟨h1,h2⟩:=h;by_cases e:p.1=k
  ·have d:q.1=k:=h1.symm.trans e;have b:valueAt (q::c) k=some q.2:=by simp[valueAt,b5,d]
   rw[vP e,b];exact h2
  ·have d:¬q.1=k:=λz=>e<|h1.trans z;have b:valueAt (q::c) k=valueAt c k:=by simp[valueAt,b5,d]
   rw[vN e,b];exact f
def KV.any{kvs:List<|κ×V}{vs:List<|κ×af}(r:KV kvs vs)(k:κ):(kvs.any λkv=>decide<|kv.1=k)=vs.any λkv=>decide (kv.1=k):=by
 unfold KV at r
 induction r with
 | nil=>rfl
 | cons h t c=>rw[fL,fL,c,h.1]
def KV.repl{kvs:List<|κ×V}{vs:List<|κ×af}(r:KV kvs vs)(k:κ)(ry:RelV y u) :
  KV (kvs.map λkv=>if kv.1=k then(kv.1,y)else kv) (vs.map λkv=>if kv.1=k then(kv.1,u)else kv):=by
 unfold KV at r ⊢
 induction r with
 | nil=>exact .nil
 | @cons p q ps d h t c=>
  rw[bF,bF];refine .cons ?_ c;obtain⟨h1,h2⟩:=h;by_cases e:p.1=k
  ·rw[aR e,aR<|h1.symm.trans e];exact⟨h1,ry⟩
  ·rw[aN e,aN λz=>e<|h1.trans z];exact⟨h1,h2⟩
def KV.put(r:KV kvs vs)(k:κ)(ry:RelV y u):KV (putK kvs k y) (stored vs k u):=by
 unfold putK stored;rw[r.any k];by_cases e:(vs.any λkv=>decide<|kv.1=k)=true
 ·rw[aR e,aR e];exact r.repl k ry
 ·rw[aN e,aN e];exact Paired.snoc r ⟨rfl,ry⟩
def KV.length{kvs:List<|κ×V}{vs:List<|κ×af}(r:KV kvs vs):kvs.length=vs.length:=i6 r
end
def AY{P:aj}{w:ah}{k:Key}(r:RelV (kV k) u):(kh P w).is k u=true:=by
 cases k with
 | inl i=>obtain⟨t,e⟩:=(show ∃t,u=Value.int i t from r);subst e;exact G9 P w i t
 | inr x=>obtain⟨t,e⟩:=(show ∃t,u=Value.str x t from r);subst e;exact F2 P w x t
theorem C7{P:aj}{w:ah}:∀{ks:List Key}{us:ar},Vals (ks.map kV) us->ItemsAre (kh P w) ks us
 | [],_,r=>by rw[d9]at r;cases r;exact .nil
 | k::ks,_,r=>by
  rw[bF]at r
  cases r with
  | cons h t=>exact .cons (AY h)<|C7 t
meta abbrev KT (H:Hp):List (List Key×V)->List (List Key×ak×af)->Prop:=Paired λp q=>p.1=q.1/\H q.2.1=some (.tup<|p.1.map kV)/\RelV p.2 q.2.2
def KT.val{H:Hp}(r:KT H kvs xs)(k:List Key):zx (pU kvs k) ((atKey xs k).map (·.2)):=by
 induction r with
 | nil=>exact True.intro
 | @cons p q ps c h t f=>
  obtain⟨h1,_,h2⟩:=h;by_cases e:p.1=k
  ·have d:q.1=k:=h1.symm.trans e;have b:atKey (q::c) k=some q.2:=by simp[atKey,b5,d]
   rw[vP e,b];exact h2
  ·have d:¬q.1=k:=λz=>e<|h1.trans z;have b:atKey (q::c) k=atKey c k:=by simp[atKey,b5,d]
   rw[vN e,b];exact f
def KT.repl{H:Hp}{kvs:List<|List Key×V}{xs:List<|List Key×ak×af}(r:KT H kvs xs)(k:List Key)(ry:RelV y u) :
  KT H (kvs.map λkv=>if kv.1=k then(kv.1,y)else kv) (xs.map<|putAt k u):=by
 induction r with
 | nil=>exact .nil
 | @cons p q ps d h t c=>
  rw[bF,bF];refine .cons ?_ c;obtain⟨h1,h2,h3⟩:=h;unfold putAt;by_cases e:p.1=k
  ·rw[aR e,aR<|h1.symm.trans e];exact⟨h1,h2,ry⟩
  ·rw[aN e,aN λz=>e<|h1.trans z];exact⟨h1,h2,h3⟩
def KT.put{H:Hp}(r:KT H kvs xs)(k:List Key){b:ak}(hb:H b=some (.tup<|k.map kV))(ry:RelV y u) :
  KT H (putK kvs k y) (storedH xs k b u):=by
 have e:(kvs.any λkv=>decide<|kv.1=k)=(atKey xs k).isSome:=by
  rw[yr,(r.val k).t8,eS]
 unfold putK storedH;rw[e];by_cases q:(atKey xs k).isSome=true
 ·rw[aR q,aR q];exact r.repl k ry
 ·rw[aN q,aN q];exact Paired.snoc r ⟨rfl,hb,ry⟩
def KT.keeps{H H':Hp}(r:KT H kvs xs)(J:∀b ys,H b=some (.tup ys)->H' b=some (.tup ys)):KT H' kvs xs:=
 Paired.Y5 r λ_ _ z=>⟨z.1,J _ _ z.2.1,z.2.2⟩
section
variable {P:aj}{w:ah}{H:Hp}{h:aq}{a:ak}
def WG(ok:xX P w H h)(e:Rd H a u):kI P w H h a u:=e.ok ok
def yi{kvs:List<|Key×V}(ok:xX P w H h)(e:Rd H a<|.dK kvs):kvs.length<=sizeLine/\(a == sysModules)=false/\∃vs,KV kvs vs/\h.DictOf (kh P w) a vs:=
 show kI P w H h a (.dK kvs)from WG ok e
def Lp{kvs:List<|Key×V}(ok:xX P w H h)(e:H a=some (.dK kvs)):kvs.length<=sizeLine/\(a == sysModules)=false/\∃vs,KV kvs vs/\h.DictOf (kh P w) a vs:=yi ok<|.inl e
def xP{ks:List Key}(ok:xX P w H h)(e:H a=some (.tup<|ks.map kV)):(tupleKind<|kh P w).is h ks a:=by
 obtain⟨_,c,r,o,h1,h2,_,n,h3⟩:=(show kI P w H h a (.tup<|ks.map kV)from ok a _ e);exact⟨o,c.toArray,n,h1,h2,h3,by simpa using C7 r⟩
def zP{kvs:List<|List Key×V}(ok:xX P w H h)(e:Rd H a<|.dT kvs):kvs.length<=sizeLine/\(a == sysModules)=false /\
  ∃xs,KT H kvs xs/\h.DictOfH (tupleKind<|kh P w) a xs:=by
 obtain⟨z,y,xs,r,o,es,ep,h1,h2,h3,f,g⟩:=(show kI P w H h a (.dT kvs)from WG ok e);refine⟨z,y,xs,r,o,es,ep,h1,h2,h3,f,λx c=>?_,g⟩;have all:∀{l:List<|List Key×V} {m:List<|List Key×ak×af},KT H l m->∀x∈m,(tupleKind<|kh P w).is h x.1 x.2.1:=by
  intro l m q
  induction q with
  | nil=>intro x c;exact nomatch c
  | @cons p q ps k d t j=>
   intro x c
   rcases bw.mp c with e|c
   ·subst e;exact xP ok (by rw[<- d.1];exact d.2.1)
   ·exact j x c
 exact all r x c
def Qd{kvs:List<|List Key×V}(ok:xX P w H h)(e:H a=some (.dT kvs)):kvs.length<=sizeLine/\(a == sysModules)=false /\
  ∃xs,KT H kvs xs/\h.DictOfH (tupleKind<|kh P w) a xs:=zP ok<|.inl e
end
abbrev uM (H:Hp)(a:ak)(y:V)(r:Option V):Prop:=
 (∃c k,Rd H a (.dK c)/\y=kV k/\r=pU c k)\/∃c k b,Rd H a (.dT c)/\y=.ref b/\H b=some (.tup<|k.map kV)/\r=pU c k
abbrev FW (H:Hp)(a:ak)(y v:V)(H':Hp):Prop:=
 (∃c k,H a=some (.dK c)/\y=kV k/\c.length<sizeLine/\H'=upd H a (.dK<|putK c k v)) \/
 ∃c k b,H a=some (.dT c)/\y=.ref b/\H b=some (.tup<|k.map kV)/\c.length<sizeLine/\H'=upd H a (.dT<|putK c k v)
theorem uM.k{H:Hp}{a:ak}{k:Key}(e:H a=some (.dK kvs)):uM H a (kV k) (pU kvs k):=.inl ⟨kvs,k,.inl e,rfl,rfl⟩
def uM.t{H:Hp}{a b:ak}{k:List Key}(e:H a=some (.dT kvs))(J:H b=some (.tup<|k.map kV)):uM H a (.ref b) (pU kvs k):=.inr ⟨kvs,k,b,.inl e,rfl,J,rfl⟩
theorem FW.k{H:Hp}{a:ak}{kvs:List<|Key×V}{k:Key}{v:V}(e:H a=some (.dK kvs))(J:kvs.length<sizeLine):FW H a (kV k) v (upd H a<|.dK<|putK kvs k v):=.inl ⟨kvs,k,e,rfl,J,rfl⟩
def FW.t{H:Hp}{a b:ak}{kvs:List<|List Key×V}{k:List Key}{v:V}(e:H a=some (.dT kvs))(J:H b=some (.tup<|k.map kV))(U:kvs.length<sizeLine) :
  FW H a (.ref b) v (upd H a<|.dT<|putK kvs k v):=.inr ⟨kvs,k,b,e,rfl,J,U,rfl⟩
section
variable {X:Cx}{pins:bj}{σ:St}{H:Hp}{s:aA}{a:ak}{y v:V}{u r:af}{o:Option V}{A:az}{E:af->aA->Prop}
def Inv.big(I:Inv X pins σ H s):sysModules<s.heap.objs.size:=by
 have h:mainGlobals<s.heap.objs.size:=(I.mod.glob.keeps I.bk).lt;exact jf ⋯ h
def Nh{Q:af->aA->Prop}(J:A.units+1<cLine)(I:Inv X pins σ H s)(g:uM H a y<|some v)(ry:RelV y u)(h:∀w' s',Inv X pins σ H s'->RelV v w'->Q w' s') :
  wpAny (model X.prog X.w) A (getItem (.ref a) u) Q E s:=by
 rcases g with⟨f,k,e,m,l⟩|⟨f,k,b,e,m,B,l⟩
 ·subst m;obtain⟨z,C,t,d,q⟩:=yi I.hok e;obtain⟨w',hw,c⟩:=zx.some_of (v:=v) (o:=valueAt t k) (by rw[l];exact d.val k);exact wpAny_getItem_of (AY ry) q.mapOf hw (h w' _ (I.tok _) c)
 ·subst m
  cases(show u=Value.ref b from ry)
  obtain⟨z,C,xs,d,q⟩:=zP I.hok e;obtain⟨w',hw,c⟩:=zx.some_of (v:=v) (o:=(atKey xs k).map (·.2)) (by rw[l];exact d.val k);obtain⟨p,D,j⟩:=aQ.mp hw;refine wpAny_getItem_heap (eB J) (xP I.hok B) q D ?_;rw[j];exact h w' _ (I.tok _) c
def adk{Q:af->aA->Prop}(J:A.units+1<cLine)(I:Inv X pins σ H s)(g:uM H a y o)(ry:RelV y u)(h:∀s',Inv X pins σ H s'->Q (.bool o.isSome) s') :
  wpAny (model X.prog X.w) A (compareOp .In u<|.ref a) Q E s:=by
 rcases g with⟨d,k,e,j,l⟩|⟨d,k,b,e,j,p,l⟩
 ·subst j;obtain⟨z,f,t,c,m⟩:=yi I.hok e;refine wpAny_in_of (AY ry) f m.mapOf ?_;rw[<- (c.val k).t8,<- l];exact h _ (I.tok _)
 ·subst j
  cases(show u=Value.ref b from ry)
  obtain⟨z,f,xs,c,m⟩:=zP I.hok e;refine wpAny_in_heap (eB J) (xP I.hok p) f m ?_;have q:=(c.val k).t8;rw[eS]at q;rw[<- q,<- l];exact h _<|I.tok _
def VY{Q:af->aA->Prop}(J:A.units+1<cLine)(I:Inv X pins σ H s)(g:uM H a y o)(ry:RelV y u)(h:∀s',Inv X pins σ H s'->Q (.bool<|!o.isSome) s') :
  wpAny (model X.prog X.w) A (compareOp .NotIn u<|.ref a) Q E s:=by
 rcases g with⟨d,k,e,j,l⟩|⟨d,k,b,e,j,p,l⟩
 ·subst j;obtain⟨z,f,t,c,m⟩:=yi I.hok e;refine wpAny_notIn_of (AY ry) f m.mapOf ?_;rw[<- (c.val k).t8,<- l];exact h _ (I.tok _)
 ·subst j
  cases(show u=Value.ref b from ry)
  obtain⟨z,f,xs,c,m⟩:=zP I.hok e;refine wpAny_notIn_heap (eB J) (xP I.hok p) f m ?_;have q:=(c.val k).t8;rw[eS]at q;rw[<- q,<- l];exact h _<|I.tok _
def ye{h':aq}{t':Nat}{ob:HO}(I:Inv X pins σ H s)(J:Mut<|H a)(hs:Heap.SameBut a s.heap h')(U:∃q,h'.get? a=some q)(new:kI X.prog X.w (upd H a ob) h' a ob) :
  Inv X pins σ (upd H a ob) { s with heap:=h',toks:=t' }:=
 I.write (x:=a) (e:=a) J (.inl rfl) (λb q hb z=>(hs.2 b hb).trans z) U new
def HA{P:aj}{w:ah}{H':Hp}{h':aq}{kvs:List<|Key×V}(z:kvs.length<=sizeLine)(U:(a == sysModules)=false)(J:KV kvs vs)(Z:h'.DictOf (kh P w) a vs) :
  kI P w H' h' a (.dK kvs):=⟨z,U,vs,J,Z⟩
def MP{H':Hp}{Q:Unit->aA->Prop}(Z:A.units+1<cLine)(I:Inv X pins σ H s)(g:FW H a y v H')(ry:RelV y u)(U:RelV v r)(h:∀s',Inv X pins σ H' s'->Q Unit.unit s') :
  wpAny (model X.prog X.w) A (setItem (.ref a) u r) Q E s:=by
 rcases g with⟨d,k,e,D,l,p⟩|⟨d,k,b,e,D,G,l,p⟩
 ·subst D p;obtain⟨z,B,L,f,F⟩:=Lp I.hok e;have C:L.length<=sizeLine:=by rw[<- f.length];exact z
  have t:(putK d k v).length<=sizeLine:=by have:=rX d k v;lia
  refine wpAny_setItem_pairs (hsz:=C) (AY ry) F λh' j hs=>h _ ?_;have M:∃q,h'.get? a=some q:=let⟨q,_,_,m,_⟩:=j;⟨q,m⟩
  exact ye I (by rw[e];exact True.intro) hs M<|HA t B (f.put k U) j
 ·subst D p
  cases(show u=Value.ref b from ry)
  obtain⟨z,B,xs,f,F⟩:=Qd I.hok e;have C:xs.length<=sizeLine:=by rw[<- i6 f];exact z
  have t:(putK d k v).length<=sizeLine:=by have:=rX d k v;lia
  refine wpAny_setItem_heap (hsz:=C) (eB Z) (xP I.hok G) F λh' j hs=>h _ ?_;obtain⟨q,es,ep,m,h2,h3,K,_,N⟩:=j;refine ye I (by rw[e];exact True.intro) hs ⟨q,m⟩ ⟨t,B,_,(f.put k G U).keeps λc ys J=>?_,q,es,ep,m,h2,h3,K,N⟩;rw[jK<|WX J e λz=>nomatch z];exact J
end
def Hg{X:Cx}{H:Hp}{s:aA}{a:ak}(I:Inv X pins σ H s)(g:uM H a y o):s.TypeIs (.ref a) "dict" := by
 rcases g with⟨c,k,e,_,_⟩|⟨c,k,b,e,_,_,_⟩
 ·obtain⟨_,_,f,_,d⟩:=yi I.hok e;exact d.typeIs
 ·obtain⟨_,_,xs,_,d⟩:=zP I.hok e;exact d.typeIs
def GF{P:aj}{w:ah}{H:Hp}(h:aq)(hb:sysModules<h.objs.size):kI P w H (h.push { cls:=.type "dict",data:=.dict #[]}) h.objs.size (.dK []):=
 ⟨bW _,cB.mpr<|Ne.symm<|bD hb,[],.nil,Heap.DictOf.new h⟩
def Sw{P:aj}{w:ah}{H:Hp}(h:aq)(hb:sysModules<h.objs.size):kI P w H (h.push { cls:=.type "dict",data:=.dict #[]}) h.objs.size (.dT []):=
 ⟨bW _,cB.mpr<|Ne.symm<|bD hb,[],.nil,_,#[],0,bA _ rfl,⟨rfl,rfl,rfl⟩,rfl,rfl,cT⟩
abbrev XX:TE:=λ_ H Q=>∀p,H p=none->Q (.ref p) (upd H p<|.dK [])
abbrev W8:TE:=λ_ H Q=>∀p,H p=none->Q (.ref p) (upd H p<|.dT [])
section
variable {X:Cx}{pos:Pos}
def RN:PE X (.Dict [] [] pos) XX:=λpins s σ H Q I h=>
 wpAny_Dict_empty ⟨.ref s.heap.objs.size,_,I.laid (a:=s.heap.objs.size) (o:=.dK []) (t':=s.toks) (λ_ _ q=>aZ _ q) (aP _)<|GF s.heap I.big,rfl,h _<|I.hok.fresh<|aP _⟩
def OI:PE X (.Dict [] [] pos) W8:=λpins s σ H Q I h=>
 wpAny_Dict_empty ⟨.ref s.heap.objs.size,_,I.laid (a:=s.heap.objs.size) (o:=.dT []) (t':=s.toks) (λ_ _ q=>aZ _ q) (aP _)<|Sw s.heap I.big,rfl,h _<|I.hok.fresh<|aP _⟩
end
abbrev HW:List (TE×TE)->St->Hp->(List (V×V)->Hp->Prop)->Prop
 | [],_,H,Q=>Q [] H
 | (tk,tv)::r,σ,H,Q=>tk σ H λx H1=>tv σ H1 λy H2=>HW r σ H2 λps H3=>Q ((x,y)::ps) H3
meta abbrev VV:List (V×V)->List (af×af)->Prop:=Paired λp q=>RelV p.1 q.1/\RelV p.2 q.2
abbrev PPs (X:Cx)(pos:Pos)(keys:List<|Option aC)(J:List aC)(U:List<|TE×TE):Prop:=
 ∀(pins:bj) (s:aA) (σ:St) (H:Hp) (Q:List (V×V)->Hp->Prop),Inv X pins σ H s->HW U σ H Q ->
  wpAny (model X.prog X.w) X.A (evalPairs<|pairTrees keys J X.env pos) (λc s'=>∃ps H',Inv X pins σ H' s'/\VV ps c/\Q ps H') X.xe s
def Js{X:Cx}:PPs X pos [] [] []:=λpins s σ H Q I h=>pairTrees_nil_walk ⟨[],H,I,.nil,h⟩
def Bs{X:Cx}{k v:aC}{ks:List<|Option aC}{tk J:TE}(U:PE X k tk)(hv:PE X v J)(Z:PPs X pos ks vs trs) :
  PPs X pos (some k::ks) (v::vs) ((tk,J)::trs):=λpins s σ H Q I h=>
 pairTrees_cons_walk (nA (U pins s σ H _ I h) λu g ⟨x,H1,I1,rx,m⟩=>nA (hv pins g σ H1 _ I1 m) λB q ⟨y,H2,d,ry,f⟩=>
  nA (Z pins q σ H2 _ d f) λC t ⟨ps,H3,j,c,p⟩=>⟨(x,y)::ps,H3,j,.cons ⟨rx,ry⟩ c,p⟩)
abbrev BN (kvs J:List<|Key×V):List (Key×V):=J.foldl (λacc kv=>putK acc kv.1 kv.2) kvs
def KV.merge:∀{more:List<|Key×V}{rs:List<|Key×af}{kvs:List<|Key×V}{vs:List<|Key×af},KV more rs->KV kvs vs->KV (BN kvs more) (merged vs rs):=by
 intro more rs kvs vs r;unfold KV at r
 induction r generalizing kvs vs with
 | nil=>intro q;exact q
 | @cons p q ps f h t c=>
  intro d;have e:KV (putK kvs p.1 p.2) (stored vs q.1 q.2):=by
   have:=d.put p.1 h.2;rw[<- h.1];exact this
  exact c e
theorem xh:∀(more kvs:List<|Key×V),(BN kvs more).length<=kvs.length+more.length
 | [],kvs=>by show kvs.length<=kvs.length+0;lia
 | p::r,kvs=>by
  have h1:=xh r<|putK kvs p.1 p.2;have h2:=rX kvs p.1 p.2;show(BN (putK kvs p.1 p.2) r).length<=_;rw[bR];lia
theorem BK{P:aj}{w:ah}:∀{kvs:List<|Key×V}{ws:List<|af×af},VV (kvs.map λkv=>(kV kv.1,kv.2)) ws->∃rs,Carries (kh P w) ws rs/\KV kvs rs
 | [],_,r=>by rw[d9]at r;cases r;exact⟨[],True.intro,.nil⟩
 | p::kvs,_,r=>by
  rw[bF]at r
  cases r with
  | @cons a b as bs h t=>
   obtain⟨rs,c,q⟩:=BK (P:=P) (w:=w) t;obtain⟨f,d⟩:=b;exact⟨(p.1,d)::rs,⟨AY h.1,rfl,c⟩,.cons ⟨rfl,h.2⟩ q⟩
abbrev aaM (J:List<|TE×TE):TE:=λσ H Q=>∀p,H p=none->HW J σ (upd H p<|.dK []) λps H2=>H2 p=some (.dK [])/\∃c:List<|Key×V,ps=c.map (λkv=>(kV kv.1,kv.2))/\c.length<=15/\Q (.ref p) (upd H2 p<|.dK<|BN [] c)
def Kc{X:Cx}{keys:List<|Option aC}{U:List aC}(h:PPs X pos keys U trs)(Z:keys.all (·.isSome)=true)(hl:keys.length=U.length)(h0:keys≠[])
  (h15:keys.length<=15):PE X (.Dict keys U pos) (aaM trs):=by
 intro pins s σ H Q I q;have hn:=I.hok.fresh<|aP s.heap.objs.size;have I1:=I.laid (a:=s.heap.objs.size) (o:=.dK []) (h':=s.heap.push { cls:=.type "dict",data:=.dict #[]}) (t':=s.toks) (λ_ _ q=>aZ _ q) (aP _)<|GF s.heap I.big;refine wpAny_Dict_walk (knd:=kh X.prog X.w) Z hl h0 h15<|nA (h pins _ σ _ _ I1<|q _ hn) λK L ⟨ps,H2,j,g,e,f,ep,J,k⟩=>?_;subst ep;obtain⟨p,c,D⟩:=BK (P:=X.prog) (w:=X.w) g;obtain⟨z,t,C,B,G⟩:=Lp j.hok e
 cases B
 refine⟨p,c,G,λh' d hs=>⟨.ref s.heap.objs.size,_,?_,rfl,k⟩⟩;have F:(BN [] f).length<=sizeLine:=by
  have h1:=xh f [];rw[fJ]at h1;rw[d_];lia
 have m:∃q,h'.get? s.heap.objs.size=some q:=let⟨q,_,_,hq,_⟩:=d;⟨q,hq⟩
 exact ye j (by rw[e];exact True.intro) hs m<|HA F t (D.merge .nil) d
structure M2 (X:Cx)(o:aC)(m:Str)(apos:Pos)(e f:aC)(cpos:Pos):Prop where
 base:attributeBase o m X.env (eval o X.env)=eval o X.env
 few:((backTo cpos<|starEach [e,f] X.env).all (λx=>!x.1) && (backToKw cpos<|keywordEach [] X.env).all (λx=>x.1.isSome)
  && decide (([e,f]:List aC).length+([]:List Keyword).length+(if ([]:List Keyword).isEmpty then 0 else 1)<30))=true
 line:(apos.endLine == cpos.line)=true
 trees:backTo cpos (starEach [e,f] X.env)=[(false,eval e X.env),(false,eval f X.env)]
abbrev IsD (H:Hp)(a:ak):Prop:=(∃c,Rd H a<|.dK c)\/∃c,Rd H a<|.dT c
def Y_{X:Cx}{H:Hp}{s:aA}{a:ak}(I:Inv X pins σ H s)(d:IsD H a) :
  s.TypeIs (.ref a) "dict" /\ (∀b,Value.ref a=.ref b->∃ob,s.heap.get? b=some ob/\ob.dict=none)/\(a == sysModules)=false:=by
 rcases d with⟨f,e⟩|⟨f,e⟩
 ·obtain⟨_,g,j,_,c⟩:=yi I.hok e;refine⟨c.typeIs,λb q=>?_,g⟩
  cases q
  obtain⟨ob,_,_,h1,h2,_⟩:=c;exact⟨ob,h1,h2.2.1⟩
 ·obtain⟨_,g,xs,_,c⟩:=zP I.hok e;refine⟨c.typeIs,λb q=>?_,g⟩
  cases q
  obtain⟨ob,_,_,h1,h2,_⟩:=c;exact⟨ob,h1,h2.2.1⟩
section
variable {X:Cx}{pins:bj}{σ:St}{H:Hp}{s:aA}{a:ak}{y d:V}{u r:af}{o:Option V}{A:az}{E:af->aA->Prop}
def Im{Q:af->aA->Prop}(U:A.units+1<cLine)(I:Inv X pins σ H s)(g:uM H a y o)(ry:RelV y u)(J:RelV d r)(h:∀w' s',Inv X pins σ H s'->RelV (o.getD d) w'->Q w' s') :
  wpAny (model X.prog X.w) A (call (.builtin "dict.get") [.ref a,u,r]) Q E s:=by
 rcases g with⟨j,k,e,p,l⟩|⟨j,k,b,e,p,q,l⟩
 ·subst p;obtain⟨z,m,t,c,f⟩:=yi I.hok e;refine ji bP f.typeIs fG (fj _ _ _) (meets_dict_get_default (kh X.prog X.w) a (AY ry) m r) ⟨_,f.mapOf,h _ _ (I.tok _) ?_⟩;rw[l];exact(c.val k).getD J
 ·subst p
  cases(show u=Value.ref b from ry)
  obtain⟨z,m,xs,c,f⟩:=zP I.hok e;refine ji bP f.typeIs fG (fj _ _ _) (gG (tupleKind<|kh X.prog X.w) a b m r) ⟨eB U,k,xs,xP I.hok q,f,h _ _ (I.tok _) ?_⟩;rw[l];exact(c.val k).getD J
end
meta abbrev ny:=ae×ae
abbrev tK (x:ae):Int:=reduceHash<|Builtin.Tuple.tupleHashOf<|x.map hashInt
abbrev J5 (k:ny):Int:=reduceHash<|Builtin.Tuple.tupleHashOf [tK k.1,tK k.2]
abbrev dpE (x:(ny×ak×af)):DictEntry:=⟨J5 x.1,.ref x.2.1,x.2.2⟩
abbrev vZ (a:ak)(xs:List<|ny×ak×af)(h:aq):Prop:=(a == sysModules)=false/\xs.length<=sizeLine/\∃o es ep,h.get? a=some o/\o.ExactDict/\o.data=.dict es ep/\es.toList=xs.map dpE/\(xs.map (·.1)).Nodup
abbrev tX (H:Hp)(b:ak)(k:ny):Prop:=∃r1 r2,H b=some (.tup [.ref r1,.ref r2])/\H r1=some (.tup<|k.1.map V.int)/\H r2=some (.tup<|k.2.map V.int)
section
variable {P:aj}{w:ah}{A:az}{E:af->aA->Prop}{s:aA}
meta abbrev TK (h:aq)(x:ae)(a:ak):Prop:=∃o c n,h.get? a=some o/\o.cls=.type "tuple" /\ o.data=.seq c n/\IntsAre c.toList x
theorem AZ{P:aj}{w:ah}:∀{x:ae}{vs:ar},IntsAre vs x->ItemsAre (intKind P w) x vs
 | _,_,.nil=>.nil
 | _,_,.cons n t h=>.cons (intKind_is _ _ _ _)<|AZ h
def xD{x:ae}{a:ak}:TK h x a->IsTupleKey (intKind P w) h x a:=λ⟨o,c,n,h1,h2,h3,d⟩=>⟨o,c,n,h1,h2,h3,AZ d⟩
theorem G3:∀{x y:ae}{vs:ar},IntsAre vs x->IntsAre vs y->x=y
 | _,_,_,.nil,.nil=>rfl
 | _,_,_,.cons n t h,.cons _ _ h'=>by rw[G3 h h']
abbrev wU (h:aq)(k:ny)(a:ak):Prop:=∃o n c d,h.get? a=some o/\o.cls=.type "tuple" /\ o.data=.seq #[.ref c,.ref d] n/\TK h k.1 c/\TK h k.2 d
def wU.ty{k:ny}{a:ak}(x:wU s.heap k a):s.TypeIs (.ref a) "tuple" := let⟨o,_,_,_,ho,hc,_⟩:=x;⟨o,ho,hc⟩
def TK.inj{a:ak}{x:ae}(J:TK h x a)(U:TK h y a):x=y:=by
 obtain⟨o,g,n,p,_,m,k⟩:=J;obtain⟨o',d,q,f,_,c,j⟩:=U;obtain rfl:o=o':=a_<|p.symm.trans f;rw[m]at c
 injection c with h1 _
 subst h1;exact G3 k j
def wU.inj{a:ak}{x:ny}(J:wU h x a)(U:wU h y a):x=y:=by
 obtain⟨o,n,B,t,k,_,j,h1,h2⟩:=J;obtain⟨o',q,p,m,d,_,c,f,g⟩:=U;obtain rfl:o=o':=a_<|k.symm.trans d;rw[j]at c
 injection c with e _
 have e:=cH Array.toList e
 injection e with e1 e2
 injection e2 with e2 _
 injection e1 with e1
 injection e2 with e2
 subst e1 e2;exact Prod.ext (h1.inj f)<|h2.inj g
def FE{h:aq}{x:ae}{a d:ak}{o:Obj}{es ep}(k:TK h x a)(J:h.get? d=some o)(U:o.data=.dict es ep)(hs:Heap.SameBut d h h'):TK h' x a:=by
 obtain⟨o',c,n,g,hc,f,m⟩:=k;have j:a≠d:=by
  rintro rfl;obtain rfl:o'=o:=a_<|g.symm.trans J;rw[U]at f;exact nomatch f
 exact⟨o',c,n,(hs.2 a j).trans g,hc,f,m⟩
def wU.keeps{h:aq}{k:ny}{a d:ak}{o:Obj}{es ep}(x:wU h k a)(J:h.get? d=some o)(U:o.data=.dict es ep)(hs:Heap.SameBut d h h'):wU h' k a:=by
 obtain⟨o',n,m,j,f,hc,c,h1,h2⟩:=x;have g:a≠d:=by
  rintro rfl;obtain rfl:o'=o:=a_<|f.symm.trans J;rw[U]at c;exact nomatch c
 exact⟨o',n,m,j,(hs.2 a g).trans f,hc,c,FE h1 J U hs,FE h2 J U hs⟩
def Ml{k:ny}{a:ak}{Q:Int->aA->Prop}(U:A.units+8<cLine)(J:wU s.heap k a)(h:Q (J5 k) { s with toks:=s.toks+(k.1.length+1+(k.2.length+1)+1)}) :
  wpAny (model P w) A (pyHash<|.ref a) Q E s:=by
 have d:=J.ty;obtain⟨o,n,m,f,j,_,g,h1,h2⟩:=J;unfold pyHash
 first|unfold pyHashByItsType|skip
 first|refine aI (wpAny_cRoomFor_or (.inr<|by omega) ?_)|skip
 refine aI<|gq d gM.lookup ?_;show wpAny _ _ (if (some (Value.builtin "tuple.__hash__") == some Value.none)=true then _ else _) Q E s;rw[aN<|by rw[beq_builtin_none];exact br];refine aI<|gq d gM.lookup ?_;show wpAny _ _ (callSpecialIfBoundUnlessNone? (.ref a) "__hash__" _ >>= _) Q E s;refine aI<|wpAny_callSpecialIfBoundUnlessNone?_slot d gM<|dh gM d F.entry_tuple_hash ?_<|F.args_tuple_hash_1 _;show wpAny _ _ (Builtin.Tuple.tupleItemsOf (.ref a) >>= _) _ _ s;refine aI<|iR j g ?_;refine aI ?_;rw[<- iS];refine fY _
  (λrest (b:Array Int) s'=>(rest=[.ref m,.ref f]/\b.toList=[]/\s'=s)\/(rest=[.ref f]/\b.toList=[tK k.1]/\s'={ s with toks:=s.toks+(k.1.length+1)})\/(rest=[]/\b.toList=[tK k.1,tK k.2]/\s'={ s with toks:=s.toks+(k.1.length+1)+(k.2.length+1)}))
  _ ?_ ?_ _ _ (.inl ⟨rfl,rfl,rfl⟩)
 ·rintro x rest b s' (⟨e,hb,rfl⟩|⟨e,hb,rfl⟩|⟨e,_,_⟩)
  ·cases e
   refine aI (wpAny_pyHash_tuple (knd:=intKind P w) (ks:=k.1) (by simp;omega) (xD h1) ?_)
   first
    | exact aV (.inr<|.inl ⟨rfl,by rw[gO,hb];rfl,rfl⟩)
    | exact aI<|aV<|aV<|.inr<|.inl ⟨rfl,by rw[gO,hb];rfl,rfl⟩
  ·cases e
   refine aI (wpAny_pyHash_tuple (knd:=intKind P w) (ks:=k.2) (by simp;omega) (xD h2) ?_)
   first
    | exact aV (.inr<|.inr ⟨rfl,by rw[gO,hb];rfl,rfl⟩)
    | exact aI<|aV<|aV<|.inr<|.inr ⟨rfl,by rw[gO,hb];rfl,rfl⟩
  ·cases e
 ·rintro b s' (⟨e,_,_⟩|⟨e,_,_⟩|⟨_,hb,rfl⟩)
  ·cases e
  ·cases e
  ·show wpAny _ _ (retInt<|Builtin.Tuple.tupleHashOf b.toList) _ _ _;rw[hb];refine wpAny_ret_mkInt ?_;show wpAny _ _ (if (decide (-(2:Int) ^ 63<=Builtin.Tuple.tupleHashOf [tK k.1,tK k.2]) && decide (Builtin.Tuple.tupleHashOf [tK k.1,tK k.2]<2 ^ 63))=true then _ else _) Q E _;unfold J5 reduceHash at h;by_cases c:(decide (-(2:Int) ^ 63<=Builtin.Tuple.tupleHashOf [tK k.1,tK k.2]) && decide (Builtin.Tuple.tupleHashOf [tK k.1,tK k.2]<2 ^ 63))=true
   ·rw[aR c];rw[aR c]at h;exact aV (by simpa[i8]using h)
   ·rw[aN c];rw[aN c]at h;exact aI<|iu<|aV<|by simpa[i8]using h
def Ey{x:ny}{a b:ak}{R:Fin->aA->Prop}(hu:A.units+8<cLine)(Z:wU s.heap x a)(U:wU s.heap y b)(h:R (.done<|.ret<|.bool<|decide<|x=y) s) :
  wpAny (model P w) A (Builtin.«tuple.__eq__» ⟨[.ref a,.ref b],[]⟩) R E s:=by
 have g:=U.ty;obtain⟨G,na,F,B,p,_,q,h1,h2⟩:=Z;obtain⟨J,nb,C,t,f,_,m,j,k⟩:=U;show wpAny _ _ (isInstance (.ref b) (.type "tuple") >>= _) _ _ s;refine aI<|iy g gY ?_;dsimp[b7,bM,cY];refine aI<|iR p q ?_;refine aI<|iR f m ?_;refine aI ?_;refine fY _
  (λrest r s'=>r.1=none/\s'=s/\((rest=[(.ref F,.ref C),(.ref B,.ref t)])\/(rest=[(.ref B,.ref t)]/\x.1=y.1)\/(rest=[]/\x=y)))
  _ ?_ ?_ _ _ ⟨rfl,rfl,.inl rfl⟩
 ·rintro⟨u,v⟩ rest r s' ⟨d,rfl,e|⟨e,D⟩|⟨e,_⟩⟩
  ·cases e
   refine aI<|wpAny_eqBool_tuple (knd:=intKind P w) (x:=x.1) (y:=y.1) () (xD h1) (xD j) ?_;by_cases c:x.1=y.1
   ·rw[bg c];dsimp[b7,bM,cY];exact aV ⟨rfl,rfl,.inr<|.inl ⟨trivial,c⟩⟩
   ·rw[bH c];dsimp[cU,fF];rw[bH λz=>c<|by rw[z]]at h;exact aI<|aV<|aV<|aV h
  ·cases e
   refine aI<|wpAny_eqBool_tuple (knd:=intKind P w) (x:=x.2) (y:=y.2) () (xD h2) (xD k) ?_;by_cases c:x.2=y.2
   ·rw[bg c];dsimp[b7,bM,cY];exact aV ⟨rfl,rfl,.inr<|.inr ⟨trivial,Prod.ext D c⟩⟩
   ·rw[bH c];dsimp[cU,fF];rw[bH λz=>c<|by rw[z]]at h;exact aI<|aV<|aV<|aV h
  ·cases e
 ·rintro⟨r1,r2⟩ s' ⟨d,rfl,e|⟨e,_⟩|⟨_,e⟩⟩
  ·cases e
  ·cases e
  ·simp only at d;subst d;refine aV ?_;rw[bg e]at h;exact h
def UQ{x:ny}{a b:ak}{Q:Bool->aA->Prop}(Z:A.units+16<cLine)(J:wU s.heap x a)(U:wU s.heap y b)(h:Q (decide<|x=y) s):wpAny (model P w) A (eqBool (.ref a)<|.ref b) Q E s:=by
 unfold eqBool
 try with_reducible refine dR ?_
 show wpAny _ _ (if (Value.ref a == Value.ref b)=true then _ else _) Q E s;by_cases c:(Value.ref a == Value.ref b)=true
 ·rw[aR c];have e:a=b:=by have:=eq_of_beq c;injection this
  subst e;obtain rfl:=J.inj U;exact aI<|iu<|aV<|by simpa using h
 ·rw[aN c];exact aI (wpAny_richCompare_same_room (op:=.Eq) J.ty U.ty iG
   (dh iG J.ty F.entry_tuple_eq (Ey (by simp;lia) J U ⟨_,rfl,(λe=>nomatch e),dz h⟩)<|F.args_tuple_eq_2 _ _) ())
def RM{n:Nat}{x:ae}{a:ak}{Q:Bool->aA->Prop}(J:TK s.heap x a)(h:Q true s):wpAny (model P w) A (eqIsQuiet (n+1)<|.ref a) Q E s:=by
 have J:=xD (P:=P) (w:=w) J;have j:=J.typeIs;obtain⟨o,d,m,p,_,k,q⟩:=J;unfold eqIsQuiet;refine aI<|gq j iG.lookup ?_;show wpAny _ _ (isInstance (.ref a) (.type "tuple") >>= _) _ _ s;refine aI<|iy j gY ?_;dsimp[b7,bM,cY];refine aI<|gJ p k ?_;refine aI ?_;show wpAny _ _ (forIn d _ _) _ _ s;rw[<- iS];refine fY _ (λrest r s'=>r.1=none/\s'=s/\∀v∈rest,carriedByValue v=true) _ ?_ ?_ _ _ ⟨rfl,rfl,q.byValue⟩
 ·rintro v rest r s' ⟨f,rfl,c⟩;rw[eqIsQuiet_byValue _<|c v aJ];refine aI<|aV ?_;dsimp[b7,bM,cY];exact aV ⟨rfl,rfl,λu g=>c u<|aO _ g⟩
 ·rintro⟨r1,r2⟩ s' ⟨f,rfl,_⟩;simp only at f;subst f;exact aV h
def Ii{k:ny}{a:ak}{Q:Bool->aA->Prop}(J:wU s.heap k a)(h:Q true s):wpAny (model P w) A (eqIsQuiet 8<|.ref a) Q E s:=by
 have q:=J.ty;obtain⟨o,m,p,j,C,_,B,h1,h2⟩:=J;unfold eqIsQuiet;refine aI<|gq q iG.lookup ?_;show wpAny _ _ (isInstance (.ref a) (.type "tuple") >>= _) _ _ s;refine aI<|iy q gY ?_;dsimp[b7,bM,cY];refine aI<|gJ C B ?_;refine aI ?_;show wpAny _ _ (forIn (#[Value.ref p,.ref j]:Array af) _ _) _ _ s;rw[<- iS];refine fY _ (λrest r s'=>r.1=none/\s'=s/\∀v∈rest,∃c x,v=Value.ref c/\TK s.heap x c) _ ?_ ?_ _ _ ⟨rfl,rfl,λv hv=>by
  rcases bw.mp hv with e|hv
  ·exact⟨p,k.1,e,h1⟩
  ·exact⟨j,k.2,by simpa using hv,h2⟩⟩
 ·rintro v rest r s' ⟨f,rfl,d⟩;obtain⟨c,x,rfl,t⟩:=d v aJ;refine aI<|RM t ?_;dsimp[b7,bM,cY];exact aV ⟨rfl,rfl,λu g=>d u<|aO _ g⟩
 ·rintro⟨r1,r2⟩ s' ⟨f,rfl,_⟩;simp only at f;subst f;exact aV h
end
abbrev A2 (P:aj)(w:ah):HeapKind P w ny where
 is:=wU
 hash:=J5
 draws:=λk=>k.1.length+1+(k.2.length+1)+1
 room:=λA=>A.units+16<cLine
 inj:=λc f=>c.inj f
 keeps:=λx m j hs=>x.keeps m j hs
 pyHash:=λg d h=>Ml () d h
 eqBool:=λg c f h=>UQ g c f h
 quiet:=λd h=>Ii d h
section
variable {X:Cx}
def Az(J:X.A.units+1<cLine):SI X (λx y H Q=>∃a v,x=.ref a/\uM H a y (some v)/\Q v H):=by
 intro d f pins s σ H x y v u Q I rx ry h hs;obtain⟨a,z,rfl,g,q⟩:=h
 cases rx
 have m:=Hg I g;unfold subscriptTail;refine aI ?_;rw[getitemInPython_of_ne m.not_modules];refine aI<|gq m PySem.F.slot_dict_getitem.lookup ?_;have c:wpAny (model X.prog X.w) X.A (subscripted f false (.ref a) u) (λr j=>wpAny (model X.prog X.w) X.A (letTemporaryGo d (.ref a) r >>= λ_=>pure r) (EP X pins σ Q) X.xe j) X.xe s:=by
  rw[hs];exact wpAny_operating<|Nh J I g ry λB t p k=>aI<|wpAny_letTemporaryGo<|aV ⟨z,H,p,k,q⟩
 first
  | exact aV (aI c)
  | exact aI (aV<|aI c)
  | exact aI c
def Zi(J:X.A.units+1<cLine):pL X (compareOp .In) (λy x H Q=>∃a o,x=.ref a/\uM H a y o/\Q (.bl o.isSome) H):=by
 intro pins s σ H y x v u Q I ry rx h;obtain⟨a,o,rfl,g,q⟩:=h
 cases rx
 exact adk J I g ry λd c=>⟨.bl o.isSome,H,c,rfl,q⟩
def MB(J:X.A.units+1<cLine):pL X (compareOp .NotIn) (λy x H Q=>∃a o,x=.ref a/\uM H a y o/\Q (.bl<|!o.isSome) H):=by
 intro pins s σ H y x v u Q I ry rx h;obtain⟨a,o,rfl,g,q⟩:=h
 cases rx
 exact VY J I g ry λd c=>⟨.bl<|!o.isSome,H,c,rfl,q⟩
def set_dict(J:X.A.units+1<cLine):Ho X (λo i v H Q=>∃a H',o=.ref a/\FW H a i v H'/\Q H'):=by
 intro pins s σ H o i v m iv u Q I c d f h;obtain⟨a,H',rfl,g,q⟩:=h
 cases c
 exact MP J I g d f λk j=>⟨H',j,q⟩
abbrev aa5:V->List V->Hp->VK->Prop:=λx d H Q=>∃a b ks c y,x=.ref a/\d=[.ref b,y]/\H a=some (.dT c)/\H b=some (.tup<|ks.map kV)/\Q ((pU c ks).getD y) H
def Ua(J:X.A.units+1<cLine):MtM X "dict.get" aa5:=by
 intro pins s σ H x C v us Q I rx f h;obtain⟨a,b,ks,d,y,rfl,rfl,t,m,q⟩:=h
 cases rx
 cases f with
 | @cons _ D _ H_ r1 f=>
  cases f with
  | @cons _ k _ FA r2 f=>
   cases f
   cases r1
   obtain⟨z,B,xs,g,j⟩:=Qd I.hok t;refine ji bP j.typeIs fG (fj _ _ _) (gG (tupleKind<|kh X.prog X.w) a b B k) ⟨eB J,ks,xs,xP I.hok m,j,?_⟩;refine⟨(pU d ks).getD y,H,I.tok _,?_,q⟩;have c:=g.val ks
   cases e1:pU d ks with
   | none=>
    rw[e1]at c
    cases e2:(atKey xs ks).map (·.2)with
    | none=>exact r2
    | some p=>rw[e2]at c;exact c.elim
   | some F=>
    rw[e1]at c
    cases e2:(atKey xs ks).map (·.2)with
    | none=>rw[e2]at c;exact c.elim
    | some p=>rw[e2]at c;exact c
end
section
theorem kt_at{H:Hp}:∀{kvs:List<|List Key×V}{xs:List<|List Key×ak×af},KT H kvs xs->kvs.length=xs.length/\∀(i:Nat) (p:List Key×V),kvs[i]?=some p->∃y:List Key×ak×af,xs[i]?=some y/\p.1=y.1/\H y.2.1=some (.tup<|p.1.map kV)/\RelV p.2 y.2.2
 | [],[],_=>⟨rfl,λi p h=>by simp at h⟩
 | [],_::_,r=>nomatch r
 | _::_,[],r=>nomatch r
 | a::kvs,b::xs,.cons z r=>by
  obtain⟨l,q⟩:=kt_at r;refine⟨by simp[l],λi p h=>?_⟩
  cases i with
  | zero=>
   have:a=p:=by simpa using h
   subst this;exact⟨b,rfl,z⟩
  | succ i=>exact q i p<|by simpa using h
end
abbrev C0 (e:ak)(h:aq):Prop:=∃o c,h.get? e=some o/\o.data=.fields c/\c[2]?=some .none/\o.dict=none
structure Fly (l:List Env)(g:aq)(pn:bj)(H:Hp)(e:ak)(cls:af)(h:aq):Prop where
 ex:∃(B:aq) (a0:af),Heap.FlyingW B l e cls a0 h/\(∀a u,H a=some u->∃o,B.get? a=some o)/\(∀b o,g.get? b=some o->b∉frs l->∃o',B.get? b=some o')/\(∀p∈pn,∃o',B.get? p.1=some o')/\C0 e h
structure Made (X:Cx)(H:Hp)(e:ak)(cls:af)(g:aq)(h:aq):Prop where
 ex:∃(g':aq) (vs:ar),Heap.MadeExcOf g' h e cls vs/\g'.FunFrames X.base X.stack/\(∀a u,H a=some u->∃o,g'.get? a=some o)/\(∀b o,g.get? b=some o->∃o',g'.get? b=some o')/\(∀p∈X.pn,∃o',g'.get? p.1=some o')
abbrev Zq (X:Cx)(H:Hp)(e:ak)(cls:af)(s':aA):Prop:=Made X H e cls X.s₀.heap s'.heap\/Fly X.stack X.s₀.heap X.pn H e cls s'.heap
section
abbrev EX (X:Cx):XK:=λcls _ H'=>X.ex=[]/\∀pins c s' e,Inv X pins c H' s'->Zq X H' e cls s'->X.xe (.ref e) s'
end
abbrev xu:HO:=.ext λ_=>True
structure XO (C:ak)(o:Obj):Prop where
 cls:o.cls=.ref C
 dict:o.dict=none
 ctx:∃vs,o.data=.fields vs/\vs[2]?=some .none
abbrev mroIn (K:au)(C:ak):Option (ar):=match K.lookup C with
 | some ⟨.type "type",_,.cls cd,sl⟩=>(match cd.mro,sl.toList with
  | .ref C'::bm,[_,_,_,_,some<|.builtin _,_]=>if C'=C/\cd.hasDel=false then some bm else none
  | _,_=>none)
 | _=>none
open PySem.W in
structure XCls (K:au)(C:ak):Prop where
 ga:findIn K (.ref C) "__getattribute__" = some (some<|.builtin "BaseException.__getattribute__")
 gt:findIn K (.ref C) "__getattr__" = some none
 fc:findObj K C none "__class__" = some (.bind (.builtin "getset_descriptor.__get__")<|.builtin "object.__class__")
 ob:PySem.W.mroIn K C (.type "object")=some true
 bs:subIn K (.ref C) (.type "BaseException")=some true
end L2
namespace L2
open PySem PySem.Spec PyProof.Rows PySem.SeqAt
def Bp{prog:aj}{w:ah}{A:az}{E:af->aA->Prop}{β:Type}{b:Nat}{f:Nat->β->Sem (ForInStep β)}(I:Nat->β->aA->Prop)(Q:β->aA->Prop)
  (turn:∀i c s,i<b->I i c s->wpAny (model prog w) A (f i c) (λr s'=>match r with | .done c'=>Q c' s' | .yield c'=>I (i+1) c' s') E s)
  (fin:∀c s,I b c s->Q c s) {c:β} {s:aA} (h:I 0 c s):wpAny (model prog w) A (forIn [0:b] c f) Q E s:=by
 rw[Std.Legacy.Range.forIn_eq_forIn_range'];dsimp[Std.Legacy.Range.size,Nat.sub_zero,Nat.add_sub_cancel,Nat.div_one];refine fY f (λl c s=>∃i,i<=b/\l=List.range' i (b-i) 1/\I i c s) Q ?_ ?_ _ _ ⟨0,bW _,rfl,h⟩
 ·rintro x rest c s ⟨i,j,d,k⟩;have g:i<b:=by
   rcases gP i b with h'|h'
   ·exact h'
   ·rw[show b-i=0 by lia]at d;simp at d
  obtain⟨n,hn⟩:∃n,b-i=n+1:=⟨b-i-1,()⟩;rw[hn,ir]at d;obtain⟨rfl,rfl⟩:=List.cons.inj d;refine gv (turn x c s g k) (λr s' h'=>?_) λ_ _ q=>q
  cases r with
  | done c'=>exact h'
  | yield c'=>exact⟨x+1,g,by congr 1;lia,h'⟩
 ·rintro c s ⟨i,j,d,k⟩;have:b-i=0:=by
   rcases Nat.eq_zero_or_pos (b-i)with z|z
   ·exact z
   ·obtain⟨n,hn⟩:∃n,b-i=n+1:=⟨b-i-1,()⟩;rw[hn,ir]at d;cases d
  have:i=b:=()
  subst this;exact fin c s k
def B8(l:ak)(J:Array af)(n:Nat)(dd:Option ak)(sl:Array<|bb)(x:af)(e:af->Bool)(j:Nat)(hj:j<J.size)(U:e J[j]=true)(Z:∀m (hm:m<J.size),m<j->e J[m]=false) :
  Meets (Builtin.«tuple.index» ⟨[.ref l,x],[]⟩)
   (λA R s=>s.heap.get? l=some { cls:=.type "tuple",dict:=dd,data:=.seq J n,slots:=sl }/\(∀y,y∈J->EqAt A.in1 s y x (e y))/\R (.ok<|.ret<|.int j s.toks) { s with toks:=s.toks+1 }):=
 .of_wp λprog w A R s h=>by
  obtain⟨C,g,d,k,B⟩:=s;obtain⟨t,p,h⟩:=h
  wp_walk using wpAny_loadPart' t,Bp (λi b s'=>b.1=none/\s'=⟨C,g,d,k,B⟩/\i<=j) _
  case turn=>
   rintro i b s' G ⟨hb,rfl,f⟩;have c:i<J.size:=()
   rw[dG c];refine aI (p _ (Array.getElem_mem c) prog w _ _ ?_)
   rcases gP i j with q|q
   ·rw[Z i c q]
    wp_walk
    exact⟨rfl,rfl,q⟩
   ·have:i=j:=()
    subst this;rw[U]
    wp_walk
    exact⟨_,rfl,h⟩
  case fin=>
   rintro⟨F,D⟩ s' ⟨hb,rfl,f⟩
   lia
  case h=>exact⟨rfl,rfl,bW _⟩
abbrev XT (K:au)(tup:Bool):V->List V->Hp->VK->Prop:=λx d H Q=>∃(p:ak) (y:V) (xs:List V) (k:Nat) (z:V),x=.ref p/\d=[y]/\(if tup=true then nX K H p xs else qf K H p xs)/\u9 y=true/\xs.all u9=true/\xs[k]?=some z/\Il z y=true/\(∀(m:Nat) (c:V),m<k->xs[m]?=some c->Il c y=false)/\Q (.int k) H
section
variable {X:Cx}
def Oa{xs:List V}{its:ar}{k:Nat}(r:Vals xs its)(f:xs.all u9=true)(J:xs[k]?=some z)(Z:Il z y=true)(U:∀m z',m<k->xs[m]?=some z'->Il z' y=false) :
  ∃hj:k<its.toArray.size,eqU y its.toArray[k]=true/\∀m (hm:m<its.toArray.size),m<k->eqU y its.toArray[m]=false:=by
 have fl:∀m z',xs[m]?=some z'->u9 z'=true:=λm z' h=>di.mp f z'<|aY h;obtain⟨u,p,t⟩:=r.get J;obtain⟨hj,e⟩:=aG.mp p;refine⟨by simpa using hj,?_,λm hm j=>?_⟩
 ·rw[List.getElem_toArray,e,IS t<|fl k z J];exact Z
 ·have c:m<xs.length:=by have:=(aG.mp J).1;lia
  obtain⟨B,g,d⟩:=r.get<|aH c;obtain⟨_,q⟩:=aG.mp g;rw[List.getElem_toArray,q,IS d<|fl m _<|aH c];exact U m _ j<|aH c
def VF:Fy X "tuple.index" (XT X.K true):=by
 intro pins s σ H x P v us Q I rx G ⟨p,y,xs,k,z,m,c,J,L,fs,C,N,f,q⟩;subst m c
 cases rx
 obtain⟨u,rfl,B⟩:=G.one;obtain⟨d,r,pl,D⟩:=I.tuple J;obtain⟨M,h1,h2⟩:=Oa r fs C N f;obtain⟨⟨cls,O,data,t⟩,j,hc,n,g⟩:=id pl;simp only at hc g;subst hc g;exact gz F.slot_tuple_index ⟨_,j,rfl⟩ F.entry_tuple_index (F.args_tuple_index_2 _ _) (B8 p d.toArray n O t u (eqU y) k M h1 h2) ⟨j,λw hw=>Be B L r fs w<|by simpa using hw,.int k,H,I.tok _,⟨_,rfl⟩,q⟩
def TJ:Fy X "list.index" (XT X.K false):=by
 intro pins s σ H x T v us Q I rx J ⟨p,y,xs,k,z,t,c,L,M,fs,g,O,f,q⟩;subst t c
 cases rx
 obtain⟨u,rfl,D⟩:=J.one;obtain⟨d,r,pl,G⟩:=I.list L;obtain⟨N,h1,h2⟩:=Oa r fs g O f;obtain⟨⟨cls,P,data,B⟩,m,hc,n,j⟩:=id pl.isList;simp only at hc j;subst hc j;have:=xJ;have C:k<xs.length:=(aG.mp g).1;exact gz F.slot_list_index ⟨_,m,rfl⟩ F.entry_list_index (F.args_list_index_2 _ _) (SeqAt.list_indexAt p d.toArray n P B u (eqU y) k N () h1 h2) ⟨m,λw hw=>Be D M r fs w<|by simpa using hw,.int k,H,I.tok _,⟨_,rfl⟩,q⟩
abbrev adR (K:au)(to:TE)(t:TA):TE:=λσ H Q=>to σ H λx H1=>∃(b:Bool) (p:ak) (xs:List V),x=.ref p/\(if b=true then nX K H1 p xs else qf K H1 p xs)/\t σ H1 λc H2=>XT K b x c H2 Q
def Yq{e:aC}{to:TE}{t:TA}{apos cpos:Pos}(ho:PE X o to)(ha:PA X (e::es) t)
  (Z:attributeBase o "index" X.env (eval o X.env)=eval o X.env<|>ε)
  (hfew:(((backTo cpos<|starEach (e::es) X.env).all (λx=>!x.1) && (backToKw cpos<|keywordEach [] X.env).all (λx=>x.1.isSome)
   && decide ((e::es).length+([]:List Keyword).length+(if ([]:List Keyword).isEmpty then 0 else 1)<30))=true)<|>ε)
  (hline:(apos.endLine == cpos.line)=true<|>ε) (hs:starEach (e::es) X.env=(false,eval e X.env)::starEach es X.env<|>ε) (U:((backTo cpos<|starEach es X.env).any (·.1)=false)<|>ε) :
  PE X (.Call (.Attribute o "index" apos) (e::es) [] cpos) (adR X.K to t):=by
 kt_k;refine gI Z hfew hline rfl<|nA (ho pins s σ H _ I h) λv C ⟨x,H1,I1,r1,b,p,xs,J,G,D⟩=>?_;subst J
 cases r1
 cases b with
 | true=>
  obtain⟨d,c,q,B⟩:=I1.ZU G;refine⟨"tuple", "tuple.index",PySem.F.plainAttrs_tuple,PySem.F.slot_tuple_index,PySem.F.type_tuple_index,⟨d,c,q⟩,λa e=>by cases e;exact⟨d,c,B⟩,?_⟩;have f:=ha cpos pins C σ H1 _ I1 D;rw[hs]at f ⊢;refine fC (by show(false || (backTo cpos<|starEach es X.env).any (·.1))=false;rw[U]<;>rfl)<|fQ ?_;exact nA f λus m ⟨k,H2,g,r2,j⟩=>VF pins m σ H2 (.ref p) k _ us Q g rfl r2 j
 | false=>
  obtain⟨L,r,⟨d,n,c,q,B,M⟩,N⟩:=I1.list G;refine⟨"list", "list.index",PySem.F.plainAttrs_list,PySem.F.slot_list_index,PySem.F.type_list_index,⟨d,c,q⟩,λa e=>by cases e;exact⟨d,c,B⟩,?_⟩;have f:=ha cpos pins C σ H1 _ I1 D;rw[hs]at f ⊢;refine fC (by show(false || (backTo cpos<|starEach es X.env).any (·.1))=false;rw[U]<;>rfl)<|fQ ?_;exact nA f λus m ⟨k,H2,g,r2,j⟩=>TJ pins m σ H2 (.ref p) k _ us Q g rfl r2 j
end
end L2
namespace L2
open PySem PySem.Spec PyProof.Rows
abbrev Y7 (K:au)(a:ak):It:=
 ⟨λi H=>∃xs x,qf K H a xs/\xs[i]?=some x,λi H x H'=>∃T,H T=none/\x=.ref T/\∀xs y,qf K H a xs->xs[i]?=some y->H'=upd H T (.tup [.int i,y]),λi H=>∃xs,qf K H a xs/\xs.length=i⟩
def IF{P:aj}{w:ah}{K:au}(a e it:ak)(hei:e≠it):Turn P w K (.Tuple elts x1 tpos) (Y7 K a) [e,it] e (λi h=>(∃old,IsEnum h e it i old)/\h.IsListIter it a i) where
 mem:=by simp
 obj:=λi h st b hb=>by
  kl_no;have B:b=e\/b=it:=by simpa using hb
  rcases B with rfl|rfl
  ·exact⟨_,st1,λv z=>by cases z⟩
  ·obtain⟨o,e,c,d⟩:=st2;exact⟨o,e,λv z=>by rw[d]at z;cases z⟩
 keep:=λi h h' st k=>by
  kl_no;exact⟨⟨old,k e (by simp) _ st1⟩,st2.at λo j=>k it (by simp) o j⟩
 item:=by
  x_go;subst hP hw hK;kl_no;obtain⟨xs,x,hq,W⟩:=hg;obtain⟨t,rv,p,hz⟩:=I.list hq;obtain⟨u,hu,ru⟩:=rv.get W;have F:a≠it:=by
   obtain⟨o,j,D,_⟩:=p.isList;obtain⟨o2,L,C,_⟩:=st2;intro z;rw[z,L]at j
   cases j
   rw[D]at C;exact absurd (fV C) ⋯
  have hea:e≠a:=by
   obtain⟨o,j,D,_⟩:=p.isList;intro z;rw[<- z,st1]at j
   cases j
   exact absurd (fV D) ⋯
  have hlt:i<t.toArray.size:=by
   rw[bf];exact(aG.mp hu).1
  refine wpAny_pyNext_enum_itemD (Draws.list (A:=X.A.in1) (I.ok.hd hc) it a F t.toArray) st1 ⟨st2,p.isList⟩ hlt hei (by simp[hei,hea]) λx' h' tk hP O hst hT hsz hk=>?_;have ex:x'=u:=by
   have:t.toArray[i]?=some u:=by simpa using hu
   rw[this]at hP;exact(a_ hP).symm
  subst ex;refine⟨_,rfl,wpAny_letOwnedTupleGo_enum O λh2 he2 M=>?_⟩;have N:H s.heap.objs.size=none:=I.hok.fresh<|aP _;have U:e<s.heap.objs.size:=bh st1;have hil:it<s.heap.objs.size:=by obtain⟨o,j,_⟩:=st2;exact bh j
  have T:∀b o,b≠e->b≠it->s.heap.get? b=some o->h2.get? b=some o:=λb o h1 h3 q=>M.extBut b o h1<|hk b o h1 h3 q;have hT2:h2.get? s.heap.objs.size=some { cls:=.type "tuple",data:=.seq #[.int i tk,x']}:=M.extBut _ _ (iM U) hT;obtain⟨e0,e1,e2,e3,e4,e5⟩:=hf e (by simp);obtain⟨Y,V,i2,i3,i4,i5⟩:=hf it (by simp);have nT:∀b o,s.heap.get? b=some o->b≠s.heap.objs.size:=λb o q=>bD<|bh q;have g:∀c v,H c=some v->c≠e/\c≠it:=λc v q=>⟨(λz=>by rw[z,e0]at q;cases q),(λz=>by rw[z,Y]at q;cases q)⟩;have I2:Inv X pins σ (upd H s.heap.objs.size<|.tup [.int i,x]) { s with heap:=h2,toks:=tk+1 }:=by
   refine I.step (g':=s.gens) (d':=s.drawn) (ch:=[e,it]) (λb hb=>?_) (λb o _ _ f q _=>?_) (λb o _ _ f q _=>?_) (λb o f q n=>?_) (λb o f q=>?_) (λb ys q=>?_) (λb o Z q=>?_) (λb ps q=>?_) (λm hm=>?_) (λb Z q=>?_) I.bare
   ·have B:b=e\/b=it:=by simpa using hb
    rcases B with rfl|rfl
    ·exact⟨e3,e1,e4,e5⟩
    ·exact⟨i3,V,i4,i5⟩
   ·exact T b o (λz=>f<|by simp[z]) (λz=>f<|by simp[z]) q
   ·exact⟨o.slots,T b o (λz=>f<|by simp[z]) (λz=>f<|by simp[z]) q⟩
   ·rw[jK<|nT b o q];exact n
   ·exact⟨o,T b o (λz=>f<|by simp[z]) (λz=>f<|by simp[z]) q⟩
   ·rw[jK<|jR q N];exact q
   ·rw[jK<|jR q N];exact q
   ·exact⟨#[],by rw[jK<|jR q N,q];simp⟩
   ·obtain⟨o,es,ep,j,r⟩:=hm;exact⟨o,es,ep,T _ o (Ne.symm e1) (Ne.symm V) j,r⟩
   ·by_cases z:b=s.heap.objs.size
    ·subst z;rw[j6]at q
     cases q
     exact⟨by show 2<=sizeLine;decide,[.int i tk,x'],.cons ⟨tk,rfl⟩<|.cons ru .nil,⟨_,hT2,rfl,rfl,0,rfl⟩⟩
    ·rw[jK z]at q;refine(I.hok b Z q).stay (λc v hc J=>T c v ?_ ?_ J) (λc J=>?_) λc ys J=>?_
     ·rcases hc with z|z
      ·rw[z];exact(g b Z q).1
      ·exact(g c _ z).1
     ·rcases hc with z|z
      ·rw[z];exact(g b Z q).2
      ·exact(g c _ z).2
     ·rw[jK<|jR J N];exact J
     ·rw[jK<|jR J N];exact J
  refine⟨.ref s.heap.objs.size,_,I2,rfl,⟨s.heap.objs.size,N,rfl,λys y hy G=>?_⟩,⟨⟨x',by simpa using he2⟩,?_⟩,λb hb=>?_⟩
  ·rw[I.Gz hy hq]at G;rw[W]at G
   cases G
   rfl
  ·exact hst.1.at λo j=>M.extBut it o (Ne.symm hei) j
  ·have B:b=e\/b=it:=by simpa using hb
   rcases B with rfl|rfl
   ·rw[jK<|bD U];exact e0
   ·rw[jK<|bD hil];exact Y
 done:=by
  x_go;subst hP hw hK;kl_no;obtain⟨xs,hq,W⟩:=hg;obtain⟨t,rv,p,hz⟩:=I.list hq;obtain⟨Y,V,i2,i3,i4,i5⟩:=hf it (by simp);have F:a≠it:=by
   obtain⟨o,j,D,_⟩:=p.isList;obtain⟨o2,L,C,_⟩:=st2;intro z;rw[z,L]at j
   cases j
   rw[D]at C;exact absurd (fV C) ⋯
  have hl:=rv.length;have ei:t.toArray.size=i:=by rw[bf,<- hl,W]
  exact wpAny_pyNext_enum_endD (Draws.list (A:=X.A.in1) (I.ok.hd hc) it a F t.toArray) st1 ⟨by rw[ei];exact st2,p.isList⟩ λh' eb=>⟨rfl,I.turned (t':=s.toks) (λb o hb q=>eb b o hb q) Y V i3 i4 i5⟩
 self:=λ_ _ _ _ _ st h=>let⟨⟨_,st1⟩,_⟩:=st;gK st1 h
section
variable {X:Cx}
abbrev W3 (K:au)(ta:TA):TI:=λσ H R=>ta σ H λc H1=>∃a xs,c=[.ref a]/\qf K H1 a xs/\R (Y7 K a) H1
def Sq{a:aC}{ta:TA}{p:Pos}(hg:Gl X "enumerate")(U:X.mg "enumerate" = none)(ha:PA X [a] ta)(hs:starEach [a] X.env=[(false,eval a X.env)]<|>ε):PI X (.Tuple elts x1 tpos) (.Call (.Name "enumerate" p) [a] [] pos) (W3 X.K ta):=by
 intro pins s σ H R I h;refine Call_<|xM I hg U yL<|dw (nA (ha pos pins s σ H _ I h) λus c ⟨J,H1,I1,r1,D⟩=>?_) hs rfl;obtain⟨t,xs,e,F,q⟩:=D;subst e;obtain⟨u,rfl,rx⟩:=vals1 r1
 cases rx
 obtain⟨k,L,G,M⟩:=I1.list F;refine call_enumerate_list G.isList λh' j g B m=>?_;have C:Inv X pins σ H1 { c with heap:=h' }:=I1.kept (t':=c.toks) m;have d:c.heap.objs.size+1≠c.heap.objs.size:=()
 refine gK j ⟨_,[_,c.heap.objs.size],_,_,H1,rfl,C,IF t _ c.heap.objs.size d,⟨⟨.none,j⟩,g⟩,λb hb=>?_,q⟩;have f:b=c.heap.objs.size+1\/b=c.heap.objs.size:=by simpa using hb
 rcases f with rfl|rfl
 ·exact I1.Co (jn _) (I1.hok.fresh<|jn _)
 ·f_are
end
def Rm{X:Cx}{i:Nat}{Z:Pos}{iter:aC}{N:am}{wi:TI}{g:TG}{tc:TT}{te:TE}
  (hN:X.N.Nodup) (hi':X.N[i]?=some y) (hx:Loc X.env.scope y) (hc:X.calm=true) (S:CpScope X scope N cap) (hi:PI X tg iter wi)
  (hg:∀C s₀ H₀ ex,PG (p9 X scope N C s₀ H₀ ex) tg g) (ht:∀C s₀ H₀ ex,X9 (p9 X scope N C s₀ H₀ ex) ifs tc) (he:∀C s₀ H₀ ex,PE (p9 X scope N C s₀ H₀ ex) elt te)
  (hsw:swapsWith (.ListComp elt [⟨tg,iter,ifs,0⟩] scope pos) (some<|.Name y py) Z.line X.env=pure true)
  (hf:X.fn y=true\/X.env.scope.names.lookup y=some .local) (hs:(∀x,foldedSetIterable iter X.env x=pure x)<|>ζ) :
  PS X (.Assign [.Name y py] (.ListComp elt [⟨tg,iter,ifs,0⟩] scope pos) Z) (Ue (tLC cap wi g tc te)<|QK i):=by
 intro pins s σ H D I h;rw[exec_Assign_Name_used _ _ _ _ hsw];refine aI (wpAny_standAt<|aI ?_)
 skip
 refine aI<|gv (JY (ok:=λY=>Y.calm=true) (Q':=λ_ s'=>SP X pins D .next s') S (λ_ _ _ _ _=>hc) (PI.g hi) hg ht he hs pins s σ H _ I h ?_) (λ_ s' P=>aV<|aV P) λ_ _ e=>e;intro B C K M m hn j inv q v;have T:=inv B.heap<|Heap.SameBut.refl _ _;obtain⟨F,f⟩:∃o,B.heap.get? C=some o/\∀v,o.data≠.cell v:=by
  obtain⟨o,es,ep,e,d,_⟩:=hn;exact⟨o,e,λv z=>by rw[d]at z;cases z⟩
 have O:=T.pinned (fp:=[C]) (λb hb=>by rw[aW]at hb;rw[hb];exact j) (λb hb=>by rw[aW]at hb;rw[hb];exact⟨F,f⟩)
 skip
 refine nA (KC hN hi' hx hf _ B σ M (.ref K) (.ref K) _ O rfl q) λ_ V h9=>?_;obtain⟨t,G,k,U⟩:=h9;have L:=k.pin (C,F)<|bV _<|bV _<|rK (aW.mpr rfl) f.1;refine⟨m,hn.at' λo e=>by rw[f.1]at e;cases e;exact L.1,λh' p=>?_⟩;have J:∀c v,G c=some v->c≠C:=λc v e z=>by rw[z,L.2.1]at e;cases e
 refine⟨t,G,?_,U⟩;refine k.vX.Wm (ch:=[C]) rfl ⟨λb o e n hb hx=>?_,λb o e n hb hx=>?_,λb o e n hx=>n,λb o e hx=>?_,λ_ _ e=>e,λ_ _ _ e=>e,λ_ _ e=>⟨#[],by rw[Array.append_empty];exact e⟩⟩ ?_ k.bare ?_
 ·exact p.extBut b o (by simpa using hx) e
 ·exact⟨o.slots,p.extBut b o (by simpa using hx) e⟩
 ·exact⟨o,p.extBut b o (by simpa using hx) e⟩
 ·intro b o e;refine(k.hok b o e).stay (λc v hc q=>p.extBut c v ?_ q) (λ_ q=>q) λ_ _ q=>q
  rcases hc with z|z
  ·rw[z];exact J b o e
  ·exact J c _ z
 ·intro b hb;rw[aW]at hb;rw[hb];exact⟨j.2.2.2.1,j.2.1,j.2.2.2.2.1,j.2.2.2.2.2⟩
end L2
namespace Sx
open PySem PyProof.Rows
structure Ord where
 lt:Nat->Nat->Bool
 Ry:∀i,lt i i=false
 tr:∀i j k,lt i j=true->lt j k=true->lt i k=true
 neg:∀i j k,lt i k=true->lt i j=true\/lt j k=true
abbrev P (o:Ord)(i j:Nat):Prop:=o.lt i j=true\/(o.lt j i=false/\i<j)
def Ord.adM(o:Ord)(h:o.lt i j=true):o.lt j i=false:=by
 cases e:o.lt j i with
 | false=>rfl
 | true=>have:=o.tr _ _ _ h e;rw[o.Ry]at this;cases this
def P.Ry(h:P o i i):False:=by
 rcases h with h|⟨_,h⟩
 ·rw[o.Ry]at h;cases h
 ·lia
def P.trans{k:Nat}(a:P o i j)(b:P o j k):P o i k:=by
 rcases a with a|⟨a,d⟩
 ·rcases b with b|⟨b,c⟩
  ·exact .inl (o.tr _ _ _ a b)
  ·rcases o.neg i k j a with z|z
   ·exact .inl z
   ·rw[b]at z;cases z
 ·rcases b with b|⟨b,c⟩
  ·rcases o.neg j i k b with z|z
   ·rw[a]at z;cases z
   ·exact .inl z
  ·refine .inr ⟨?_,()⟩
   cases e:o.lt k i with
   | false=>rfl
   | true=>
    rcases o.neg k j i e with z|z
    ·rw[b]at z;cases z
    ·rw[a]at z;cases z
def P.of_lt{o:Ord}(h:o.lt i j=true):P o i j:=.inl h
def P.Kh{o:Ord}(h:o.lt j i=false)(J:i<j):P o i j:=.inr ⟨h,J⟩
def P.ge{o:Ord}(h:P o i j):o.lt j i=false:=by
 rcases h with h|⟨h,_⟩
 ·exact o.adM h
 ·exact h
abbrev So (o:Ord)(g:Nat->Nat)(a b:Nat):Prop:=∀i j,a<=i->i<j->j<b->P o (g i) (g j)
abbrev Cl (g:Nat->Nat)(a b:Nat):Prop:=∀i,a<=i->i<b->a<=g i/\g i<b
abbrev rev (g:Nat->Nat)(i j:Nat):Nat->Nat:=λk=>if i<=k/\k<j then g (i+j-1-k)else g k
abbrev mv (g:Nat->Nat)(src J:Nat):Nat->Nat:=λk=>if k=J then g src else if J<k/\k<=src then g (k-1)else g k
def Bo{g:Nat->Nat}{k:Nat}(h:i<=k)(h2:k<j):rev g i j k=g (i+j-1-k):=aR ⟨h,h2⟩
def qO{g:Nat->Nat}{k:Nat}(h:k<i\/j<=k):rev g i j k=g k:=aN ()
def Qe{g:Nat->Nat}{d:Nat}:mv g s d d=g s:=aR rfl
def FN{g:Nat->Nat}{d k:Nat}(h:d<k)(h2:k<=s):mv g s d k=g (k-1):=by
 unfold mv;rw[aN (),aR ⟨h,h2⟩]
def Fl{g:Nat->Nat}{d k:Nat}(J:d<=s)(h:k<d\/s<k):mv g s d k=g k:=by
 unfold mv;rw[aN (),aN ()]
section
variable {prog:aj}{w:ah}{A:az}{E:af->aA->Prop}{s:aA}{o:Ord}{N:Nat}{f:Nat->Keyed}{kd:SortKind}{g:Nat->Nat}{p:Array (Nat×Nat×Nat)}{st:SortSt}
abbrev SQ (prog:aj)(w:ah)(A:az)(s:aA)(o:Ord)(N:Nat)(f:Nat->Keyed)(kd:SortKind):Prop:=
 ∀i j,i<N->j<N->∀(c:af->aA->Prop) (Q:Bool->aA->Prop),Q (o.lt i j) s->wpAny (model prog w) A (keyLt' kd (f i).1 (f j).1) Q c s
structure Sg (N:Nat)(f:Nat->Keyed)(kd:SortKind)(g:Nat->Nat)(p:Array (Nat×Nat×Nat))(st:SortSt):Prop where
 size:(arrOf st).size=N
 get:∀i,i<N->(arrOf st)[i]?=some (f<|g i)
 lt:∀i,i<N->g i<N
 kind:kindOf st=kd
 failed:failedOf st=none
 pend:pendingOf st=p
def Xn(C:SQ prog w A s o N f kd)(J:kindOf st=kd)(hi:i<N)(U:j<N){Q:bd->SortSt->Prop}(q:Q (some<|o.lt i j) st):wpS (model prog w) A E s (lt' (f i)<|f j) Q st:=by
 rw[lt'_eq];refine cD<|wpS_get ?_;rw[J];refine cD<|wpS_lift<|wpAny_attempt<|C i j hi U _ _ ⟨rfl,?_⟩;exact dm q
def GO{xs:Array Keyed}{i:Nat}{x:Keyed}(e:xs[i]?=some x){Q:Keyed->SortSt->Prop}(q:Q x st):wpS (model prog w) A E s (elem' xs i) Q st:=by
 rw[elem'_eq,e];exact dm q
def yp(C:SQ prog w A s o N f kd)(h:Sg N f kd g p st)(hi:i<N)(J:j<N){Q:bd->SortSt->Prop}(q:Q (some<|o.lt (g i)<|g j) st):wpS (model prog w) A E s (ltAt' i j) Q st:=by
 rw[ltAt'_eq];refine cD (wpS_get ?_)
 skip
 exact cD<|GO (h.get i hi)<|cD<|GO (h.get j J)<|Xn C h.kind (h.lt i hi) (h.lt j J) q
def Sg.arr(h:Sg N f kd g p st){xs:Array Keyed}{g':Nat->Nat}(hs:xs.size=N)(hg:∀i,i<N->xs[i]?=some (f<|g' i))(J:∀i,i<N->g' i<N):Sg N f kd g' p (setArr st xs):=⟨hs,hg,J,h.kind,h.failed,h.pend⟩
def Ai(h:Sg N f kd g p st)(J:j<=N){Q:Unit->SortSt->Prop}(q:∀st',Sg N f kd (rev g i j) p st'->Q Unit.unit st'):wpS (model prog w) A E s (reverseSlice' i j) Q st:=by
 rw[reverseSlice'_eq];refine wpS_modify (q _<|h.arr (by rw[mirror_size];exact h.size) (λk d=>?_) λk d=>?_)
 ·rw[getElem?_mirror_all<|by rw[h.size];exact J];unfold rev;by_cases c:i<=k/\k<j
  ·rw[aR c,aR c];exact h.get _ (by omega)
  ·rw[aN c,aN c];exact h.get _ d
 ·unfold rev;by_cases c:i<=k/\k<j
  ·rw[aR c];exact h.lt _ (by omega)
  ·rw[aN c];exact h.lt _ d
def Y3(h:Sg N f kd g p st){a b:Nat}(ha:a<N)(hb:b<=a){Q:Unit->SortSt->Prop}(q:∀st',Sg N f kd (mv g a b) p st'->Q Unit.unit st'):wpS (model prog w) A E s (moveDown' a b) Q st:=by
 rw[moveDown'_eq];refine wpS_modify (q _<|h.arr (by rw[bubble_size];exact h.size) (λk d=>?_) λk d=>?_)
 ·rw[getElem?_bubble (by rw[h.size];exact ha) _ (),show a-(a-b)=b by lia];unfold mv;by_cases c:k=b
  ·rw[aR c,aR c];exact h.get _ ha
  ·rw[aN c,aN c];by_cases c2:b<k/\k<=a
   ·rw[aR c2,aR c2];exact h.get _ ()
   ·rw[aN c2,aN c2];exact h.get _ d
 ·unfold mv;by_cases c:k=b
  ·rw[aR c];exact h.lt _ ha
  ·rw[aN c];by_cases c2:b<k/\k<=a
   ·rw[aR c2];exact h.lt _ ()
   ·rw[aN c2];exact h.lt _ d
structure Rn (o:Ord)(g0 g:Nat->Nat)(a b:Nat):Prop where
 out:∀i,i<a\/b<=i->g i=g0 i
 cl:Cl g a b
 so:So o g a b
def Xm{g0:Nat->Nat}{lo k l:Nat}(R:Rn o g0 g lo<|lo+k)(J:g (lo+k)=lo+k)(U:l<=k)(h1:∀i,i<l->P o (g<|lo+i) (lo+k))(h2:∀i,l<=i->i<k->P o (lo+k) (g<|lo+i)):Rn o g0 (mv g (lo+k)<|lo+l) lo (lo+(k+1)) where
 out i hi:=by rw[Fl () ()];exact R.out i ()
 cl i a b:=by
  by_cases c:i=lo+l
  ·subst c;rw[Qe,J];lia
  ·by_cases c2:lo+l<i
   ·rw[FN c2 ()];have:=R.cl (i-1) () ()
    lia
   ·rw[Fl () ()];have:=R.cl i () ()
    lia
 so i j a b d:=by
  by_cases c:i=lo+l
  ·subst c;rw[Qe,FN b (),J];have:=h2 (j-1-lo) () ()
   rwa [show lo+(j-1-lo)=j-1 by lia]at this
  ·by_cases c2:lo+l<i
   ·rw[FN c2 (),FN () ()];exact R.so _ _ () () ()
   ·rw[Fl (k:=i) () ()];by_cases c3:j=lo+l
    ·subst c3;rw[Qe,J];have:=h1 (i-lo) ()
     rwa [show lo+(i-lo)=i by lia]at this
    ·by_cases c4:lo+l<j
     ·rw[FN c4 ()];exact R.so _ _ () () ()
     ·rw[Fl () ()];exact R.so _ _ () () ()
def Yt(C:SQ prog w A s o N f kd){g0:Nat->Nat}{lo n ok:Nat}(h:Sg N f kd g p st)(hn:lo+n<=N)(h1:1<=ok)(hok:ok<=n)(R:Rn o g0 g lo<|lo+ok)(Z:∀i,lo+ok<=i->i<lo+n->g0 i=i)
  {Q:Bool->SortSt->Prop} (q:∀g' st',Sg N f kd g' p st'->Rn o g0 g' lo (lo+n)->Q true st'):wpS (model prog w) A E s (binarySort' lo n ok) Q st:=by
 rw[binarySort'_eq,show max ok 1=ok by lia];refine cD (wpS_mono (gQ (I:=λk c st'=>c=(none,Unit.unit)/\∃g',Sg N f kd g' p st'/\Rn o g0 g' lo (lo+min k n))
  (Q:=λc st'=>c=(none,Unit.unit)/\∃g',Sg N f kd g' p st'/\Rn o g0 g' lo (lo+n)) ?step ?fin ?init) ?post)
 case post=>
  rintro c st' ⟨rfl,g',h',j⟩;exact dm<|q g' st' h' j
 case init=>exact⟨rfl,g,h,by rw[show min ok n=ok by lia];exact R⟩
 case fin=>
  rintro c st' ⟨hc,g',h',j⟩;exact⟨hc,g',h',by rwa [show min (max ok n) n=n by lia]at j⟩
 case step=>
  rintro k c st' O J ⟨rfl,g',h',j⟩;rw[show min k n=k by lia]at j;have gk:g' (lo+k)=lo+k:=by rw[j.out _ ()];exact Z _ () ()
  refine cD (wpS_mono (gQ (I:=λx c B=>B=st'/\∃u v,c=(none,u,v)/\u<=v/\v<=k/\v-u<=k-x /\
    (∀i,i<u->P o (g'<|lo+i) (lo+k))/\(∀i,v<=i->i<k->P o (lo+k) (g'<|lo+i)))
   (Q:=λc B=>B=st'/\∃u v,c=(none,u,v)/\u<=k /\
    (∀i,i<u->P o (g'<|lo+i) (lo+k))/\(∀i,u<=i->i<k->P o (lo+k) (g'<|lo+i))) ?istep ?ifin ?iinit) ?ipost)
  case iinit=>exact⟨rfl,0,k,rfl,(),(),(),λi V=>(),λi h1 h2=>()⟩
  case ifin=>
   rintro c B ⟨rfl,u,v,rfl,F,t,L,low,top⟩;have:u=v:=()
   subst this;exact⟨rfl,u,u,rfl,t,low,top⟩
  case istep=>
   rintro x c B _ U ⟨rfl,u,v,rfl,F,t,L,low,top⟩;dsimp only;by_cases D:u>=v
   ·rw[aR D];have:u=v:=()
    subst this;exact dm ⟨rfl,u,u,rfl,t,low,top⟩
   ·rw[aN D];have M:(u+v) / 2<k:=()
    have T:=j.cl (lo+(u+v) / 2) () ();refine cD<|yp C h' () () ?_;rw[gk]
    cases d:o.lt (lo+k) (g'<|lo+(u+v) / 2)
    case true=>
     dsimp[fF];refine dm ⟨rfl,u,(u+v) / 2,rfl,(),(),(),low,λi h1 h2=>?_⟩;by_cases c:i=(u+v) / 2
     ·subst c;exact .inl d
     ·exact(P.of_lt d).trans (j.so _ _ () () ())
    case false=>
     dsimp[bM,cY];refine dm ⟨rfl,(u+v) / 2+1,v,rfl,(),(),(),λi h1=>?_,top⟩;have m:=P.Kh d T.2;by_cases c:i=(u+v) / 2
     ·subst c;exact m
     ·exact(j.so _ _ () () ()).trans m
  case ipost=>
   rintro c B ⟨rfl,u,v,rfl,G,low,top⟩;dsimp only;refine cD<|Y3 h' () () λK h3=>?_;refine dm ⟨rfl,_,h3,?_⟩;rw[show min (k+1) n=k+1 by lia];exact Xm j gk G low top
end
meta abbrev As:=Option (bi)×Nat
meta abbrev Ds:=Option (bi)×Nat×Nat
abbrev Pg (lo a J:Nat):StateT SortSt Sem As:=
 forIn [a:J] ((none,a):As) λ_ c=>do
  let x <- ltAt' (lo+c.2) (lo+c.2-1)
  match x with
  | some b=>if b=true then pure (ForInStep.done (none,c.2))else pure (ForInStep.yield (none,c.2+1))
  | _=>pure<|ForInStep.done (some none,c.2)
abbrev Hl (lo n J:Nat):StateT SortSt Sem (bi):=do
 reverseSlice' lo (lo+n)
 let c <- Pg lo n J
 match c.1 with
 | some r=>pure r
 | none=>pure<|some c.2
abbrev UI (lo n J:Nat):StateT SortSt Sem Ds:=
 forIn [n:J] ((none,n,0):Ds) λ_ c=>do
  let x <- ltAt' (lo+c.2.1) (lo+c.2.1-1)
  match x with
  | some b=>
   if b=true then
    if c.2.2>0 then do
     reverseSlice' (lo+c.2.1-(c.2.2+1)) (lo+c.2.1)
     pure (ForInStep.yield (none,c.2.1+1,0))
    else pure (ForInStep.yield (none,c.2.1+1,0))
   else do
    let x <- ltAt' (lo+c.2.1-1) (lo+c.2.1)
    match x with
    | some b=>
     if b=true then pure (ForInStep.done (none,c.2.1,c.2.2))
     else pure (ForInStep.yield (none,c.2.1+1,c.2.2+1))
    | _=>pure<|ForInStep.done (some none,c.2.1,c.2.2)
  | _=>pure<|ForInStep.done (some none,c.2.1,c.2.2)
abbrev Nz (lo n J:Nat):StateT SortSt Sem (bi):=do
 liftM (rule "list.sort.descending-run")
 let c <- UI lo (n+1) J
 match c.1 with
 | some r=>pure r
 | none=>
  if c.2.2>0 then do
   reverseSlice' (lo+c.2.1-(c.2.2+1)) (lo+c.2.1)
   Hl lo c.2.1 J
  else Hl lo c.2.1 J
def count_eq(lo J:Nat):countRun' lo J=(do
  let c <- Pg lo 1 J
  match c.1 with
  | some r=>pure r
  | none=>
   if (c.2 == J)=true then pure (some c.2)
   else if c.2>1 then do
    let x <- ltAt' lo (lo+c.2-1)
    match x with
    | some b=>if b=true then pure (some c.2)else do
      reverseSlice' lo (lo+c.2)
      Nz lo c.2 J
    | _=>pure none
   else Nz lo c.2 J):=by
 rw[countRun'_eq];dsimp only;unfold Nz Hl UI Pg;congr 1
 funext c
 obtain⟨r,n⟩:=c
 cases r with
 | some r=>rfl
 | none=>
  dsimp only;split
  ·rfl
  ·split
   ·congr 1
    funext x
    cases x with
    | none=>rfl
    | some b=>
     dsimp only;split
     ·rfl
     ·congr 1
      funext _r
      congr 1
      funext _u
      congr 1;congr 1
      funext s2
      obtain⟨r2,j,g⟩:=s2
      cases r2 with
      | some r2=>rfl
      | none=>
       dsimp only;split
       ·congr 1
        funext _v
        congr 1
        funext _w
        congr 1
        funext s3
        obtain⟨d,f⟩:=s3
        cases d<;>rfl
       ·congr 1
        funext _w
        congr 1
        funext s3
        obtain⟨d,f⟩:=s3
        cases d<;>rfl
   ·congr 1
    funext _u
    congr 1;congr 1
    funext s2
    obtain⟨r2,j,g⟩:=s2
    cases r2 with
    | some r2=>rfl
    | none=>
     dsimp only;split
     ·congr 1
      funext _v
      congr 1
      funext _w
      congr 1
      funext s3
      obtain⟨d,f⟩:=s3
      cases d<;>rfl
     ·congr 1
      funext _w
      congr 1
      funext s3
      obtain⟨d,f⟩:=s3
      cases d<;>rfl
section
variable {prog:aj}{w:ah}{A:az}{E:af->aA->Prop}{s:aA}{o:Ord}{N:Nat}{f:Nat->Keyed}{kd:SortKind}{g g0:Nat->Nat}{p:Array (Nat×Nat×Nat)}{st:SortSt}
def Rn.snoc{a b:Nat}(R:Rn o g0 g a b)(J:a<b)(hb:g b=b)(h:o.lt b (g<|b-1)=false):Rn o g0 g a (b+1) where
 out i hi:=R.out i ()
 cl i h1 h2:=by
  by_cases c:i=b
  ·subst c;lia
  ·have:=R.cl i h1 ();lia
 so i j h1 h2 h3:=by
  by_cases c:j=b
  ·subst c;rw[hb];have l:=R.cl (j-1) () ();have d:P o (g<|j-1) j:=P.Kh h l.2;by_cases c2:i=j-1
   ·subst c2;exact d
   ·exact(R.so i (j-1) h1 () ()).trans d
  ·exact R.so i j h1 h2 ()
def PF(C:SQ prog w A s o N f kd){lo a:Nat}(h:Sg N f kd g p st)(hn:lo+nrem<=N)(h1:1<=a)(J:a<=nrem)(R:Rn o g0 g lo<|lo+a)(U:∀i,lo+a<=i->i<lo+nrem->g0 i=i)
  {Q:As->SortSt->Prop} (q:∀n,a<=n->n<=nrem->Rn o g0 g lo (lo+n)->(n=nrem\/o.lt (lo+n) (g<|lo+n-1)=true)->Q (none,n) st):wpS (model prog w) A E s (Pg lo a nrem) Q st:=by
 unfold Pg;refine gQ (I:=λx c d=>d=st/\c=(none,x)/\Rn o g0 g lo (lo+x)) ?step ?fin ⟨rfl,rfl,R⟩
 case fin=>
  rintro c d ⟨rfl,rfl,j⟩;rw[show max a nrem=nrem by lia]at j ⊢;exact q nrem J (aP _) j<|.inl rfl
 case step=>
  rintro x c d k B ⟨rfl,rfl,j⟩;dsimp only;have t:g (lo+x)=lo+x:=by rw[j.out _ ()];exact U _ () ()
  refine cD<|yp C h () () ?_;rw[t]
  cases m:o.lt (lo+x) (g<|lo+x-1)
  case true=>
   dsimp[fF];exact dm<|q x k () j<|.inr m
  case false=>
   dsimp[bM,cY];exact dm ⟨rfl,rfl,j.snoc () t m⟩
structure Dc (o:Ord)(g0 g:Nat->Nat)(a b q:Nat):Prop where
 out:∀i,i<a\/b<=i->g i=g0 i
 cl:Cl g a b
 few:a+(q+1)<=b
 dn:∀i j,a<=i->i<j->j<b->i<b-(q+1)->P o (g j) (g i)
 id:∀i,b-(q+1)<=i->i<b->g i=i
 al:∀i j,b-(q+1)<=i->i<b->b-(q+1)<=j->j<b->o.lt i j=false
def Dc.turn{a b q:Nat}(D:Dc o g0 g a b q):(∀i,i<a\/b<=i->rev g (b-(q+1)) b i=g0 i)/\Cl (rev g (b-(q+1)) b) a b/\(∀i j,a<=i->i<j->j<b->P o (rev g (b-(q+1)) b j) (rev g (b-(q+1)) b i))/\(∀i,b-(q+1)<=i->i<b->∃k,rev g (b-(q+1)) b i=k/\b-(q+1)<=k/\k<b):=by
 have few:=D.few;have d:∀i,b-(q+1)<=i->i<b->rev g (b-(q+1)) b i=b-(q+1)+b-1-i:=λi h1 h2=>by
  rw[Bo h1 h2];exact D.id _ (by omega)<|by omega
 refine⟨λi f=>?_,λi h1 h2=>?_,λi j h1 h2 h3=>?_,λi h1 h2=>⟨_,d i h1 h2,by omega,by omega⟩⟩
 ·rw[qO<|by omega];exact D.out i f
 ·by_cases c:i<b-(q+1)
  ·rw[qO<|by omega];exact D.cl i h1 h2
  ·rw[d i (by omega) h2];omega
 ·by_cases c:i<b-(q+1)
  ·rw[qO (k:=i)<|by omega];by_cases c2:j<b-(q+1)
   ·rw[qO<|by omega];exact D.dn i j h1 h2 h3 c
   ·rw[d j (by omega) h3];have:=D.dn i (b-(q+1)+b-1-j) h1 (by omega) (by omega) c
    rwa [D.id _ (by omega)<|by omega]at this
  ·rw[d i (by omega)<|by omega,d j (by omega) h3];exact P.Kh (D.al _ _ (by omega) (by omega) (by omega)<|by omega)<|by omega
abbrev Fin (o:Ord)(g0 g:Nat->Nat)(a b:Nat):Prop:=(∀i,i<a\/b<=i->g i=g0 i)/\Cl g a b/\(∀i j,a<=i->i<j->j<b->P o (g j) (g i))
def Dc.aaz{a b:Nat}(D:Dc o g0 g a b 0):Fin o g0 g a b:=⟨D.out,D.cl,λi j h1 h2 h3=>D.dn i j h1 h2 h3 ()⟩
def Fin.rn{a b:Nat}(D:Fin o g0 g a b):Rn o g0 (rev g a b) a b where
 out i hi:=by rw[qO hi];exact D.1 i hi
 cl i h1 h2:=by
  rw[Bo h1 h2];exact D.2.1 _ () ()
 so i j h1 h2 h3:=by
  rw[Bo h1 (),Bo () h3];exact D.2.2 _ _ () () ()
def Fin.add{a b:Nat}(D:Fin o g0 g a b)(hb:g b=b)(J:a<b)(h:∀i,a<=i->i<b->P o b (g i)):Dc o g0 g a (b+1) 0 where
 out i hi:=D.1 i ()
 cl i h1 h2:=by
  by_cases c:i=b
  ·subst c;lia
  ·have:=D.2.1 i h1 ();lia
 few:=()
 dn i j h1 h2 h3 _:=by
  by_cases c:j=b
  ·subst c;rw[hb];exact h i h1 h2
  ·exact D.2.2 i j h1 h2 ()
 id i h1 h2:=by
  have:i=b:=()
  rw[this,hb]
 al i j h1 h2 h3 h4:=by
  have:i=j:=()
  rw[this];exact o.Ry _
def ya(C:SQ prog w A s o N f kd){lo n:Nat}(h:Sg N f kd g p st)(hn:lo+nrem<=N)(h1:1<=n)(J:n<=nrem)(D:Fin o g0 g lo<|lo+n)(U:∀i,lo<=i->i<lo+nrem->g0 i=i)
  {Q:bi->SortSt->Prop} (q:∀m g' st',Sg N f kd g' p st'->1<=m->m<=nrem->Rn o g0 g' lo (lo+m)->Q (some m) st'):wpS (model prog w) A E s (Hl lo n nrem) Q st:=by
 unfold Hl;refine cD<|Ai h () λst2 h2=>?_;exact cD<|PF C h2 hn h1 J D.rn (λi a b=>U i () b) λm d c R _=>dm<|q m _ _ h2 () c R
def Ym(C:SQ prog w A s o N f kd){lo n:Nat}(h:Sg N f kd g p st)(hn:lo+nrem<=N)(h1:1<=n)(han:n<=nrem)(D:Dc o g0 g lo (lo+n) 0)(hid:∀i,lo<=i->i<lo+nrem->g0 i=i)
  {Q:Ds->SortSt->Prop} (q:∀m e g' st',Sg N f kd g' p st'->1<=m->m<=nrem->Dc o g0 g' lo (lo+m) e->Q (none,m,e) st'):wpS (model prog w) A E s (UI lo n nrem) Q st:=by
 unfold UI;refine gQ (I:=λx c st'=>∃e g',c=(none,x,e)/\Sg N f kd g' p st'/\Dc o g0 g' lo (lo+x) e) ?step ?fin ⟨0,g,rfl,h,D⟩
 case fin=>
  rintro c st' ⟨e,g',rfl,h',t⟩;rw[show max n nrem=nrem by lia]at t ⊢;exact q nrem e g' st' h' () (aP _) t
 case step=>
  rintro x c st' V W ⟨e,g',rfl,h',t⟩;dsimp only;have few:=t.few;have B:g' (lo+x)=lo+x:=by rw[t.out _ ()];exact hid _ () ()
  have F:g' (lo+x-1)=lo+x-1:=t.id _ () ();refine cD<|yp C h' () () ?_;rw[B,F]
  cases G:o.lt (lo+x) (lo+x-1)
  case true=>
   dsimp[fF];by_cases K:e>0
   ·rw[aR K];obtain⟨U,T,L,Z⟩:=t.turn;refine cD<|Ai h' () λst2 h2=>dm ⟨0,_,rfl,h2,?_⟩;refine Fin.add (b:=lo+x) ⟨U,T,L⟩ (by rw[qO ()];exact B) () λi a b=>?_;by_cases c:lo+x-(e+1)<=i
    ·obtain⟨k,Y,M,O⟩:=Z i c b;rw[Y]
     rcases o.neg _ k _ G with z|z
     ·exact .inl z
     ·rw[t.al _ _ M O () ()]at z;cases z
    ·rw[qO ()];have:=t.dn i (lo+x-1) a () () ();rw[F]at this;exact(P.of_lt G).trans this
   ·rw[aN K];have:e=0:=()
    subst this;refine dm ⟨0,_,rfl,h',Fin.add (b:=lo+x) t.aaz B () λi a b=>?_⟩;by_cases c:i=lo+x-1
    ·subst c;rw[F];exact .inl G
    ·have:=t.dn i (lo+x-1) a () () ();rw[F]at this;exact(P.of_lt G).trans this
  case false=>
   dsimp[bM,cY];refine cD<|yp C h' () () ?_;rw[B,F]
   cases hg:o.lt (lo+x-1) (lo+x)
   case true=>
    dsimp[fF];exact dm<|q x e g' st' h' () () t
   case false=>
    dsimp[bM,cY];refine dm ⟨e+1,g',rfl,h',?_⟩;have J:∀i,lo+x-(e+1)<=i->i<lo+x->o.lt i (lo+x)=false/\o.lt (lo+x) i=false:=λi a b=>by
     constructor
     ·cases z:o.lt i (lo+x)with
      | false=>rfl
      | true=>
       rcases o.neg _ (lo+x-1) _ z with y|y
       ·rw[t.al _ _ a b () ()]at y;cases y
       ·rw[hg]at y;cases y
     ·cases z:o.lt (lo+x) i with
      | false=>rfl
      | true=>
       rcases o.neg _ (lo+x-1) _ z with y|y
       ·rw[G]at y;cases y
       ·rw[t.al _ _ () () a b]at y;cases y
    exact {
     out:=λi hi=>t.out i ()
     cl:=λi a b=>by
      by_cases c:i=lo+x
      ·subst c;lia
      ·have:=t.cl i a ();lia
     few:=()
     dn:=λi j a b c d=>by
      by_cases z:j=lo+x
      ·subst z;rw[B];have y:=t.dn i (lo+x-1) a () () ();rw[F]at y;have gi:=t.cl i a ()
       rcases y with y|⟨_,y⟩
       ·rcases o.neg _ (lo+x) _ y with v|v
        ·rw[hg]at v;cases v
        ·exact .inl v
       ·lia
      ·exact t.dn i j a b () ()
     id:=λi a b=>by
      by_cases z:i=lo+x
      ·subst z;exact B
      ·exact t.id i () ()
     al:=λi j a b c d=>by
      by_cases z:i=lo+x
      ·subst z;by_cases y:j=lo+x
       ·subst y;exact o.Ry _
       ·exact(J j () ()).2
      ·by_cases y:j=lo+x
       ·subst y;exact(J i () ()).1
       ·exact t.al i j () () () ()}
def LD(C:SQ prog w A s o N f kd){lo n:Nat}(h:Sg N f kd g p st)(hn:lo+nrem<=N)(U:n+1<=nrem)(D:Dc o g0 g lo (lo+(n+1)) 0)(J:∀i,lo<=i->i<lo+nrem->g0 i=i)
  {Q:bi->SortSt->Prop} (q:∀m g' st',Sg N f kd g' p st'->1<=m->m<=nrem->Rn o g0 g' lo (lo+m)->Q (some m) st'):wpS (model prog w) A E s (Nz lo n nrem) Q st:=by
 unfold Nz;refine cD<|wpS_lift<|iu ⟨rfl,?_⟩;refine cD<|Ym C h hn () U D J λm e g' st' h' d j k=>?_;dsimp only;by_cases c:e>0
 ·rw[aR c];obtain⟨B,t,F,_⟩:=k.turn;exact cD (Ai h' () λst2 h2=>ya C h2 hn d j ⟨B,t,F⟩ J q)
 ·rw[aN c];have:e=0:=()
  subst this;exact ya C h' hn d j k.aaz J q
def P9(C:SQ prog w A s o N f kd){lo:Nat}(h:Sg N f kd g p st)(hn:lo+nrem<=N)(h1:1<=nrem)(U:∀i,lo<=i->i<lo+nrem->g i=i)
  {Q:bi->SortSt->Prop} (q:∀m g' st',Sg N f kd g' p st'->1<=m->m<=nrem->Rn o g g' lo (lo+m)->Q (some m) st'):wpS (model prog w) A E s (countRun' lo nrem) Q st:=by
 rw[count_eq];refine cD (PF C h hn (aP 1) h1 (g0:=g) ⟨λ_ _=>rfl,λi a b=>?_,λi j a b c=>()⟩ (λi a b=>U i () b) λn G M R F=>?_)
 ·have:i=lo:=()
  subst this;rw[U i (aP _) ()];lia
 dsimp only;by_cases B:n=nrem
 ·rw[aR<|by simpa using B];exact dm (q n g st h G M R)
 ·rw[aN<|by simpa using B];have k:=F.resolve_left B;rw[U (lo+n-1) () ()]at k;have J:g (lo+n)=lo+n:=U _ () ();by_cases D:n>1
  ·rw[aR D];refine cD<|yp C h () () ?_;rw[U lo () (),U (lo+n-1) () ()]
   cases O:o.lt lo (lo+n-1)
   case true=>
    dsimp[fF];exact dm<|q n g st h G M R
   case false=>
    dsimp[bM,cY];have d:∀i,lo<=i->i<lo+n->g i=i:=λi a b=>U i a ();have K:∀i j,lo<=i->i<j->j<lo+n->o.lt i j=false/\o.lt j i=false:=λi j a b c=>by
     have r:=R.so i j a b c;rw[d i a (),d j () c]at r;refine⟨?_,r.ge⟩
     cases z:o.lt i j with
     | false=>rfl
     | true=>
      rcases o.neg _ lo _ z with y|y
      ·by_cases x:i=lo
       ·subst x;rw[o.Ry]at y;cases y
       ·have r2:=R.so lo i () () ();rw[d i a (),d lo () ()]at r2;rw[r2.ge]at y;cases y
      ·rcases o.neg _ (lo+n-1) _ y with x|x
       ·rw[O]at x;cases x
       ·by_cases v:j=lo+n-1
        ·subst v;rw[o.Ry]at x;cases x
        ·have r2:=R.so j (lo+n-1) () () ();rw[d j () c,d (lo+n-1) () ()]at r2;rw[r2.ge]at x;cases x
    refine cD<|Ai h () λst2 h2=>LD C h2 hn () ?_ U q;have t:∀i,lo<=i->i<lo+n->rev g lo (lo+n) i=lo+(lo+n)-1-i:=λi a b=>by rw[Bo a b];exact d _ () ()
    refine Fin.add (b:=lo+n) ⟨λi L=>qO L,λi a b=>by rw[t i a b];lia,λi j a b c=>?_⟩ (by rw[qO ()];exact J) () λi a b=>?_
    ·rw[t i a (),t j () c];exact P.Kh (K _ _ () () ()).2 ()
    ·rw[t i a b];by_cases x:lo+(lo+n)-1-i=lo+n-1
     ·rw[x];exact .inl k
     ·rcases o.neg _ (lo+(lo+n)-1-i) _ k with z|z
      ·exact .inl z
      ·rw[(K _ _ () () ()).1]at z;cases z
  ·rw[aN D];have:n=1:=()
   subst this;refine LD C h hn () ?_ U q;refine Fin.add (b:=lo+1) ⟨λi L=>rfl,R.cl,λi j a b c=>()⟩ J () λi a b=>?_;have:i=lo:=()
   subst this;rw[U i () ()];rw[show i+1-1=i by lia]at k;exact .inl k
end
abbrev U0 (N:Nat):Prop:=∀{prog:aj}{w:ah}{A:az}{E:af->aA->Prop}{s:aA}{o:Ord}{f:Nat->Keyed}{kd:SortKind}{st:SortSt}{Q:Unit->SortSt->Prop},SQ prog w A s o N f kd->Sg N f kd (λi=>i) #[] st->(∀d g c,Sg N f kd d g c->Cl d 0 N->So o d 0 N->Q Unit.unit c)->wpS (model prog w) A E s sortRuns' Q st
abbrev RO (N:Nat):Prop:=2<=N->U0 N
def Sg.pen{N:Nat}{f:Nat->Keyed}{kd:SortKind}{g:Nat->Nat}{p:Array<|Nat×Nat×Nat}{st:SortSt}(h:Sg N f kd g p st)(J:Array<|Nat×Nat×Nat):Sg N f kd g J (setPending st J):=⟨h.size,h.get,h.lt,h.kind,h.failed,rfl⟩
def abH{N:Nat}(Z:N<64):RO N:=by
 intro h2 prog w A E s o f kd st Q C h q;rw[sortRuns'_eq];refine cD<|wpS_get ?_;dsimp only;have D:minRun' N N 0=N:=by
  obtain⟨k,T⟩:∃k,N=k+1:=⟨N-1,()⟩;have:minRun' (k+1) N 0=N:=by rw[minRun'_succ,aR Z];rfl
  rwa [<- T]at this
 rw[h.size,D];refine cD (wpS_mono (gQ
  (I:=λx c j=>(x=0/\c=(none,0)/\Sg N f kd (λi=>i) #[] j)\/(1<=x/\c=(none,N)/\∃g p,Sg N f kd g p j/\Cl g 0 N/\So o g 0 N/\p.size=1))
  (Q:=λc j=>c=(none,N)/\∃g p,Sg N f kd g p j/\Cl g 0 N/\So o g 0 N/\p.size=1) ?step ?fin (.inl ⟨rfl,rfl,h⟩)) ?post)
 case fin=>
  rintro c j (⟨J,_,_⟩|⟨_,hc,B⟩)
  ·lia
  ·exact⟨hc,B⟩
 case step=>
  rintro x c j _ J (⟨rfl,rfl,P⟩|⟨K,rfl,B⟩)
  ·dsimp only;rw[aN ()];refine cD<|P9 C P () () (λi a b=>rfl) λm L st1 t O W R1=>?_;dsimp only;by_cases c2:m<N
   ·rw[aR c2];refine cD<|wpS_lift<|iu ⟨rfl,?_⟩;rw[show min (N-0) N=N by lia];refine cD<|Yt C t () O () R1 (λi a b=>rfl) λU st2 G R2=>?_;rw[aN ⋯];refine cD<|wpS_get ?_;rw[G.pend];show wpS _ _ _ _ _ _ _;refine cD (wpS_modify<|dm<|.inr ⟨(),by rw[cC],U,_,G.pen _,by have:=R2.cl;rwa [cC]at this,by have:=R2.so;rwa [cC]at this,?_⟩);rw[G.pend];rfl
   ·rw[aN c2];have M:m=N:=()
    subst M;refine cD<|wpS_get ?_;rw[t.pend];refine cD (wpS_modify<|dm<|.inr ⟨(),by rw[cC],L,_,t.pen _,by have:=R1.cl;rwa [cC]at this,by have:=R1.so;rwa [cC]at this,?_⟩);rw[t.pend];rfl
  ·dsimp only;rw[aR<|aP _];exact dm ⟨rfl,B⟩
 case post=>
  rintro c j ⟨rfl,g,p,h1,F,h3,V⟩;dsimp only;refine cD (wpS_mono (gQ (I:=λx c d=>c=(none,Unit.unit)/\Sg N f kd g p d) (Q:=λc d=>c=(none,Unit.unit)/\Sg N f kd g p d) ?fstep (λ_ _ z=>z) ⟨rfl,h1⟩) ?fpost)
  case fstep=>
   rintro x c d _ J ⟨rfl,h1⟩;refine cD<|wpS_get ?_;rw[h1.pend,aR ()];exact dm ⟨rfl,h1⟩
  case fpost=>
   rintro c d ⟨rfl,h1⟩;dsimp only;exact dm<|q g p d h1 F h3
abbrev An:Bool->Keyed->Array Keyed->Nat->Nat->Nat->StateT SortSt Sem (bi):=sortPriv% PySem.Builtin.gallop
abbrev Wy:Nat->StateT SortSt Sem Unit:=sortPriv% PySem.Builtin.setMinGallop
section
variable {o:Ord}{N:Nat}{f:Nat->Keyed}{A B hs:ag}{ia ib:Nat}
abbrev fa (f:Nat->Keyed)(l:ag):Array Keyed:=(l.map f).toArray
abbrev Res (o:Ord)(f:Nat->Keyed)(A B:ag)(out:Array Keyed):Prop:=∃hs:ag,out=fa f hs/\hs.length=A.length+B.length/\hs.Pairwise (P o)/\∀x∈hs,x∈A\/x∈B
end
structure Sm (st st':SortSt):Prop where
 a:arrOf st'=arrOf st
 k:kindOf st'=kindOf st
 p:pendingOf st'=pendingOf st
 f:failedOf st'=failedOf st
meta abbrev G:=Option (Array Keyed)×Array Keyed×Nat×Nat×Nat×Nat×Nat
abbrev T3 (a b out:Array Keyed)(ia ib mg J U:Nat):StateT SortSt Sem (ForInStep G):=do
 let x <- elem' a ia
 if (ia+1+1 == a.size)=true then pure (ForInStep.done (some<|out.push x++b.extract ib b.size++a.extract (ia+1) a.size,out.push x,ia+1,ib,mg,J,U))
 else if (decide (J<7) && decide (U<7))=true then pure (ForInStep.done (none,out.push x,ia+1,ib,mg,J,U))
 else pure (ForInStep.yield (none,out.push x,ia+1,ib,mg,J,U))
abbrev T2 (a b out:Array Keyed)(ia ib mg J U:Nat):StateT SortSt Sem (ForInStep G):=do
 let x <- elem' b ib
 if (ib+1 == b.size)=true then pure (ForInStep.done (some<|out.push x++a.extract ia a.size++b.extract (ib+1) b.size,out.push x,ia,ib+1,mg,J,U))
 else
  let y <- elem' a ia
  let r <- An true y b (ib+1) (b.size-(ib+1)) 0
  match r with
  | some k=>
   if k>0 then
    if (ib+1+k == b.size)=true then pure (ForInStep.done (some<|out.push x++b.extract (ib+1) (ib+1+k)++a.extract ia a.size++b.extract (ib+1+k) b.size,out.push x++b.extract (ib+1) (ib+1+k),ia,ib+1+k,mg,J,k))
    else T3 a b (out.push x++b.extract (ib+1) (ib+1+k)) ia (ib+1+k) mg J k
   else T3 a b (out.push x) ia (ib+1) mg J k
  | _=>pure<|ForInStep.done (some<|out.push x++a.extract ia a.size++b.extract (ib+1) b.size,out.push x,ia,ib+1,mg,J,U)
abbrev T1 (a b out:Array Keyed)(ia ib mg U J:Nat):StateT SortSt Sem (ForInStep G):=do
 Wy mg
 let x <- elem' b ib
 let r <- An false x a ia (a.size-ia) 0
 match r with
 | some k=>
  if k>0 then
   if (ia+k+1 == a.size)=true then pure (ForInStep.done (some<|out++a.extract ia (ia+k)++b.extract ib b.size++a.extract (ia+k) a.size,out++a.extract ia (ia+k),ia+k,ib,mg,k,J))
   else if (ia+k == a.size)=true then pure (ForInStep.done (some<|out++a.extract ia (ia+k)++a.extract (ia+k) a.size++b.extract ib b.size,out++a.extract ia (ia+k),ia+k,ib,mg,k,J))
   else T2 a b (out++a.extract ia (ia+k)) (ia+k) ib mg k J
  else T2 a b out ia ib mg k J
 | _=>pure<|ForInStep.done (some<|out++a.extract ia a.size++b.extract ib b.size,out,ia,ib,mg,U,J)
section
variable {o:Ord}{A B ts:ag}{na nb:Nat}
structure Mh (o:Ord)(A B ts:ag)(na nb:Nat):Prop where
 la:na<=A.length
 lb:nb<=B.length
 len:ts.length+na+nb=A.length+B.length
 so:ts.Pairwise (P o)
 mem:∀x∈ts,x∈A\/x∈B
 ua:∀y∈A.take na,∀x∈ts,P o y x
 ub:∀y∈B.take nb,∀x∈ts,P o y x
end
meta abbrev H:=Option (Array Keyed)×Nat×Nat×Array Keyed×Nat×Nat×Nat
abbrev U3 (a b out:Array Keyed)(na nb mg J U:Nat):StateT SortSt Sem (ForInStep H):=do
 let x <- elem' a (na-1)
 if (na-1 == 0)=true then pure (ForInStep.done (some<|a.extract 0 (na-1)++b.extract 0 nb++(out.push x).reverse,na-1,nb,out.push x,mg,J,U))
 else if (decide (J<7) && decide (U<7))=true then pure (ForInStep.done (none,na-1,nb,out.push x,mg,J,U))
 else pure (ForInStep.yield (none,na-1,nb,out.push x,mg,J,U))
abbrev U2 (a b out:Array Keyed)(na nb mg J U:Nat):StateT SortSt Sem (ForInStep H):=do
 let x <- elem' b (nb-1)
 if (nb-1 == 1)=true then pure (ForInStep.done (some<|b.extract 0 (nb-1)++a.extract 0 na++(out.push x).reverse,na,nb-1,out.push x,mg,J,U))
 else
  let y <- elem' a (na-1)
  let r <- An true y b 0 (nb-1) (nb-1-1)
  match r with
  | some t=>
   if nb-1-t>0 then
    if (t == 1)=true then pure (ForInStep.done (some<|b.extract 0 t++a.extract 0 na++(out.push x++(b.extract t<|nb-1).reverse).reverse,na,t,out.push x++(b.extract t<|nb-1).reverse,mg,J,nb-1-t))
    else if (t == 0)=true then pure (ForInStep.done (some<|a.extract 0 na++b.extract 0 t++(out.push x++(b.extract t<|nb-1).reverse).reverse,na,t,out.push x++(b.extract t<|nb-1).reverse,mg,J,nb-1-t))
    else U3 a b (out.push x++(b.extract t<|nb-1).reverse) na t mg J (nb-1-t)
   else U3 a b (out.push x) na (nb-1) mg J (nb-1-t)
  | _=>pure<|ForInStep.done (some<|a.extract 0 na++b.extract 0 (nb-1)++(out.push x).reverse,na,nb-1,out.push x,mg,J,U)
abbrev U1 (a b out:Array Keyed)(na nb mg U J:Nat):StateT SortSt Sem (ForInStep H):=do
 Wy mg
 let x <- elem' b (nb-1)
 let r <- An false x a 0 na (na-1)
 match r with
 | some t=>
  if na-t>0 then
   if (t == 0)=true then pure (ForInStep.done (some<|a.extract 0 t++b.extract 0 nb++(out++(a.extract t na).reverse).reverse,t,nb,out++(a.extract t na).reverse,mg,na-t,J))
   else U2 a b (out++(a.extract t na).reverse) t nb mg (na-t) J
  else U2 a b out na nb mg (na-t) J
 | _=>pure<|ForInStep.done (some<|a.extract 0 na++b.extract 0 nb++out.reverse,na,nb,out,mg,U,J)
section
variable {o:Ord}{f:Nat->Keyed}{st0:SortSt}{X Y ts:ag}{na nb:Nat}
abbrev Oh (o:Ord)(X Y:ag)(n:Nat)(ts:ag)(na nb:Nat):Prop:=Mh o X Y ts na nb/\1<=na/\2<=nb/\na+nb+n<=X.length+Y.length
abbrev H2 (o:Ord)(f:Nat->Keyed)(X Y:ag)(n:Nat)(st0:SortSt):ForInStep H->SortSt->Prop:=λr j=>Sm st0 j/\match r with
 | .done c=>(∃r z,c=(some r,z)/\Res o f X Y r)\/∃ts na nb mg g d,c=(none,na,nb,fa f ts.reverse,mg,g,d)/\Oh o X Y n ts na nb
 | .yield c=>∃ts na nb mg g d,c=(none,na,nb,fa f ts.reverse,mg,g,d)/\Oh o X Y n ts na nb
end
meta abbrev pr (x:Nat×Nat×Nat):Nat×Nat:=(x.1,x.2.1)
abbrev aao (o:Ord)(g:Nat->Nat):List (Nat×Nat)->Nat->Nat->Prop
 | [],a,b=>a=b
 | x::l,a,b=>x.1=a/\1<=x.2/\Cl g a (a+x.2)/\So o g a (a+x.2)/\aao o g l (a+x.2) b
abbrev PA (o:Ord)(g:Nat->Nat)(p:Array<|Nat×Nat×Nat)(b:Nat):Prop:=aao o g (p.toList.map pr) 0 b
meta abbrev Mj (h:aq)(a:ak)(vs:ar):aq:=((h.update a<|Obj.mapSeq λ_=>#[]).push<|seqObj "tuple" vs.toArray 0).push<|seqObj "list" #[] 0
def S_{h:aq}{a b:ak}(hb:b≠a)(J:b<h.objs.size):(Mj h a vs).get? b=h.get? b:=by
 rw[gR _ _ _<|by rw[size_push',iz];exact bD<|fO J,
  gR _ _ _ (by rw[iz];exact bD J),Heap.get?_update_ne _ _ _ _ hb]
meta abbrev vv (vs:ar)(i:Nat):Keyed:=(vs.getD i .none,vs.getD i .none)
def zip_get(vs:ar){i:Nat}(h:i<vs.length):(vs.toArray.zip vs.toArray)[i]?=some (vv vs i):=by
 have e:vs[i]?=some (vs.getD i .none):=by rw[aL,aH h];rfl
 rw[Array.getElem?_zip_eq_some];exact⟨by rw[fM];exact e,by rw[fM];exact e⟩
section
variable {prog:aj}{w:ah}{A:az}{E:af->aA->Prop}{s:aA}{o:Ord}{kd:SortKind}
def Dh{a:ak}{vs:ar}{n:Nat}{P:PySem.Fin->aA->Prop}(Z:s.heap.get? a=some (seqObj "list" vs.toArray n))(hsz:vs.length<=sizeLine)(ro:RO vs.length)
  (hkk:2<=vs.length->∀Q:SortKind->aA->Prop,Q kd { s with heap:=Mj s.heap a vs }->wpAny (model prog w) A (keyKind' vs.toArray) Q E { s with heap:=Mj s.heap a vs })
  (C:2<=vs.length->SQ prog w A { s with heap:=Mj s.heap a vs } o vs.length (vv vs) kd)
  (h:∀g,Cl g 0 vs.length->So o g 0 vs.length->P (.done<|.ret .none) { s with heap:=sortedHeap s.heap a vs ((List.range vs.length).map λi=>vs.getD (g i) .none).toArray }) :
  wpAny (model prog w) A (Builtin.«list.sort» ⟨[.ref a],[]⟩) P E s:=by
 rw[list_sort_plain];have D:a<s.heap.objs.size:=bh Z;refine aI<|listItems_at Z rfl ?_;refine aI (listUpdate_at Z rfl ?_ (by rw[bf];exact hsz)<|bW _);obtain⟨ep,B⟩:∃ep,(s.heap.update a<|Obj.mapSeq λ_=>#[]).get? a=some (seqObj "list" #[] ep):=⟨_,get?_update_seq Z λ_=>#[]⟩;refine aI<|seqEpoch_at B rfl ?_;refine aI<|wpAny_newTuple ?_;refine aI<|wpAny_newList ?_;refine dR ?_;have m:(Mj s.heap a vs).get? a=some (seqObj "list" #[] ep):=by
  rw[gR _ _ _<|by rw[size_push',iz];exact bD<|fO D,gR _ _ _<|by rw[iz];exact bD D];exact B
 skip
 dsimp only;have J:vs.toArray.size=vs.length:=by simp
 have K:∀i,i<vs.length->vs[i]?=some (vs.getD i .none):=λi t=>by rw[aL,aH t];rfl
 have xK:∀(arr:Array Keyed) (g:Nat->Nat),arr.size=vs.length->(∀i,i<vs.length->arr[i]?=some (vv vs<|g i))->arr.map (·.2)=((List.range vs.length).map λi=>vs.getD (g i) .none).toArray:=λarr g h1 d=>by
  apply Array.ext_getElem?;intro i;have e0:((List.range vs.length).map λi=>vs.getD (g i) Value.none).toArray[i]?=((List.range vs.length).map λi=>vs.getD (g i) Value.none)[i]?:=fM ..;rw[Array.getElem?_map,e0,aK];by_cases c:i<vs.length
  ·rw[d i c,dc c];rfl
  ·rw[gT (),cF<|by rw[b_];lia];rfl
 by_cases d:vs.toArray.size<2
 ·rw[aR d,aR d];refine aI<|aV ?_;rw[StateT.run_pure];refine aI<|aV ?_;dsimp only;refine aI<|seqEpoch_at m rfl ?_;have G:=xK (vs.toArray.zip vs.toArray) (λi=>i) (by rw[jq,J];lia) λi t=>zip_get vs t;refine aI (listUpdate_at m rfl ?_ (by simp) (hsz2:=by rw[size_map];show(vs.toArray.zip vs.toArray).size<=_;rw[jq,J];lia));dsimp[bne_self_eq_false,bM,cY];refine aV ?_;have:=h (λi=>i) (λi a b=>⟨a,b⟩) λi j a b c=>();rw[<- G]at this;exact this
 ·rw[aN d,aN d];have q:2<=vs.length:=()
  refine aI<|hkk q _ ?_;refine aI (gv (ro q (f:=vv vs) (st:=SortSt.mk' kd (vs.toArray.zip vs.toArray) #[] 7 none)
   (Q:=λ_ k=>∃g p,Sg vs.length (vv vs) kd g p k/\Cl g 0 vs.length/\So o g 0 vs.length)
   (C q) ⟨by show(vs.toArray.zip vs.toArray).size=_;rw[jq,J];lia,λi t=>zip_get vs t,λi t=>t,rfl,rfl,rfl⟩ λO M k U T L=>⟨O,M,U,T,L⟩) ?_ λ_ _ e=>e)
  rintro⟨⟨⟩,k⟩ s' ⟨rfl,g,p,hS,hc,F⟩;dsimp only;refine aI<|seqEpoch_at m rfl ?_;have G:=xK (arrOf k) g hS.size hS.get;refine aI (listUpdate_at m rfl ?_ (by simp) (hsz2:=by have N:(arrOf k).size=vs.length:=hS.size;show((arrOf k).map (·.2)).size<=_;rw[size_map,N];lia));rw[hS.failed];dsimp[bne_self_eq_false,bM,cY];have:=h g hc F;rw[<- G]at this;exact aV this
end
section
variable {prog:aj}{w:ah}{A:az}{E:af->aA->Prop}{s:aA}
def Nm(b:Bool)(x y:af):keyLt' (tuples' b) x y=(do
  let us <- Builtin.List.listItems x
  let vs <- Builtin.List.listItems y
  for ((u,v),k)in (us.toList.zip vs.toList).zipIdx do
   if !(<- eqBool u v)then return <- oneLt' (b && k == 0) u v
  return us.size<vs.size):=rfl
def JV(b:Bool){x y:Int}{t:Tok}{Q:Bool->aA->Prop}(h:Q (decide<|x<y) s):wpAny (model prog w) A (oneLt' b (.int x t)<|.int y u) Q E s:=by
 cases b with
 | true=>exact oneLt_int h
 | false=>
  rw[oneLt'_eq];dsimp[bM,cY];exact aI<|PySem.P.lt_int<|dz h
def HF(b:Bool){l k:ak}{xs ys:ar}{ns:ae}{Q:Bool->aA->Prop}(U:IsTup s.heap l xs.toArray)(Z:IsTup s.heap k ys.toArray)(hi:IntsAre xs ns)(hj:IntsAre ys ms)(h:Q (HT.lexLt ns ms) s) :
  wpAny (model prog w) A (keyLt' (tuples' b) (.ref l)<|.ref k) Q E s:=by
 rw[Nm];obtain⟨L,m,_,J,B⟩:=U;obtain⟨K,j,_,M,f⟩:=Z;refine aI<|listItems_at m B ?_;refine aI<|listItems_at j f ?_;have g:∀(xs ys:ar) (ns ms:ae) (n:Nat),IntsAre xs ns->IntsAre ys ms->∀Q':bd×Unit->aA->Prop,(∀r,(r=some (HT.lexLt ns ms)\/(r=none/\HT.lexLt ns ms=decide (xs.length<ys.length)))->Q' (r,Unit.unit) s) ->
   wpAny (model prog w) A (forIn ((xs.zip ys).zipIdx n) ((none,Unit.unit):bd×Unit) λx c=>match x with
      | ((p,q),i)=>do
       let e <- eqBool p q
       if (!e)=true then do
         let r <- oneLt' (b && i == 0) p q
         pure (ForInStep.done (some r,Unit.unit))
        else pure (ForInStep.yield (none,Unit.unit))) Q' E s:=by
  intro xs
  induction xs with
  | nil=>
   intro ys ns ms n h1 h2 Q' q
   cases h1
   rw[List.zip_nil_left,List.zipIdx_nil,jo];refine aV (q none<|.inr ⟨rfl,?_⟩)
   cases h2 with
   | nil=>rw[HT.sV];rfl
   | cons a t h2=>rw[HT.oW,bg<|by simp]
  | cons v G D=>
   intro ys ns ms n h1 h2 Q' q
   cases h1 with
   | cons a t h1=>
    cases h2 with
    | nil=>
     rw[List.zip_nil_right,List.zipIdx_nil,jo];exact aV<|q none<|.inr ⟨rfl,by rw[HT.rP,bH<|by simp]⟩
    | cons c u h2=>
     rw[List.zip_cons_cons,List.zipIdx_cons,List.forIn_cons];rw[HT.uC]at q;dsimp only;refine aI<|aI<|wpAny_eqBool_int ?_;by_cases e:a=c
     ·rw[aR e]at q;subst e;dsimp[cV,b7,bM,cY];refine aV (D _ _ _ _ h1 h2 _ λr d=>q r ?_)
      rcases d with d|⟨d,C⟩
      ·exact .inl d
      ·exact .inr ⟨d,by rw[C];simp⟩
     ·rw[aN e]at q;have F:(a == c)=false:=by simpa using e
      dsimp[F,cU,fF];exact aI<|JV _<|aV<|aV<|q _<|.inl rfl
 refine aI (g xs ys ns ms 0 hi hj _ λr d=>?_)
 rcases d with rfl|⟨rfl,C⟩
 ·exact aV h
 ·dsimp only;rw[bf,bf,<- C];exact aV h
end
theorem EG:∀a:ae,HT.lexLt a a=false
 | []=>HT.sV
 | x::a=>by rw[HT.uC,aR rfl];exact EG a
theorem DH:∀{a b c:ae},HT.lexLt a b=true->HT.lexLt b c=true->HT.lexLt a c=true
 | [],[],_,h,_=>by rw[HT.sV]at h;cases h
 | x::a,[],_,h,_=>by rw[HT.rP]at h;cases h
 | _,y::b,[],_,h=>by rw[HT.rP]at h;cases h
 | [],y::b,z::c,_,_=>HT.oW ..
 | x::a,y::b,z::c,h1,h2=>by
  rw[HT.uC]at h1 h2 ⊢;by_cases e1:x=y
  ·rw[aR e1]at h1;by_cases e2:y=z
   ·rw[aR e2]at h2;rw[aR<|e1.trans e2];exact DH h1 h2
   ·rw[aN e2]at h2;have:=bE h2;rw[aN<|by omega];exact bg<|by omega
  ·rw[aN e1]at h1;have d:=bE h1;by_cases e2:y=z
   ·rw[aN<|by omega];exact bg (by omega)
   ·rw[aN e2]at h2;have:=bE h2;rw[aN<|by omega];exact bg<|by omega
theorem Aw:∀{a b:ae},HT.lexLt a b=false->HT.lexLt b a=false->a=b
 | [],[],_,_=>rfl
 | [],y::b,h,_=>by rw[HT.oW]at h;cases h
 | x::a,[],_,h=>by rw[HT.oW]at h;cases h
 | x::a,y::b,h1,h2=>by
  rw[HT.uC]at h1 h2;by_cases e:x=y
  ·rw[aR e]at h1;rw[aR e.symm]at h2;rw[e,Aw h1 h2]
  ·rw[aN e]at h1;rw[aN λz=>e z.symm]at h2;have:=dJ h1;have:=dJ h2;omega
def Jx{a b c:ae}(h:HT.lexLt a c=true):HT.lexLt a b=true\/HT.lexLt b c=true:=by
 cases e:HT.lexLt a b with
 | true=>exact .inl rfl
 | false=>
  right
  cases e2:HT.lexLt b a with
  | true=>exact DH e2 h
  | false=>rw[<- Aw e e2];exact h
abbrev MV (J:List<|ae):Ord where
 lt i j:=HT.lexLt (J.getD i []) (J.getD j [])
 Ry i:=EG _
 tr i j k:=DH
 neg i j k:=Jx
section
variable {prog:aj}{w:ah}{A:az}{E:af->aA->Prop}{s:aA}
theorem K9{α β:Type}{f:α->Sem β}(r:α->β):∀(l:List α),(∀a∈l,∀Q:β->aA->Prop,Q (r a) s->wpAny M A (f a) Q E s)->∀Q:List β->aA->Prop,Q (l.map r) s->wpAny M A (l.mapM f) Q E s
 | [],_,Q,q=>by rw[List.mapM_nil];exact aV q
 | a::l,h,Q,q=>by
  rw[List.mapM_cons];refine aI<|h a (aJ ..) _<|aI<|K9 r l (λb hb=>h b<|aO _ hb) _<|aV q
def LR{α β:Type}{f:α->Sem β}(r:α->β)(l:List α)(h:∀a∈l,∀Q:β->aA->Prop,Q (r a) s->wpAny M A (f a) Q E s)(Q:Array β->aA->Prop)(q:Q (l.map r).toArray s):wpAny M A (l.toArray.mapM f) Q E s:=by
 rw[List.mapM_toArray,map_eq_pure_bind];exact aI<|K9 r l h _<|aV q
def Rq(u:af):firstOfTuple' u=(do
  if (<- typeOf u) != .type "tuple" then return none
  return (<- Builtin.List.listItems u)[0]?):=rfl
def MC{vs:ar}(h0:vs≠[])(J:∀v∈vs,∃(l:ak) (xs:ar) (n:Int) (t:Tok),v=.ref l/\IsTup s.heap l (.int n t::xs).toArray){Q:SortKind->aA->Prop}(q:Q (tuples' true) s) :
  wpAny (model prog w) A (keyKind' vs.toArray) Q E s:=by
 have k:∀v,∃x:Int×Tok,v∈vs->∃(l:ak) (xs:ar),v=.ref l/\IsTup s.heap l (.int x.1 x.2::xs).toArray:=λv=>by
  by_cases c:v∈vs
  ·obtain⟨l,xs,n,t,e1,e2⟩:=J v c;exact⟨(n,t),λ_=>⟨l,xs,e1,e2⟩⟩
  ·exact⟨(0,0),λz=>absurd z c⟩
 obtain⟨F,p⟩:=Classical.axiomOfChoice k;rw[keyKind'_eq];refine aI (LR (λv=>some<|Value.int (F v).1 (F v).2) vs (λv hv Q' g=>?_) _ ?_)
 ·obtain⟨l,xs,rfl,o,j,hc,n,m⟩:=p v hv;rw[Rq];refine aI<|jh (T := "tuple") ⟨o,j,hc⟩ ?_;rw[aN ⋯];exact aI (listItems_at j m<|aV g)
 ·rw[aR<|by simp];refine aI<|iu ?_;have e1:(vs.map λv=>some<|Value.int (F v).1 (F v).2).toArray.filterMap id=(vs.map λv=>Value.int (F v).1 (F v).2).toArray:=by
   rw[List.filterMap_toArray,List.filterMap_map];congr 1;rw[show(id ∘ λv=>some<|Value.int (F v).1 (F v).2)=λv=>some (Value.int (F v).1 (F v).2)from rfl];exact congrFun List.filterMap_eq_map' vs
  rw[e1,oneTypeOnly'_eq];refine aI (aI<|LR (λ_=>Value.type "int") _ (λv hv Q' g=>?_) _ ?_)
  ·obtain⟨u,_,rfl⟩:=aX.mp hv;exact aV g
  ·rw[bC];obtain⟨f,d,rfl⟩:∃f d,vs=f::d:=by
    cases vs with
    | nil=>exact absurd rfl h0
    | cons a b=>exact⟨a,b,rfl⟩
   have ha:((List.map ((λ_=>Value.type "int") ∘ λv=>Value.int (F v).1 (F v).2) (f::d)).toArray.all λx=>x == Value.type "int")=true:=by
    dsimp[List.all_toArray,all_map,di];intro _ _;rfl
   have B:(List.map ((λ_=>Value.type "int") ∘ λv=>Value.int (F v).1 (F v).2) (f::d)).toArray[0]?=some (Value.type "int"):=by simp
   rw[B];dsimp[ha,fF];exact aV<|aV q
end
end Sx
namespace L2
open PySem PySem.Spec PyProof.Rows
section
variable {X:Cx}
theorem C2:∀{rs:ba}{its:ar},Vals (rs.map V.ref) its->its=rs.map Value.ref
 | [],_,r=>by cases r;rfl
 | a::rs,_,r=>by
  cases r with
  | cons h t=>
   have e:_=Value.ref a:=h;rw[e,C2 t];rfl
theorem CL:∀(rs:ba),Vals (rs.map V.ref) (rs.map Value.ref)
 | []=>.nil
 | a::rs=>.cons (show RelV (.ref a) (.ref a)from rfl)<|CL rs
def MI{s:aA}{H:Hp}{Q:VK}{h':aq}{tk:Nat}{rs:ba}{kss:List<|ae}(I1:Inv X pins σ H { s with heap:=h',toks:=tk })(ro:Sx.RO kss.length)(hlen:rs.length=kss.length)(hz:rs.length<=sizeLine)
  (hT:∀(i:Nat) (r:ak) (ks:ae),rs[i]?=some r->kss[i]?=some ks->nX X.K H r (ks.map V.int)/\ks≠[])
  (q:∀l g,H l=none->Sx.Cl g 0 kss.length->Sx.So (Sx.MV kss) g 0 kss.length->Q (.ref l) (upd H l<|.lst<|((List.range kss.length).map λi=>rs.getD (g i) 0).map V.ref)) :
  wpAny (model X.prog X.w) X.A.in1 (do
   let l <- newList (rs.map Value.ref)
   let _ <- holding [l] (call (Value.builtin "list.sort") [l] [])
   ret l) (λfin s'=>∃v,fin=Fin.done (Flow.ret v)/\EP X pins σ Q v s') X.xe { s with heap:=h',toks:=tk }:=by
 have m:(rs.map Value.ref).length=kss.length:=by rw[aF,hlen]
 refine aI<|wpAny_newList ?_;have d:(h'.push<|seqObj "list" (rs.map Value.ref).toArray 0).get? h'.objs.size=some (seqObj "list" (rs.map Value.ref).toArray 0):=bA _ rfl
 skip
 have tup:∀(i:Nat) (r:ak) (ks:ae),rs[i]?=some r->kss[i]?=some ks->∃c:ar,IntsAre c ks/\IsTup (Sx.Mj (h'.push<|seqObj "list" (rs.map Value.ref).toArray 0) h'.objs.size<|rs.map Value.ref) r c.toArray:=λi r ks e1 e2=>by
  obtain⟨c,W,⟨o,J,hc,n,Y⟩,_⟩:=I1.tuple (hT i r ks e1 e2).1;refine⟨c,intsAre_of W,o,?_,hc,n,Y⟩;have lt:r<h'.objs.size:=bh J;rw[Sx.S_ (bD lt)<|by rw[dX];exact fO lt];exact aZ _ J
 refine aI (dR<|dh slot_list_sort ⟨_,d,rfl⟩ entry_list_sort (Sx.Dh (o:=Sx.MV kss) (kd:=tuples' true) d (by rw[m];lia) (by rw[m];exact ro) (λh2 Q' p=>?_) (λh2 i j f L P Q' p=>?_) λg hc hs=>⟨_,rfl,?_⟩)<|args_list_sort _)
 ·refine Sx.MC (λz=>by rw[z]at h2;simp at h2) (λv hv=>?_) p;obtain⟨i,f⟩:=List.getElem?_of_mem hv;rw[aK]at f;obtain⟨r,B,rfl⟩:=aQ.mp f;have lt:=(aG.mp B).1;have e2:kss[i]?=some kss[i]:=aH ();obtain⟨c,h1,h3⟩:=tup i r _ B e2;have k:=(hT i r _ B e2).2;generalize kss[i]=ks at h1 k
  cases h1 with
  | nil=>exact absurd rfl k
  | cons a t h1=>exact⟨r,_,a,t,rfl,h3⟩
 ·rw[m]at f L;have e1:rs[i]?=some (rs[i]'()):=aH _;have e2:rs[j]?=some (rs[j]'()):=aH _;have G:kss[i]?=some kss[i]:=aH f;have F:kss[j]?=some kss[j]:=aH L;obtain⟨x1,a1,N⟩:=tup i _ _ e1 G;obtain⟨x2,T,M⟩:=tup j _ _ e2 F;have v1:(rs.map Value.ref).getD i .none=.ref (rs[i]'()):=by rw[aL,aK,e1];rfl
  have v2:(rs.map Value.ref).getD j .none=.ref (rs[j]'()):=by rw[aL,aK,e2];rfl
  show wpAny _ _ (keyLt' (tuples' true) ((rs.map Value.ref).getD i .none)<|(rs.map Value.ref).getD j .none) Q' P _;rw[v1,v2];refine Sx.HF true N M a1 T ?_;have U:kss.getD i []=kss[i]:=by rw[aL,G];rfl
  have Z:kss.getD j []=kss[j]:=by rw[aL,F];rfl
  have:(Sx.MV kss).lt i j=HT.lexLt kss[i] kss[j]:=by show HT.lexLt _ _=_;rw[U,Z]
  rw[<- this];exact p
 ·rw[m]at hc hs ⊢;obtain⟨e,O⟩:=sortedHeap_at (out:=((List.range kss.length).map λi=>(rs.map Value.ref).getD (g i) .none).toArray) d;have old:∀b D,h'.get? b=some D->(sortedHeap (h'.push<|seqObj "list" (rs.map Value.ref).toArray 0) h'.objs.size (rs.map Value.ref) ((List.range kss.length).map λi=>(rs.map Value.ref).getD (g i) .none).toArray).get? b=some D:=λb D C=>by
   rw[sortedHeap_old (bD<|bh C)<|by rw[dX];exact fO<|bh C];exact aZ _ C
  refine aV ⟨_,rfl,.ref h'.objs.size,_,I1.laid (t':=tk) (o:=.lst<|((List.range kss.length).map λi=>rs.getD (g i) 0).map V.ref) old (aP _) ?_,rfl,q _ g (I1.hok.fresh<|aP _) hc hs⟩;refine⟨by rw[aF,aF,b_];lia,((List.range kss.length).map λi=>rs.getD (g i) 0).map Value.ref,e,CL _,?_⟩;rw[O];congr 2;rw[bC];congr 1;refine cg λi f=>?_;have:=(hc i (bW _)<|c7.mp f).2;have lt:g i<rs.length:=()
  show(rs.map Value.ref).getD (g i) .none=Value.ref (rs.getD (g i) 0);rw[aL,aK,aH lt,aL,aH lt];rfl
end
end L2
namespace Am
open PySem
inductive A where
 | unb|non|bl (b:Bool)|int (i:Int)|str (x:Str)|tup (xs:List A)|frz (xs:List A)|rng (lo hi:Int)|ref (n:Nat)|exn (c:Str)|ty (n:String)|ktu (xs:List A)
@[reducible]def ab:=List A
inductive O where
 | lst (xs:ab)|dct (kvs:List<|ae×A)|nQ (kvs:List<|Int×A)|dks (kvs:List<|Str×A)|vQ (kvs:List<|L2.ny×A)|dcf (kvs:List<|ae×A)|dkf (kvs:List<|Int×A)|ins (c:Str) (fs:List<|Str×A)
meta abbrev jB:=List O
inductive R (α:Type) where
 | ok (a:α) (S:jB)|ex (c:Str) (S:jB)|no
abbrev R.bind {α β:Type}(r:R α)(f:α->jB->R β):R β:=match r with
 | .ok a S=>f a S
 | .ex c S=>.ex c S
 | .no=>.no
abbrev R.post {α:Type}(r:R α)(P:α->jB->Prop)(E:Str->jB->Prop):Prop:=match r with
 | .ok a S=>P a S
 | .ex c S=>E c S
 | .no=>False
def jL{α β:Type}{r:R α}{f:α->jB->R β}{P:β->jB->Prop}{E:Str->jB->Prop}(h:(r.bind f).post P E):r.post (λa S=>(f a S).post P E) E:=by
 cases r<;>exact h
def Nc{α:Type}{r:R α}{P P':α->jB->Prop}{E J:Str->jB->Prop}(h:r.post P E)(U:∀a S,P a S->P' a S)(Z:∀c S,E c S->J c S):r.post P' J:=by
 cases r with
 | ok a S=>exact U _ _ h
 | ex c S=>exact Z _ _ h
 | no=>exact h.elim
abbrev gd {α:Type}(c:Prop)[Decidable c](r:R α):R α:=if c then r else .no
abbrev opt {α β:Type}(o:Option β)(f:β->R α):R α:=match o with
 | some b=>f b
 | none=>.no
def j4{α:Type}{c:Prop}[Decidable c]{r:R α}{P:α->jB->Prop}{E:Str->jB->Prop}(h:(gd c r).post P E):c/\r.post P E:=by
 unfold gd at h;by_cases hc:c
 ·rw[aR hc]at h;exact⟨hc,h⟩
 ·rw[aN hc]at h;exact h.elim
def jI{α β:Type}{o:Option β}{f:β->R α}{P:α->jB->Prop}{E:Str->jB->Prop}(h:(opt o f).post P E):∃b,o=some b/\(f b).post P E:=by
 cases o with
 | none=>exact h.elim
 | some b=>exact⟨b,rfl,h⟩
def Up{α:Type}{c:Prop}[Decidable c]{r:R α}(h:c):gd c r=r:=aR h
abbrev jA (S:jB)(n:Nat):Option (ab):=match S[n]? with
 | some (.lst xs)=>some xs
 | _=>none
def jP{n:Nat}(h:jA S n=some xs):S[n]?=some (.lst xs):=by
 unfold jA at h;split at h
 ·rename_i e;cases h;exact e
 ·cases h
def rO{S:jB}{n:Nat}(h:S[n]?=some (.lst xs)):jA S n=some xs:=by
 unfold jA;rw[h]
inductive RS where
 | nx (τ:ab) (S:jB)|rt (a:A) (S:jB)|bk (τ:ab) (S:jB)|ct (τ:ab) (S:jB)|ex (c:Str) (S:jB)|no
meta abbrev Ex:=ab->jB->R A
meta abbrev qu:=ab->jB->R (ab)
meta abbrev Te:=ab->jB->R Bool
meta abbrev Sm:=ab->jB->RS
meta abbrev Tg:=A->ab->jB->R (ab)
end Am
namespace Am
open PySem L2
section
variable (K:au) (ρ:ba) (H:Hp)
abbrev ClN (K:au)(c:Str)(C:ak):Prop:=PySem.W.nsIn K mainGlobals c=some (some<|.ref C)
abbrev Fz (K:au)(H:Hp)(a:ak)(vs:List V):Prop:=
 (∃o,H a=some (.frz o<|.lst vs))\/∃(o:Obj) (c:Array af) (n:Nat),K.lookup a=some o/\o.cls=.type "list" /\ o.dict=none/\o.data=.seq c n/\c.size<=sizeLine/\Vals vs c.toList
abbrev KTp (K:au)(a:ak)(vs:List V):Prop:=∃(o:Obj) (c:Array af) (n:Nat),K.lookup a=some o/\o.cls=.type "tuple" /\ o.dict=none/\o.data=.seq c n/\c.size<=sizeLine/\Vals vs c.toList
mutual
inductive AV:A->V->Prop
 | non:AV .non .non
 | bl (b:Bool):AV (.bl b) (.bl b)
 | int (i:Int):AV (.int i) (.int i)
 | str (x:Str):AV (.str x) (.str x)
 | ty (n:String):AV (.ty n) (.ty n)
 | tup {a:ak} {xs:ab} {vs:List V} (h:H a=some (.tup vs)) (r:AVs xs vs):AV (.tup xs) (.ref a)
 | frz {a:ak} {xs:ab} {vs:List V} (h:Fz K H a vs) (r:AVs xs vs):AV (.frz xs) (.ref a)
 | rng {a:ak} {lo hi:Int} (h:H a=some (.rng lo hi)):AV (.rng lo hi) (.ref a)
 | ref {a:ak} {n:Nat} (h:ρ[n]?=some a):AV (.ref n) (.ref a)
 | exn {a C:ak} {c:Str} {oe:Obj} (n:ClN K c C) (h:H a=some (.frz oe xu)) (x:XO C oe):AV (.exn c) (.ref a)
 | ktu {a:ak} {xs:ab} {vs:List V} (h:KTp K a vs) (r:AVs xs vs):AV (.ktu xs)<|.ref a
inductive AVs:ab->List V->Prop
 | nil:AVs [] []
 | cons {x:A} {v:V} {xs:ab} {vs:List V} (h:AV x v) (t:AVs xs vs):AVs (x::xs) (v::vs)
end
abbrev DV:List (ae×A)->List (List Key×V)->Prop
 | [],[]=>True
 | p::r,q::r'=>(q.1=p.1.map Sum.inl/\AV K ρ H p.2 q.2)/\DV r r'
 | _,_=>False
abbrev DI:List (Int×A)->List (Key×V)->Prop
 | [],[]=>True
 | p::r,q::r'=>(q.1=Sum.inl p.1/\AV K ρ H p.2 q.2)/\DI r r'
 | _,_=>False
abbrev DS:List (Str×A)->List (Key×V)->Prop
 | [],[]=>True
 | p::r,q::r'=>(q.1=Sum.inr p.1/\AV K ρ H p.2 q.2)/\DS r r'
 | _,_=>False
abbrev DP:List (L2.ny×A)->List (L2.ny×ak×af)->Prop
 | [],[]=>True
 | p::r,q::r'=>(q.1=p.1/\L2.tX H q.2.1 q.1/\∃v,RelV v q.2.2/\AV K ρ H p.2 v)/\DP r r'
 | _,_=>False
abbrev OR (a:ak):O->Prop
 | .lst xs=>∃d,H a=some (.lst d)/\AVs K ρ H xs d
 | .dct c=>∃ks,H a=some (.dT ks)/\DV K ρ H c ks
 | .nQ c=>∃ks,H a=some (.dK ks)/\DI K ρ H c ks
 | .dks c=>∃ks,H a=some (.dK ks)/\DS K ρ H c ks
 | .vQ c=>∃xs,H a=some (.ext<|L2.vZ a xs)/\DP K ρ H c xs
 | .dcf c=>∃o ks,H a=some (.frz o<|.dT ks)/\DV K ρ H c ks
 | .dkf c=>∃o ks,H a=some (.frz o<|.dK ks)/\DI K ρ H c ks
 | .ins _ _=>∃o u,H a=some (.frz o u)
structure Rel (S:jB):Prop where
 len:ρ.length=S.length
 nd:ρ.Nodup
 «at»:∀(n:Nat) (a:ak) (o:O),ρ[n]?=some a->S[n]?=some o->OR K ρ H a o
end
abbrev Imm:HO->Prop
 | .tup _=>True
 | .rng _ _=>True
 | .frz _ _=>True
 | _=>False
structure Ext0 (ρ ρ':ba)(H H':Hp):Prop where
 pre:ρ <+: ρ'
 im:∀a u,Imm u->H a=some u->H' a=some u
structure Ext (ρ ρ':ba)(H H':Hp):Prop extends Ext0 ρ ρ' H H' where
 fr:∀a u,H a=some u->a∉ρ->H' a=some u
 nw:∀a,a∈ρ'->a∈ρ\/H a=none
def Ext.refl{H:Hp}:Ext ρ ρ H H:=⟨⟨dN _,λ_ _ _ h=>h⟩,λ_ _ h _=>h,λ_ h=>.inl h⟩
def Ext.trans{H H1 H2:Hp}(a:Ext ρ ρ1 H H1)(b:Ext ρ1 ρ2 H1 H2):Ext ρ ρ2 H H2:=⟨⟨a.pre.trans b.pre,λx u i h=>b.im x u i<|a.im x u i h⟩,λx u h n=>b.fr x u (a.fr x u h n) λz=>(a.nw x z).elim n λz=>by(rw[z]at h;cases h),λx h=>by
 by_cases c:x∈ρ
 ·exact .inl c
 ·right
  cases q:H x with
  | none=>rfl
  | some u=>
   rcases b.nw x h with z|z
   ·exact((a.nw x z).elim c λz=>by(rw[z]at q;cases q)).elim
   ·rw[a.fr x u q c]at z;cases z⟩
def Ext0.get{H H':Hp}(e:Ext0 ρ ρ' H H'){n:Nat}{a:ak}(h:ρ[n]?=some a):ρ'[n]?=some a:=by
 obtain⟨t,rfl⟩:=e.pre;rw[bu (aG.mp h).1];exact h
section
variable {K:au}{ρ ρ':ba}{H H':Hp}
def Ext0.sqT(e:Ext0 ρ ρ' H H'){a:ak}(h:nX K H a vs):nX K H' a vs:=by
 rcases h with(h|⟨o,h⟩)|h
 ·exact .inl (.inl<|e.im _ _ trivial h)
 ·exact .inl (.inr ⟨o,e.im _ _ trivial h⟩)
 ·exact .inr h
def Ext0.fz(e:Ext0 ρ ρ' H H'){a:ak}(h:Fz K H a vs):Fz K H' a vs:=by
 rcases h with⟨o,h⟩|h
 ·exact .inl ⟨o,e.im _ _ trivial h⟩
 ·exact .inr h
def Fz.SO{a:ak}(h:Fz K H a vs):qf K H a vs:=by
 rcases h with⟨o,h⟩|h
 ·exact .inl (.inr ⟨o,h⟩)
 ·exact .inr h
mutual
theorem AV.l8(e:Ext0 ρ ρ' H H'):∀{x:A}{v:V},AV K ρ H x v->AV K ρ' H' x v
 | _,_,.non=>.non
 | _,_,.bl b=>.bl b
 | _,_,.int i=>.int i
 | _,_,.str x=>.str x
 | _,_,.ty x=>.ty x
 | _,_,.tup h r=>.tup (e.im _ _ trivial h) (AVs.l8 e r)
 | _,_,.frz h r=>.frz (e.fz h) (AVs.l8 e r)
 | _,_,.rng h=>.rng (e.im _ _ trivial h)
 | _,_,.ref h=>.ref (e.get h)
 | _,_,.exn n h x=>.exn n (e.im _ _ trivial h) x
 | _,_,.ktu h r=>.ktu h<|AVs.l8 e r
theorem AVs.l8(e:Ext0 ρ ρ' H H'):∀{xs:ab}{vs:List V},AVs K ρ H xs vs->AVs K ρ' H' xs vs
 | _,_,.nil=>.nil
 | _,_,.cons h t=>.cons (AV.l8 e h)<|AVs.l8 e t
end
theorem DV.l8(e:Ext0 ρ ρ' H H'):∀{xs:List<|ae×A}{vs:List<|List Key×V},DV K ρ H xs vs->DV K ρ' H' xs vs
 | [],[],_=>trivial
 | _::_,_::_,⟨⟨a,b⟩,r⟩=>⟨⟨a,AV.l8 e b⟩,DV.l8 e r⟩
def DV.ext{x:List<|ae×A}{v:List<|List Key×V}(h:DV K ρ H x v)(e:Ext ρ ρ' H H'):DV K ρ' H' x v:=DV.l8 e.toExt0 h
theorem DI.l8(e:Ext0 ρ ρ' H H'):∀{xs:List<|Int×A}{vs:List<|Key×V},DI K ρ H xs vs->DI K ρ' H' xs vs
 | [],[],_=>trivial
 | _::_,_::_,⟨⟨a,b⟩,r⟩=>⟨⟨a,AV.l8 e b⟩,DI.l8 e r⟩
def DI.ext{x:List<|Int×A}{v:List<|Key×V}(h:DI K ρ H x v)(e:Ext ρ ρ' H H'):DI K ρ' H' x v:=DI.l8 e.toExt0 h
theorem DS.l8(e:Ext0 ρ ρ' H H'):∀{xs:List<|Str×A}{vs:List<|Key×V},DS K ρ H xs vs->DS K ρ' H' xs vs
 | [],[],_=>trivial
 | _::_,_::_,⟨⟨a,b⟩,r⟩=>⟨⟨a,AV.l8 e b⟩,DS.l8 e r⟩
def DS.ext{x:List<|Str×A}{v:List<|Key×V}(h:DS K ρ H x v)(e:Ext ρ ρ' H H'):DS K ρ' H' x v:=DS.l8 e.toExt0 h
def tX.l8{b:ak}{k:L2.ny}(e:Ext0 ρ ρ' H H'):L2.tX H b k->L2.tX H' b k:=λ⟨r1,r2,h1,h2,h3⟩=>⟨r1,r2,e.im _ _ trivial h1,e.im _ _ trivial h2,e.im _ _ trivial h3⟩
theorem DP.l8(e:Ext0 ρ ρ' H H'):∀{xs:List<|L2.ny×A}{vs:List<|L2.ny×ak×af},DP K ρ H xs vs->DP K ρ' H' xs vs
 | [],[],_=>trivial
 | _::_,_::_,⟨⟨a,k,v,c,b⟩,r⟩=>⟨⟨a,tX.l8 e k,v,c,AV.l8 e b⟩,DP.l8 e r⟩
def DP.ext{x:List<|L2.ny×A}{v:List<|L2.ny×ak×af}(h:DP K ρ H x v)(e:Ext ρ ρ' H H'):DP K ρ' H' x v:=DP.l8 e.toExt0 h
def AV.ext{x:A}{v:V}(h:AV K ρ H x v)(e:Ext ρ ρ' H H'):AV K ρ' H' x v:=AV.l8 e.toExt0 h
def AVs.ext{x:ab}{v:List V}(h:AVs K ρ H x v)(e:Ext ρ ρ' H H'):AVs K ρ' H' x v:=AVs.l8 e.toExt0 h
theorem AVs.length:∀{xs:ab}{vs:List V},AVs K ρ H xs vs->xs.length=vs.length
 | _,_,.nil=>rfl
 | _,_,.cons _ t=>cH (·+1)<|AVs.length t
theorem AVs.append:∀{xs ys:ab}{vs ws:List V},AVs K ρ H xs vs->AVs K ρ H ys ws->AVs K ρ H (xs++ys) (vs++ws)
 | _,_,_,_,.nil,s=>s
 | _,_,_,_,.cons h t,s=>.cons h<|AVs.append t s
theorem AVs.get:∀{xs:ab}{vs:List V}{i:Nat}{x:A},AVs K ρ H xs vs->xs[i]?=some x->∃v,vs[i]?=some v/\AV K ρ H x v
 | _,_,_,_,.nil,e=>by simp at e
 | _,_,0,_,.cons h _,e=>by simp at e;subst e;exact⟨_,rfl,h⟩
 | _,_,i+1,x,.cons _ t,e=>by
  obtain⟨u,h1,h2⟩:=AVs.get (i:=i) (x:=x) t (by simpa using e);exact⟨u,by simpa using h1,h2⟩
theorem AVs.set{x:A}{v:V}(h:AV K ρ H x v):∀{xs:ab}{vs:List V}(i:Nat),AVs K ρ H xs vs->AVs K ρ H (xs.set i x) (vs.set i v)
 | _,_,_,.nil=>.nil
 | _,_,0,.cons _ t=>.cons h t
 | _,_,i+1,.cons q t=>.cons q<|AVs.set h i t
def AVs.one{x:A}{v:V}(h:AV K ρ H x v):AVs K ρ H [x] [v]:=.cons h .nil
theorem AVs.eraseIdx:∀{xs:ab}{vs:List V}(i:Nat),AVs K ρ H xs vs->AVs K ρ H (xs.eraseIdx i) (vs.eraseIdx i)
 | _,_,_,.nil=>.nil
 | _,_,0,.cons _ t=>t
 | _,_,i+1,.cons q t=>.cons q<|AVs.eraseIdx i t
theorem tZ:∀(ns:ae),AVs K ρ H (ns.map .int) (ns.map .int)
 | []=>.nil
 | n::ns=>.cons (.int n)<|tZ ns
def Rel.lay{S:jB}{p:ak}(R:Rel K ρ H S)(J:H p=none)(r:AVs K ρ H xs vs):Ext ρ (ρ++[p]) H (upd H p<|.lst vs)/\Rel K (ρ++[p]) (upd H p<|.lst vs) (S++[.lst xs])/\(ρ++[p])[S.length]?=some p:=by
 have ex:Ext ρ (ρ++[p]) H (upd H p<|.lst vs):=⟨⟨dO _ _,λa u _ h=>by rw[jK<|jR h J];exact h⟩,λa u h _=>by rw[jK<|jR h J];exact h,λa h=>by
  rcases bJ.mp h with z|z
  ·exact .inl z
  ·have e:a=p:=by simpa using z
   rw[e];exact .inr J⟩
 have f:∀(n:Nat) (a:ak),ρ[n]?=some a->a≠p:=by
  intro n a e z;subst z;have hn:n<S.length:=by rw[<- R.len];exact(aG.mp e).1
  have:=R.at n a S[n] e (aH hn)
  cases g:S[n]with
  | lst xs=>rw[g]at this;obtain⟨vs,h,_⟩:=this;rw[J]at h;cases h
  | dct _|nQ _|dks _|vQ _=>rw[g]at this;obtain⟨vs,h,_⟩:=this;rw[J]at h;cases h
  | dcf _|dkf _=>rw[g]at this;obtain⟨_,vs,h,_⟩:=this;rw[J]at h;cases h
  | ins _ _=>rw[g]at this;obtain⟨_,_,h⟩:=this;rw[J]at h;cases h
 have c:(ρ++[p])[S.length]?=some p:=by rw[<- R.len];simp
 refine⟨ex,⟨by simp[R.len],?_,?_⟩,c⟩
 ·rw[bN];cb_eq;have:b=p:=by simpa using hb
  obtain⟨n,hn,k⟩:=iB.mp ha;exact f n a (by rw[aH hn,k])<|e.trans this
 ·intro n a o h1 h2;by_cases hn:n<S.length
  ·rw[bu<|by rw[R.len];exact hn]at h1;rw[bu hn]at h2;have:=R.at n a o h1 h2
   cases o with
   | lst ys=>obtain⟨d,e,q⟩:=this;exact⟨d,by rw[jK<|f n a h1];exact e,q.ext ex⟩
   | dct _|nQ _|dks _|vQ _=>obtain⟨d,e,q⟩:=this;exact⟨d,by rw[jK<|f n a h1];exact e,q.ext ex⟩
   | dcf _|dkf _=>obtain⟨j,d,e,q⟩:=this;exact⟨j,d,by rw[jK<|f n a h1];exact e,q.ext ex⟩
   | ins _ _=>obtain⟨j,m,e⟩:=this;exact⟨j,m,by rw[jK<|f n a h1];exact e⟩
  ·have e:n=S.length:=by
    have:=(aG.mp h2).1;simp at this
    lia
   subst e;rw[c]at h1
   cases h1
   simp at h2;subst h2;exact⟨vs,j6,r.ext ex⟩
def Rel.im{p:ak}(R:Rel K ρ H S)(J:H p=none):Ext ρ ρ H (upd H p u)/\Rel K ρ (upd H p u) S:=by
 have ex:Ext ρ ρ H (upd H p u):=⟨⟨dN _,λa u _ h=>by rw[jK<|jR h J];exact h⟩,λa u h _=>by rw[jK<|jR h J];exact h,λ_ h=>.inl h⟩;refine⟨ex,R.len,R.nd,λn a o h1 h2=>?_⟩;have:=R.at n a o h1 h2
 cases o with
 | lst ys=>obtain⟨c,e,q⟩:=this;exact⟨c,by rw[jK<|jR e J];exact e,q.ext ex⟩
 | dct _|nQ _|dks _|vQ _=>obtain⟨c,e,q⟩:=this;exact⟨c,by rw[jK<|jR e J];exact e,q.ext ex⟩
 | dcf _|dkf _=>obtain⟨d,c,e,q⟩:=this;exact⟨d,c,by rw[jK<|jR e J];exact e,q.ext ex⟩
 | ins _ _=>obtain⟨d,f,e⟩:=this;exact⟨d,f,by rw[jK<|jR e J];exact e⟩
def Rel.put{S:jB}{n:Nat}{a:ak}(R:Rel K ρ H S)(ha:ρ[n]?=some a)(hS:S[n]?=some (.lst xs))(r:AVs K ρ H ys ws):Ext ρ ρ H (upd H a<|.lst ws)/\Rel K ρ (upd H a<|.lst ws) (S.set n<|.lst ys):=by
 obtain⟨k,e,_⟩:=R.at n a _ ha hS;have ex:Ext ρ ρ H (upd H a<|.lst ws):=⟨⟨dN _,λb u i h=>by
  have:b≠a:=by
   intro z;subst z;rw[e]at h;cases h;exact i
  rw[jK this];exact h⟩,λb u h n=>by
  rw[jK λz=>n<|by rw[z];exact aY ha];exact h,λ_ h=>.inl h⟩
 refine⟨ex,by rw[cz];exact R.len,R.nd,λm b o h1 h2=>?_⟩;by_cases f:m=n
 ·subst f;rw[ha]at h1;cases h1;rw[bK (aG.mp hS).1]at h2
  cases h2
  exact⟨ws,j6,r.ext ex⟩
 ·rw[bG<|Ne.symm f]at h2;have nb:b≠a:=λz=>by
   subst z;obtain⟨t,e1⟩:=aG.mp ha;obtain⟨p,e2⟩:=aG.mp h1;exact f<|(cI R.nd).mp<|e2.trans e1.symm
  have:=R.at m b o h1 h2
  cases o with
  | lst ys=>obtain⟨c,d,q⟩:=this;exact⟨c,by rw[jK nb];exact d,q.ext ex⟩
  | dct _|nQ _|dks _|vQ _=>obtain⟨c,d,q⟩:=this;exact⟨c,by rw[jK nb];exact d,q.ext ex⟩
  | dcf _|dkf _=>obtain⟨g,c,d,q⟩:=this;exact⟨g,c,by rw[jK nb];exact d,q.ext ex⟩
  | ins _ _=>obtain⟨g,j,d⟩:=this;exact⟨g,j,by rw[jK nb];exact d⟩
def Rel.lst{n:Nat}{a:ak}(R:Rel K ρ H S)(ha:ρ[n]?=some a)(hS:S[n]?=some (.lst xs)):∃vs,H a=some (.lst vs)/\AVs K ρ H xs vs:=R.at n a _ ha hS
structure SR (K:au)(ρ:ba)(H:Hp)(τ:ab)(σ:St):Prop where
 len:τ.length=σ.length
 «at»:∀(i:Nat) (a:A),τ[i]?=some a->a=.unb\/∃v,σ[i]?=some (some v)/\AV K ρ H a v
def SR.l8(s:SR K ρ H τ σ)(e:Ext0 ρ ρ' H H'):SR K ρ' H' τ σ:=⟨s.len,λi a h=>by
 rcases s.at i a h with z|⟨v,h1,h2⟩
 ·exact .inl z
 ·exact .inr ⟨v,h1,AV.l8 e h2⟩⟩
def SR.ext(s:SR K ρ H τ σ)(e:Ext ρ ρ' H H'):SR K ρ' H' τ σ:=s.l8 e.toExt0
def Rel.out{D:ak}(R:Rel K ρ H S)(J:H D=some (.lst vs))(hn:D∉ρ):Ext0 ρ ρ H (upd H D<|.lst ws)/\Rel K ρ (upd H D<|.lst ws) S:=by
 have ex:Ext0 ρ ρ H (upd H D<|.lst ws):=⟨dN _,λb u i h=>by
  have:b≠D:=by
   intro z;subst z;rw[J]at h;cases h;exact i
  rw[jK this];exact h⟩
 refine⟨ex,R.len,R.nd,λn a o h1 h2=>?_⟩;have na:a≠D:=λz=>hn (by rw[<- z];exact aY h1);have:=R.at n a o h1 h2
 cases o with
 | lst ys=>obtain⟨c,e,q⟩:=this;exact⟨c,by rw[jK na];exact e,AVs.l8 ex q⟩
 | dct _|nQ _|dks _|vQ _=>obtain⟨c,e,q⟩:=this;exact⟨c,by rw[jK na];exact e,q.l8 ex⟩
 | dcf _|dkf _=>obtain⟨d,c,e,q⟩:=this;exact⟨d,c,by rw[jK na];exact e,q.l8 ex⟩
 | ins _ _=>obtain⟨d,f,e⟩:=this;exact⟨d,f,by rw[jK na];exact e⟩
def Rel.take{S:jB}{D:ak}(R:Rel K ρ H S)(J:H D=some (.lst vs))(hn:D∉ρ)(r:AVs K ρ H xs vs):Rel K (ρ++[D]) H (S++[.lst xs])/\(ρ++[D])[S.length]?=some D:=by
 have ex:Ext0 ρ (ρ++[D]) H H:=⟨dO _ _,λ_ _ _ h=>h⟩;have c:(ρ++[D])[S.length]?=some D:=by rw[<- R.len];simp
 refine⟨⟨by simp[R.len],?_,λn a o h1 h2=>?_⟩,c⟩
 ·rw[bN];cb_eq;have:b=D:=by simpa using hb
  exact hn<|by rw[<- this,<- e];exact ha
 ·by_cases hs:n<S.length
  ·rw[bu<|by rw[R.len];exact hs]at h1;rw[bu hs]at h2;have:=R.at n a o h1 h2
   cases o with
   | lst ys=>obtain⟨d,e,q⟩:=this;exact⟨d,e,AVs.l8 ex q⟩
   | dct _|nQ _|dks _|vQ _=>obtain⟨d,e,q⟩:=this;exact⟨d,e,q.l8 ex⟩
   | dcf _|dkf _=>obtain⟨f,d,e,q⟩:=this;exact⟨f,d,e,q.l8 ex⟩
   | ins _ _=>obtain⟨f,g,e⟩:=this;exact⟨f,g,e⟩
  ·have e:n=S.length:=by
    have:=(aG.mp h2).1;simp at this
    lia
   subst e;rw[c]at h1
   cases h1
   simp at h2;subst h2;exact⟨vs,J,AVs.l8 ex r⟩
def SR.set{τ:ab}{σ:St}{a:A}{v:V}(s:SR K ρ H τ σ)(h:AV K ρ H a v):SR K ρ H (τ.set i a) (σ.set i<|some v):=by
 refine⟨by simp[s.len],λj b e=>?_⟩;by_cases c:j=i
 ·subst c;have d:j<τ.length:=by
   have:=(aG.mp e).1;simpa using this
  rw[bK d]at e
  cases e
  exact .inr ⟨v,bK<|by rw[<- s.len];exact d,h⟩
 ·rw[bG<|Ne.symm c]at e;rw[bG<|Ne.symm c];exact s.at j b e
end
end Am
namespace Am
open PySem PySem.Spec PyProof.Rows L2
abbrev XE (X:Cx)(ρ:ba)(H:Hp):Str->jB->Prop:=λc d=>∀(C:ak) (ρ':ba) (H':Hp),ClN X.K c C->Ext ρ ρ' H H'->Rel X.K ρ' H' d->EX X (.ref C) none H'
def XE.ext{X:Cx}{H H':Hp}{c:Str}(h:XE X ρ H c S)(e:Ext ρ ρ' H H'):XE X ρ' H' c S:=λC ρ2 H2 n e2=>h C ρ2 H2 n<|e.trans e2
abbrev Cs (X:Cx)(ρ:ba)(H:Hp)(Q:VK):A->jB->Prop:=λa c=>∀ρ' H' v,Ext ρ ρ' H H'->Rel X.K ρ' H' c->AV X.K ρ' H' a v->Q v H'
abbrev okB (X:Cx)(ρ:ba)(H:Hp)(Q:Bool->Hp->Prop):Bool->jB->Prop:=λb c=>∀ρ' H',Ext ρ ρ' H H'->Rel X.K ρ' H' c->Q b H'
abbrev okL (X:Cx)(ρ:ba)(H:Hp)(Q:List V->Hp->Prop):ab->jB->Prop:=λas d=>∀ρ' H' c,Ext ρ ρ' H H'->Rel X.K ρ' H' d->AVs X.K ρ' H' as c->Q c H'
def Cs.ext{X:Cx}{H H':Hp}{Q:VK}{a:A}(h:Cs X ρ H Q a S)(e:Ext ρ ρ' H H'):Cs X ρ' H' Q a S:=λρ2 H2 v e2=>h ρ2 H2 v<|e.trans e2
def okB.ext{X:Cx}{H H':Hp}{Q:Bool->Hp->Prop}{a:Bool}(h:okB X ρ H Q a S)(e:Ext ρ ρ' H H'):okB X ρ' H' Q a S:=λρ2 H2 e2=>h ρ2 H2<|e.trans e2
def jE{α:Type}{X:Cx}{H H':Hp}{r:R α}{P P':α->jB->Prop}(h:r.post P<|XE X ρ H)(e:Ext ρ ρ' H H')(J:∀a S,P a S->P' a S):r.post P' (XE X ρ' H'):=Nc h J λ_ _ z=>z.ext e
abbrev tE (X:Cx)(c:Ex):TE:=λσ H Q=>∃ρ S τ,Rel X.K ρ H S/\SR X.K ρ H τ σ/\(c τ S).post (Cs X ρ H Q) (XE X ρ H)
abbrev tT (X:Cx)(c:Te):TT:=λσ H Q=>∃ρ S τ,Rel X.K ρ H S/\SR X.K ρ H τ σ/\(c τ S).post (okB X ρ H Q) (XE X ρ H)
abbrev tL (X:Cx)(c:qu):TA:=λσ H Q=>∃ρ S τ,Rel X.K ρ H S/\SR X.K ρ H τ σ/\(c τ S).post (okL X ρ H Q) (XE X ρ H)
abbrev AE (X:Cx)(e:aC)(c:Ex):Prop:=PE X e<|tE X c
abbrev AT (X:Cx)(e:aC)(c:Te):Prop:=PT X e<|tT X c
abbrev AW (X:Cx)(e:aC)(c:Te):Prop:=PW X e<|tT X c
abbrev AL (X:Cx)(es:List aC)(c:qu):Prop:=PA X es<|tL X c
def PE.imp{X:Cx}{e:aC}{t t':TE}(h:PE X e t)(i:∀σ H Q,t' σ H Q->t σ H Q):PE X e t':=λpins s σ H Q I q=>h pins s σ H Q I<|i σ H Q q
def PT.imp{X:Cx}{e:aC}{t t':TT}(h:PT X e t)(i:∀σ H Q,t' σ H Q->t σ H Q):PT X e t':=λpins s σ H Q I q=>h pins s σ H Q I<|i σ H Q q
def PW.imp{X:Cx}{e:aC}{t t':TT}(h:PW X e t)(i:∀σ H Q,t' σ H Q->t σ H Q):PW X e t':=λw pins s σ H Q I q=>h w pins s σ H Q I<|i σ H Q q
def PA.imp{X:Cx}{e:List aC}{t t':TA}(h:PA X e t)(i:∀σ H Q,t' σ H Q->t σ H Q):PA X e t':=λp pins s σ H Q I q=>h p pins s σ H Q I<|i σ H Q q
def AW.at{X:Cx}{e:aC}{c:Te}(h:AW X e c):AT X e c:=h _
abbrev A.qL:A->Bool
 | .unb=>true
 | _=>false
abbrev jx (i:Nat):Ex:=λτ S=>if (τ.getD i .unb).qL then .no else .ok (τ.getD i .unb) S
abbrev eC (a:A):Ex:=λ_ S=>.ok a S
section
variable {X:Cx}{pos:Pos}{a b:aC}
def jw(i:Nat){x:Str}(U:X.N[i]?=some x<|>ε)(hv:Vis X.env.scope x:=by first|exact Or.inl rfl|exact Or.inr (Or.inl rfl)|exact Or.inr<|Or.inr rfl)(Z:(x == ("__debug__" : Str))=false:=by decide)
  (J:(x == ("__classdict__" : Str))=false:=by decide):AE X (.Name x pos) (jx i):=PE.imp (ZL U hv Z J) λσ H Q h9=>by
 z_go;unfold jx at h
 cases c:τ[i]? with
 | none=>
  rw[aL,c]at h;exact h.elim
 | some x=>
  rw[aL,c]at h
  rcases r.at i x c with z|⟨v,e,q⟩
  ·subst z;exact h.elim
  ·refine⟨v,e,?_⟩
   cases x<;>first|(exact h ρ H v .refl R q)|exact h.elim
def jJ{i:Int}{j pos}:AE X (.Constant (.int i) j pos) (eC<|.int i):=PE.imp Zm λσ H Q ⟨ρ,S,τ,R,r,h⟩=>h ρ H _ .refl R<|.int i
def B3{j pos}:AE X (.Constant (.bool i) j pos) (eC<|.bl i):=PE.imp abD λσ H Q ⟨ρ,S,τ,R,r,h⟩=>h ρ H _ .refl R<|.bl i
def RQ{j pos}:AE X (.Constant .none j pos) (eC .non):=PE.imp ZD λσ H Q ⟨ρ,S,τ,R,r,h⟩=>h ρ H _ .refl R .non
abbrev jH (f:A->A->jB->R A)(J U:Ex):Ex:=λτ S=>(J τ S).bind λa S1=>(U τ S1).bind λb S2=>f a b S2
abbrev r2 (X:Cx)(f:A->A->jB->R A):R2:=λx y H Q=>∃ρ S a b,Rel X.K ρ H S/\AV X.K ρ H a x/\AV X.K ρ H b y/\(f a b S).post (Cs X ρ H Q) (XE X ρ H)
abbrev r1 (X:Cx)(f:A->jB->R A):V->Hp->VK->Prop:=λx H Q=>∃ρ S a,Rel X.K ρ H S/\AV X.K ρ H a x/\(f a S).post (Cs X ρ H Q) (XE X ρ H)
abbrev rN (X:Cx)(f:ab->jB->R A):List V->Hp->VK->Prop:=λxs H Q=>∃ρ S as,Rel X.K ρ H S/\AVs X.K ρ H as xs/\(f as S).post (Cs X ρ H Q) (XE X ρ H)
def pL.imp{f:af->af->Sem af}{r J:R2}(h:pL X f r)(i:∀x y H Q,J x y H Q->r x y H Q):pL X f J:=λpins s σ H x y v u Q I rx ry q=>h pins s σ H x y v u Q I rx ry<|i _ _ _ _ q
def kG.imp{f:af}{r J:List V->Hp->VK->Prop}(h:kG X f r)(i:∀x H Q,J x H Q->r x H Q):kG X f J:=λpins s σ H x v Q I rx q=>h pins s σ H x v Q I rx<|i _ _ _ q
def sy{f:A->A->jB->R A}{J U:Ex}{H:Hp}{Q:VK}(h:tE X (jH f J U) σ H Q):tOp (r2 X f) (tE X J) (tE X U) σ H Q:=by
 o_rec;refine⟨ρ,S,τ,R,r,jE (jL h) .refl λa S1 h1 ρ1 H1 x e1 R1 v1=>⟨ρ1,S1,τ,R1,r.ext e1,jE (jL h1) e1 λb S2 h2 ρ2 H2 y e2 R2 v2=>?_⟩⟩;exact⟨ρ2,S2,a,b,R2,v1.ext e2,v2,jE h2 (e1.trans e2) λc S3 h3=>h3.ext<|e1.trans e2⟩
def jU{f:A->A->jB->R A}{J U:Ex}(Z:pL X (binaryOp op)<|r2 X f)(ha:AE X a J)(hb:AE X b U):AE X (.BinOp a op b pos) (jH f J U):=
 PE.imp (abU Z ha hb) λσ H Q h=>sy h
def HE{op:CmpOp}{f:A->A->jB->R A}{J U:Ex}(Z:pL X (compareOp op)<|r2 X f)(ha:AE X a J)(hb:AE X b U)(hm:behindInMarks op b=false:=by first|exact Qt _|with_unfolding_all rfl):AE X (.Compare a [op] [b] pos) (jH f J U):=
 PE.imp (Vj Z ha hb hm) λσ H Q h=>sy h
abbrev A.Z0:A->jB->bd
 | .non,_=>some false
 | .bl b,_=>some b
 | .int i,_=>some (i != 0)
 | .str x,_=>if x.length<=sizeLine then some ((x.length:Int) != 0)else none
 | .tup xs,_=>some (!xs.isEmpty)
 | .frz xs,_=>some (!xs.isEmpty)
 | .ref n,S=>(jA S n).map λxs=>!xs.isEmpty
 | _,_=>none
abbrev u_ (c:Ex):Te:=λτ S=>(c τ S).bind λa S1=>opt (a.Z0 S1) λb=>.ok b S1
abbrev qh (c:Ex):Te:=λτ S=>(c τ S).bind λa S1=>match a with
 | .bl b=>.ok b S1
 | _=>.no
def FF{K:au}{H:Hp}{b:Bool}{v:V}(h:AV K ρ H (.bl b) v):v=.bl b:=by cases h;rfl
def kg{op:CmpOp}{f:A->A->jB->R A}{J U:Ex}(Z:pL X (compareOp op)<|r2 X f)(ha:AE X a J)(hb:AE X b U)(hm:behindInMarks op b=false:=by first|exact Qt _|with_unfolding_all rfl):AT X (.Compare a [op] [b] pos) (qh<|jH f J U):=
 PT.imp (T7 Z ha hb hm) λσ H Q h9=>by
  z_go;refine sy ⟨ρ,S,τ,R,r,jE (jL h) .refl λc S1 h1 ρ1 H1 x e1 R1 v1=>?_⟩
  cases c with
  | bl k=>cases FF v1;exact⟨k,rfl,h1 ρ1 H1 e1 R1⟩
  | _=>exact h1.elim
def Z8{K:au}{H:Hp}{x:A}{v:V}{b:Bool}(R:Rel K ρ H S)(h:AV K ρ H x v)(e:x.Z0 S=some b):XM K v H b:=by
 have c:∀{xs:ab} {d:List V},AVs K ρ H xs d->(!xs.isEmpty)=!d.isEmpty:=λr=>by cases r<;>rfl
 cases h with
 | non=>exact(a_ e).symm
 | bl b=>exact(a_ e).symm
 | int i=>exact(a_ e).symm
 | str x=>
  by_cases f:x.length<=sizeLine
  ·exact⟨f,by have:=(aR f).symm.trans e;exact(a_ this).symm⟩
  ·have:=(aN f).symm.trans e;cases this
 | tup h r=>exact .inr (.inl ⟨_,nX.of h,by rw[<- c r];exact(a_ e).symm⟩)
 | frz h r=>exact .inl ⟨_,h.SO,by rw[<- c r];exact(a_ e).symm⟩
 | rng h=>cases e
 | ty n=>cases e
 | exn n h x=>cases e
 | ktu h r=>cases e
 | @ref a n h=>
  have e:(jA S n).map (λxs=>!xs.isEmpty)=some b:=e;obtain⟨xs,hn,e⟩:=aQ.mp e;obtain⟨d,h1,h2⟩:=R.lst h<|jP hn;exact .inl ⟨d,qf.of h1,by rw[<- c h2];exact e.symm⟩
def qb{J:Ex}(ha:AE X a J)(U:(∀whole,isTrue a X.env whole=(do let v <- whole;standAt a.pos;holding [v] (truthy v)))<|>ζ):AT X a (u_ J):=
 PT.imp (Pz ha U) λσ H Q ⟨ρ,S,τ,R,r,h⟩=>⟨ρ,S,τ,R,r,jE (jL h) .refl λc S1 h1 ρ1 H1 x e1 R1 v1=>by
  obtain⟨b,hb,h1⟩:=jI h1;exact⟨b,Z8 R1 v1 hb,h1 ρ1 H1 e1 R1⟩⟩
abbrev Hq (c:Te):Te:=λτ S=>(c τ S).bind λb S1=>.ok (!b) S1
abbrev Hi (c d:Te):Te:=λτ S=>(c τ S).bind λb S1=>match b with|true=>d τ S1|false=>.ok false S1
abbrev Z2 (c d:Te):Te:=λτ S=>(c τ S).bind λb S1=>match b with|true=>.ok true S1|false=>d τ S1
def zE{c:Te}(h:AT X a c):AT X (.UnaryOp .Not a pos) (Hq c):=PT.imp (YB h) λσ H Q ⟨ρ,S,τ,R,r,h⟩=>⟨ρ,S,τ,R,r,jE (jL h) .refl λb S1 h1=>h1⟩
def and_imp{c d:Te}{H:Hp}{Q:Bool->Hp->Prop}(h:tT X (Hi c d) σ H Q):abm (tT X c) (tT X d) σ H Q:=by
 o_rec;refine⟨ρ,S,τ,R,r,jE (jL h) .refl λb S1 h1 ρ1 H1 e1 R1=>?_⟩
 cases b with
 | true=>
  rw[aR rfl];kst_p
 | false=>
  rw[aN br];exact h1 ρ1 H1 e1 R1
def or_imp{c d:Te}{H:Hp}{Q:Bool->Hp->Prop}(h:tT X (Z2 c d) σ H Q):tOr (tT X c) (tT X d) σ H Q:=by
 o_rec;refine⟨ρ,S,τ,R,r,jE (jL h) .refl λb S1 h1 ρ1 H1 e1 R1=>?_⟩
 cases b with
 | false=>
  rw[aN br];kst_p
 | true=>
  rw[aR rfl];exact h1 ρ1 H1 e1 R1
variable {rest:List aC}
def EK{c:Te}(h:AT X a c):AW X (.BoolOp .And [a] pos) c:=Ug h
def E_{c:Te}(h:AT X a c):AW X (.BoolOp .Or [a] pos) c:=Za h
def Hz{c d:Te}(h:AT X a c)(h2:AW X (.BoolOp .And (b::rest) pos) d):AW X (.BoolOp .And (a::b::rest) pos) (Hi c d):=PW.imp (Yr h h2) λ_ _ _ q=>and_imp q
def LM{c d:Te}(h:AT X a c)(h2:AW X (.BoolOp .Or (b::rest) pos) d):AW X (.BoolOp .Or (a::b::rest) pos) (Z2 c d):=PW.imp (ab_ h h2) λ_ _ _ q=>or_imp q
abbrev Mv (c d:Ex):Ex:=λτ S=>(c τ S).bind λa S1=>match a with | .bl true=>d τ S1 | .bl false=>.ok (.bl false) S1|_=>.no
abbrev eOr (c d:Ex):Ex:=λτ S=>(c τ S).bind λa S1=>match a with | .bl true=>.ok (.bl true) S1 | .bl false=>d τ S1|_=>.no
abbrev UT (c:Ex):Ex:=λτ S=>(c τ S).bind λa S1=>match a with | .bl b=>.ok (.bl !b) S1|_=>.no
def HB{op}{c:Ex}(h:AE X a c):AE X (.BoolOp op [a] pos) c:=Zr h
def IV{c d:Ex}(h:AE X a c)(h2:AE X (.BoolOp .And (b::rest) pos) d):AE X (.BoolOp .And (a::b::rest) pos) (Mv c d):=PE.imp (YN h h2) λσ H Q h9=>by
 z_go;refine⟨ρ,S,τ,R,r,jE (jL h) .refl λb S1 h1 ρ1 H1 x e1 R1 v1=>?_⟩
 cases b with
 | bl k=>
  cases FF v1
  refine⟨k,rfl,?_⟩
  cases k with
  | true=>
   rw[aR rfl];kst_p
  | false=>
   rw[aN br];exact h1 ρ1 H1 _ e1 R1<|.bl false
 | _=>exact h1.elim
def QL{c:Ex}(h:AE X a c):AE X (.UnaryOp .Not a pos) (UT c):=PE.imp (YI h) λσ H Q h9=>by
 z_go;refine⟨ρ,S,τ,R,r,jE (jL h) .refl λb S1 h1 ρ1 H1 x e1 R1 v1=>?_⟩
 cases b with
 | bl k=>
  cases FF v1
  exact⟨k,rfl,h1 ρ1 H1 _ e1 R1<|.bl _⟩
 | _=>exact h1.elim
abbrev eIf (t:Te)(c d:Ex):Ex:=λτ S=>(t τ S).bind λb S1=>match b with|true=>c τ S1|false=>d τ S1
def aaF{t:Te}{c d:Ex}{e:aC}(J:AT X e t)(ha:AE X a c)(hb:AE X b d):AE X (.IfExp e a b pos) (eIf t c d):=PE.imp (P4 J ha hb) λσ H Q h9=>by
 z_go;refine⟨ρ,S,τ,R,r,jE (jL h) .refl λb S1 h1 ρ1 H1 e1 R1=>?_⟩
 cases b with
 | true=>
  rw[aR rfl];kst_p
 | false=>
  rw[aN br];kst_p
abbrev jG:qu:=λ_ S=>.ok [] S
abbrev jy (c:Ex)(d:qu):qu:=λτ S=>(c τ S).bind λa S1=>(d τ S1).bind λas S2=>.ok (a::as) S2
def jD:AL X [] jG:=PA.imp AR λσ H Q ⟨ρ,S,τ,R,r,h⟩=>h ρ H _ .refl R .nil
def jz{e:aC}{c:Ex}{d:qu}(ha:AE X e c)(J:AL X es d)(hs:starEach (e::es) X.env=(false,eval e X.env)::starEach es X.env<|>ε):AL X (e::es) (jy c d):=
 PA.imp (wF ha J hs) λσ H Q h9=>by
  z_go;refine⟨ρ,S,τ,R,r,jE (jL h) .refl λa S1 h1 ρ1 H1 x e1 R1 v1=>⟨ρ1,S1,τ,R1,r.ext e1,jE (jL h1) e1 λas S2 h2 ρ2 H2 xs e2 R2 v2=>?_⟩⟩;exact h2 ρ2 H2 _ (e1.trans e2) R2<|.cons (v1.ext e2) v2
abbrev sQ (d:qu):Ex:=λτ S=>(d τ S).bind λas S1=>gd (as.length<=sizeLine)<|.ok (.tup as) S1
abbrev newL (as:ab)(S:jB):R A:=gd (as.length<=sizeLine)<|.ok (.ref S.length)<|S++[.lst as]
abbrev pN (d:qu):Ex:=λτ S=>(d τ S).bind λas S1=>newL as S1
def yI{H J:Hp}{Q:VK}(R:Rel X.K ρ H S)(r:AVs X.K ρ H as vs)(e:Ext ρ0 ρ J H)(h:Cs X ρ0 J Q (.tup as) S):∀p,H p=none->Q (.ref p) (upd H p<|.tup vs):=λp c=>by
 obtain⟨ex,d⟩:=R.im (u:=.tup vs) c;exact h ρ _ _ (e.trans ex) d<|.tup j6<|r.ext ex
def qU{H J:Hp}{S:jB}{Q:VK}(R:Rel X.K ρ H S)(r:AVs X.K ρ H as vs)(e:Ext ρ0 ρ J H)(h:Cs X ρ0 J Q (.ref S.length)<|S++[.lst as]):∀p,H p=none->Q (.ref p) (upd H p<|.lst vs):=λp c=>by
 obtain⟨ex,d,g⟩:=R.lay c r;exact h _ _ _ (e.trans ex) d<|.ref g
def Ui{H J:Hp}{vs:List V}{Q:VK}(R:Rel X.K ρ H S)(r:AVs X.K ρ H as vs)(e:Ext ρ0 ρ J H)(h:(newL as S).post (Cs X ρ0 J Q)<|XE X ρ0 J):vs.length<=sizeLine/\∀p,H p=none->Q (.ref p) (upd H p<|.lst vs):=by
 obtain⟨c,h⟩:=j4 h;exact⟨by rw[<- r.length];exact c,qU R r e h⟩
def o9{d:qu}{x1}(h:AL X es d):AE X (.Tuple es x1 pos) (sQ d):=PE.imp (ZV h) λσ H Q h9=>by
 z_go;refine⟨ρ,S,τ,R,r,jE (jL h) .refl λas S1 h1 ρ1 H1 xs e1 R1 v1=>?_⟩;obtain⟨c,h1⟩:=j4 h1;exact⟨by rw[<- v1.length];exact c,yI R1 v1 e1 h1⟩
def mz{d:qu}(h:AL X es d):AE X (.List es pos) (pN d):=PE.imp (Ys h) λσ H Q ⟨ρ,S,τ,R,r,h⟩=>
 ⟨ρ,S,τ,R,r,jE (jL h) .refl λas S1 h1 ρ1 H1 xs e1 R1 v1=>Ui R1 v1 e1 h1⟩
end
section
variable {X:Cx}{pos:Pos}{a b:aC}
abbrev aSub (a b:A)(S:jB):R A:=match a,b with
 | .int i,.int j=>.ok (.int<|i-j) S
 | _,_=>.no
def A3:pL X (binaryOp .Sub) (r2 X aSub):=pL.imp XH λx y H Q h9=>by
 w_up
 cases va<;>first|exact h.elim|(cases vb<;>first|exact h.elim|exact⟨_,_,rfl,rfl,h _ _ _ .refl R<|.int _⟩)
abbrev FP (i j:Int):Bool:=(decide (-(2 ^ 64)<i) && decide (i<2 ^ 64)) || (decide (-(2 ^ 64)<j) && decide (j<2 ^ 64))
def mulOk_of{i j:Int}(h:FP i j=true):Uy i j:=by
 unfold FP at h;dsimp[Bool.or_eq_true,cJ,decide_eq_true_eq]at h;exact h
abbrev wR (a b:A)(S:jB):R A:=match a,b with
 | .int i,.int j=>gd (FP i j) (.ok (.int<|i * j) S)
 | .ref n,.int k=>opt (jA S n) λxs=>gd (-(2 ^ 63)<=k/\k<2 ^ 63/\xs.length * k.toNat<=sizeLine) (.ok (.ref S.length)<|S++[.lst (List.replicate k.toNat xs).flatten])
 | _,_=>.no
theorem AVs.rep{K:au}{H:Hp}(r:AVs K ρ H xs vs):∀k:Nat,AVs K ρ H (List.replicate k xs).flatten (List.replicate k vs).flatten
 | 0=>.nil
 | k+1=>by rw[dD,dD,eN,eN];exact r.append<|AVs.rep r k
def BW:pL X (binaryOp .Mult) (r2 X wR):=λpins s σ H x y v u Q I rx ry h9=>by
 w_up
 cases va with
 | int i=>
  cases vb with
  | int j=>
   obtain⟨f,h⟩:=j4 h;exact XA pins s σ H _ _ v u Q I rx ry ⟨i,j,rfl,rfl,mulOk_of f,h _ _ _ .refl R<|.int _⟩
  | _=>exact h.elim
 | @ref p n d=>
  cases vb with
  | int k=>
   ksr_p;obtain⟨hc,h⟩:=j4 h;obtain⟨c,h1,h2⟩:=R.lst d<|jP hn;exact W4 pins s σ H _ _ v u Q I rx ry ⟨p,k,c,rfl,rfl,h1,hc.1,hc.2.1,by rw[<- h2.length];exact hc.2.2,qU R (h2.rep _) .refl h⟩
  | _=>exact h.elim
 | _=>exact h.elim
abbrev Kx (a b:A)(S:jB):R A:=match a,b with
 | .int i,.int j=>gd (0<j/\j<18446744073709551616) (.ok (.int<|i / j) S)
 | _,_=>.no
def Q8:pL X (binaryOp .FloorDiv) (r2 X Kx):=pL.imp Ol λx y H Q h9=>by
 w_up
 cases va<;>first|exact h.elim|(cases vb<;>first|exact h.elim|exact⟨_,_,rfl,rfl,(j4 h).1,(j4 h).2 _ _ _ .refl R<|.int _⟩)
abbrev DK (a b:A)(S:jB):R A:=match a,b with
 | .int i,.int j=>gd (0<j) (.ok (.int<|i % j) S)
 | _,_=>.no
def C5:pL X (binaryOp .Mod) (r2 X DK):=pL.imp XF λx y H Q h9=>by
 w_up
 cases va<;>first|exact h.elim|(cases vb<;>first|exact h.elim|exact⟨_,_,rfl,rfl,(j4 h).1,(j4 h).2 _ _ _ .refl R<|.int _⟩)
abbrev Yk (a b:A)(S:jB):R A:=match a,b with
 | .int i,.int j=>gd (0<=j/\j<=1000000/\i.natAbs<2 ^ 64) (.ok (.int<|i ^ j.toNat) S)
 | _,_=>.no
def aaE:pL X (binaryOp .Pow) (r2 X Yk):=pL.imp Z7 λx y H Q h9=>by
 w_up
 cases va<;>first|exact h.elim|(cases vb<;>first|exact h.elim|exact⟨_,_,rfl,rfl,(j4 h).1,(j4 h).2 _ _ _ .refl R<|.int _⟩)
abbrev kZ (a b:A)(S:jB):R A:=match a,b with
 | .int i,.int j=>.ok (.int<|i+j) S
 | .tup xs,.tup ys=>gd (xs.length+ys.length<=sizeLine) (.ok (.tup<|xs++ys) S)
 | .str x,.str y=>gd (x.length+y.length<=sizeLine) (.ok (.str<|x++y) S)
 | .ref n,.ref m=>opt (jA S n) λxs=>opt (jA S m) λys=>gd (xs.length+ys.length<=sizeLine) (.ok (.ref S.length)<|S++[.lst<|xs++ys])
 | _,_=>.no
def AVs.nil_inv{K:au}{H:Hp}(r:AVs K ρ H xs vs):xs=[] ↔ vs=[]:=by cases r<;>simp
def mF:pL X (binaryOp .Add) (r2 X kZ):=λpins s σ H x y v u Q I rx ry h9=>by
 w_up
 cases va with
 | int i=>
  cases vb with
  | int j=>exact Yz pins s σ H _ _ v u Q I rx ry ⟨i,j,rfl,rfl,h _ _ _ .refl R<|.int _⟩
  | _=>exact h.elim
 | str x=>
  cases vb with
  | str y=>
   obtain⟨hc,h⟩:=j4 h;exact Iu pins s σ H _ _ v u Q I rx ry ⟨x,y,rfl,rfl,hc,h _ _ _ .refl R<|.str _⟩
  | _=>exact h.elim
 | @tup p xs c h1 r1=>
  cases vb with
  | @tup q ys d h2 r2=>
   obtain⟨hc,h⟩:=j4 h;by_cases hv:c=[]
   ·have g:=r1.nil_inv.mpr hv;subst hv g;exact PM pins s σ H _ _ v u Q I rx ry ⟨p,q,d,rfl,rfl,nX.of h1,nX.of h2,h _ _ _ .refl R<|.tup h2 r2⟩
   ·refine Vk pins s σ H _ _ v u Q I rx ry ⟨p,q,c,d,rfl,rfl,nX.of h1,nX.of h2,hv,by rw[<- r1.length,<- r2.length];exact hc,λe=>?_,λ_=>yI R (r1.append r2) .refl h⟩;have B:=r2.nil_inv.mpr e;subst B;rw[cj]at h;exact h _ _ _ .refl R<|.tup h1 r1
  | _=>exact h.elim
 | @ref p n C=>
  cases vb with
  | @ref q m t=>
   ksr_p;obtain⟨ys,k,h⟩:=jI h;obtain⟨hc,h⟩:=j4 h;obtain⟨c,h1,h2⟩:=R.lst C<|jP hn;obtain⟨d,h3,f⟩:=R.lst t<|jP k;exact Y8 pins s σ H _ _ v u Q I rx ry ⟨p,q,c,d,rfl,rfl,h1,h3,by rw[<- h2.length,<- f.length];exact hc,qU R (h2.append f) .refl h⟩
  | _=>exact h.elim
 | _=>exact h.elim
abbrev A.ints:ab->Option (ae)
 | []=>some []
 | .int i::xs=>(A.ints xs).map (i::·)
 | _=>none
def ZW{x:A}{bs:ae}(e:A.ints (x::xs)=some bs):∃b cs,x=.int b/\A.ints xs=some cs/\bs=b::cs:=by
 unfold A.ints at e;split at e
 ·rename_i z;cases z
 ·rename_i i ys z
  cases z
  obtain⟨cs,h1,h2⟩:=aQ.mp e;exact⟨i,cs,rfl,h1,h2.symm⟩
 ·cases e
def yc{K:au}{H:Hp}:∀{xs:ab}{vs:List V}{bs:ae},AVs K ρ H xs vs->A.ints xs=some bs->vs=bs.map V.int:=by
 intro xs
 induction xs with
 | nil=>
  intro vs bs h e
  cases h
  cases e
  rfl
 | cons x xs c=>
  intro vs bs h e;obtain⟨b,d,rfl,e1,rfl⟩:=ZW e
  cases h with
  | cons h t=>
   cases h
   rw[c t e1];rfl
abbrev aLt (a b:A)(S:jB):R A:=match a,b with
 | .int i,.int j=>.ok (.bl<|decide<|i<j) S
 | _,_=>.no
def Y4(J:X.A.units+64<cLine):pL X (compareOp .Lt) (r2 X aLt):=λpins s σ H x y v u Q I rx ry h9=>by
 w_up
 cases va with
 | int i=>
  cases vb with
  | int j=>exact abM pins s σ H _ _ v u Q I rx ry ⟨i,j,rfl,rfl,h _ _ _ .refl R<|.bl _⟩
  | _=>exact h.elim
 | _=>exact h.elim
abbrev aLe (a b:A)(S:jB):R A:=match a,b with
 | .int i,.int j=>.ok (.bl<|decide<|i<=j) S
 | _,_=>.no
def adE:pL X (compareOp .LtE) (r2 X aLe):=pL.imp abu λx y H Q h9=>by
 w_up
 cases va<;>first|exact h.elim|(cases vb<;>first|exact h.elim|exact⟨_,_,rfl,rfl,h _ _ _ .refl R<|.bl _⟩)
abbrev GB (a b:A)(S:jB):R A:=match a,b with
 | .int i,.int j=>.ok (.bl<|decide<|j<i) S
 | _,_=>.no
def Hy(J:X.A.units+64<cLine):pL X (compareOp .Gt) (r2 X GB):=λpins s σ H x y v u Q I rx ry h9=>by
 w_up
 cases va with
 | int i=>
  cases vb with
  | int j=>exact aaJ pins s σ H _ _ v u Q I rx ry ⟨i,j,rfl,rfl,h _ _ _ .refl R<|.bl _⟩
  | _=>exact h.elim
 | _=>exact h.elim
abbrev aGe (a b:A)(S:jB):R A:=match a,b with
 | .int i,.int j=>.ok (.bl<|decide<|j<=i) S
 | _,_=>.no
abbrev IW (neg:Bool)(a b:A)(S:jB):R A:=match a,b with
 | .bl i,.bl j=>.ok (.bl<|if neg then i != j else i == j) S
 | .non,.non=>.ok (.bl<|!neg) S
 | .unb,.non=>.no
 | .exn _,.non=>.no
 | _,.non=>.ok (.bl neg) S
 | _,_=>.no
def X0{n:Bool}{a b:A}(h1:b≠.non)(h2:∀j,b≠.bl j):IW n a b S=.no:=by
 unfold IW;split<;>first|rfl|exact absurd rfl h1|exact absurd rfl<|h2 _
def Xo{n:Bool}{a b:A}{F:A->jB->Prop}{G:Str->jB->Prop}(h:(IW n a b S).post F G)(h1:b≠.non)(h2:∀j,b≠.bl j):False:=by
 rw[X0 h1 h2]at h;exact h
def T9:pL X (compareOp .IsNot) (r2 X<|IW true):=λpins s σ H x y v u Q I rx ry h9=>by
 w_up
 cases vb with
 | non=>
  refine UG pins s σ H _ _ v u Q I rx ry ⟨rfl,?_⟩
  cases va<;>first|exact h _ _ _ .refl R (.bl _)|exact h.elim
 | bl j=>
  cases va with
  | bl i=>exact MY pins s σ H _ _ v u Q I rx ry ⟨i,j,rfl,rfl,h _ _ _ .refl R<|.bl _⟩
  | _=>exact h.elim
 | _=>
  exact(Xo h (λz=>nomatch z) nofun).elim
abbrev WS (f:A->jB->R A)(c:Ex):Ex:=λτ S=>(c τ S).bind λa S1=>f a S1
abbrev Cu (a:A)(S:jB):R A:=match a with
 | .int i=>.ok (.int<|-i) S
 | _=>.no
def abK:UnR X (unaryOp .USub) (r1 X Cu):=λpins s σ H x v Q I rx h9=>by
 obtain⟨ρ,S,a,R,va,h⟩:=h9
 cases va with
 | int i=>exact XI pins s σ H _ v Q I rx ⟨i,rfl,h _ _ _ .refl R<|.int _⟩
 | _=>exact h.elim
def ZJ{f:A->jB->R A}{c:Ex}{H:Hp}{Q:VK}(h:tE X (WS f c) σ H Q):tUn (r1 X f) (tE X c) σ H Q:=by
 o_rec;exact⟨ρ,S,τ,R,r,jE (jL h) .refl λa S1 h1 ρ1 H1 x e1 R1 v1=>⟨ρ1,S1,a,R1,v1,jE h1 e1 λc S3 h3=>h3.ext e1⟩⟩
def A8{c:Ex}(h:AE X a c):AE X (.UnaryOp .USub a pos) (WS Cu c):=PE.imp (aax abK h) λ_ _ _ q=>ZJ q
abbrev m_ (a b:A)(S:jB):R A:=match a,b with
 | .tup xs,.int i=>opt (sN xs i) λx=>.ok x S
 | .frz xs,.int i=>opt (sN xs i) λx=>.ok x S
 | .ref n,.int i=>opt (jA S n) λxs=>opt (sN xs i) λx=>.ok x S
 | .str z,.int i=>gd (z.length<=sizeLine) (opt (sN z.cps.toList i) λc=>.ok (.str ⟨#[c]⟩) S)
 | _,_=>.no
def AVs.sN{K:au}{H:Hp}{i:Int}{x:A}(r:AVs K ρ H xs vs)(h:L2.sN xs i=some x):∃v,L2.sN vs i=some v/\AV K ρ H x v:=by
 unfold L2.sN at h ⊢;rw[<- r.length]
 cases c:DY xs.length i with
 | none=>rw[c]at h;cases h
 | some j=>
  rw[c]at h;exact r.get h
def aaH:SI X (r2 X m_):=λd f pins s σ H x y v u Q I rx ry ⟨ρ,S,a,b,R,va,vb,h⟩ hs=>by
 cases va with
 | @tup p xs g h1 r1=>
  cases vb with
  | int i=>
   obtain⟨x,j,h⟩:=jI h;obtain⟨z,e,q⟩:=r1.sN j;exact ZH d f pins s σ H _ _ v u Q I rx ry ⟨p,g,i,z,rfl,rfl,nX.of h1,e,h _ _ _ .refl R q⟩ hs
  | _=>exact h.elim
 | @frz p xs g h1 r1=>
  cases vb with
  | int i=>
   obtain⟨x,j,h⟩:=jI h;obtain⟨z,e,q⟩:=r1.sN j;exact JL d f pins s σ H _ _ v u Q I rx ry ⟨p,g,i,z,rfl,rfl,h1.SO,e,h _ _ _ .refl R q⟩ hs
  | _=>exact h.elim
 | @ref p n k=>
  cases vb with
  | int i=>
   ksr_p;obtain⟨x,j,h⟩:=jI h;obtain⟨g,h1,r1⟩:=R.lst k<|jP hn;obtain⟨z,e,q⟩:=r1.sN j;exact JL d f pins s σ H _ _ v u Q I rx ry ⟨p,g,i,z,rfl,rfl,qf.of h1,e,h _ _ _ .refl R q⟩ hs
  | _=>exact h.elim
 | str z=>
  cases vb with
  | int i=>
   obtain⟨m,h⟩:=j4 h;obtain⟨c,hc,h⟩:=jI h;exact Y9 d f pins s σ H _ _ v u Q I rx ry ⟨z,i,c,rfl,rfl,m,hc,h _ _ _ .refl R<|.str _⟩ hs
  | _=>exact h.elim
 | _=>exact h.elim
def kN{J U:Ex}(ha:AE X a J)(hb:AE X b U)(hs:wO b<|>θ):AE X (.Subscript a b pos) (jH m_ J U):=PE.imp (GL aaH ha hb hs) λσ H Q h=>sy h
end
abbrev pW (f:A->A->bd):ab->ab->bd
 | [],[]=>some true
 | x::xs,y::ys=>(f x y).bind λp=>(pW f xs ys).map λq=>p && q
 | _,_=>some false
inductive Sh
 | non
 | bl (b:Bool)
 | int (i:Int)
 | str (x:Str)
 | tup (xs:ab)
 | lst
abbrev Zp (S:jB):A->Option Sh
 | .non=>some .non
 | .bl b=>some (.bl b)
 | .int i=>some (.int i)
 | .str x=>some (.str x)
 | .tup xs=>some (.tup xs)
 | .ref i=>(jA S i).map λ_=>.lst
 | _=>none
abbrev TF (f:A->A->bd):Sh->Sh->bd
 | .non,.non=>some true
 | .bl x,.bl y=>some (x == y)
 | .bl x,.int y=>some ((if x then 1 else 0) == y)
 | .int x,.bl y=>some (x == (if y then 1 else 0))
 | .int x,.int y=>some (x == y)
 | .str x,.str y=>some (x == y)
 | .tup xs,.tup ys=>pW f xs ys
 | .lst,.lst=>none
 | _,_=>some false
abbrev rQ (S:jB):Nat->A->A->bd
 | 0,_,_=>none
 | n+1,a,b=>match a,b with
  | .ref i,.ref j=>(jA S i).bind λxs=>(jA S j).bind λys=>pW (rQ S n) xs ys
  | _,_=>(Zp S a).bind λx=>(Zp S b).bind λy=>TF (rQ S n) x y
section
variable {X:Cx}{pins:bj}{σ:L2.St}{H:Hp}{s:aA}{ρ:ba}{S:jB}
inductive KdV (s:aA):Sh->af->Prop
 | non:KdV s .non .none
 | bl (b:Bool):KdV s (.bl b) (.bool b)
 | int (i:Int) (t:Tok):KdV s (.int i) (.int i t)
 | str (x:Str) (t:Tok):KdV s (.str x) (.str x t)
 | tup {p:ak} {us:ar} (xs:ab) (h:s.heap.IsTuple p us.toArray):KdV s (.tup xs) (.ref p)
 | lst {p:ak} {us:ar} (h:s.heap.IsList p us.toArray):KdV s .lst<|.ref p
def Kg{p:ak}(h:s.heap.IsTuple p us)(h':s.heap.IsList p ws):False:=by
 obtain⟨o,e,c,_⟩:=h;obtain⟨o',d,f,_⟩:=h';rw[e]at d
 cases d
 exact absurd (c.symm.trans f) ⋯
def JJ(I:Inv X pins σ H s)(R:Rel X.K ρ H S){a:A}{x:V}(ha:AV X.K ρ H a x)(r:RelV x u)(e:Zp S a=some h):KdV s h u:=by
 cases ha with
 | non=>cases e;cases(show u=Value.none from r);exact .non
 | bl b=>cases e;cases(show u=Value.bool b from r);exact .bl b
 | int i=>cases e;obtain⟨t,rfl⟩:∃t,u=Value.int i t:=r;exact .int i t
 | str i=>cases e;obtain⟨t,rfl⟩:∃t,u=Value.str i t:=r;exact .str i t
 | tup h1 r1=>cases e;cases(show u=Value.ref _ from r);obtain⟨us,_,p,_⟩:=I.tuple<|nX.of h1;exact .tup _ p
 | ref h1=>
  obtain⟨xs,e1,rfl⟩:=aQ.mp e
  cases(show u=Value.ref _ from r)
  obtain⟨c,h3,r1⟩:=R.lst h1<|jP e1;obtain⟨us,_,p,_⟩:=I.list<|qf.of h3;exact .lst p.isList
 | _=>cases e
abbrev Al (B:az)(s:aA)(u v:af)(k:Bool):Prop:=SeqAt.RcAt B s u v k/\SeqAt.EqAt B s u v k/\SeqAt.RcNeAt B s u v (!k)
def abG{B:az}(J:B.units<cLine){f:A->A->bd}{v:af}{k:Bool}(d:KdV s h u)(d':KdV s h' v)(U:∀xs ys,h=.tup xs->h'≠.tup ys)(e:TF f h h'=some k):Al B s u v k:=by
 cases d with
 | non=>cases d' with
  | non=>cases e;exact⟨.none_none,.same _,.none_none⟩
  | bl b=>cases e;exact⟨.none_bool _,.none_bool _,.none_bool _⟩
  | int i t=>cases e;exact⟨.none_int _ _,.none_int _ _,.none_int _ _⟩
  | str x t=>cases e;exact⟨.none_str _ _,.none_str _ _,.none_str _ _⟩
  | tup xs p=>cases e;exact⟨.none_tuple p J,.none_tuple p J,.none_tuple p J⟩
  | lst p=>cases e;exact⟨.none_list p J,.none_list p J,.none_list p J⟩
 | bl c=>cases d' with
  | non=>cases e;exact⟨.bool_none _,.bool_none _,.bool_none _⟩
  | bl b=>cases e;exact⟨.bool_bool _ _,.bool_bool _ _,.bool_bool _ _⟩
  | int i t=>cases e;exact⟨.bool_int _ _ _,.bool_int _ _ _,.bool_int _ _ _⟩
  | str x t=>cases e;exact⟨.bool_str _ _ _,.bool_str _ _ _,.bool_str _ _ _⟩
  | tup xs p=>cases e;exact⟨.bool_tuple _ p J,.bool_tuple _ p J,.bool_tuple _ p J⟩
  | lst p=>cases e;exact⟨.bool_list _ p J,.bool_list _ p J,.bool_list _ p J⟩
 | int c j=>cases d' with
  | non=>cases e;exact⟨.int_none _ _,.int_none _ _,.int_none _ _⟩
  | bl b=>cases e;exact⟨.int_bool _ _ _,.int_bool _ _ _,.int_bool _ _ _⟩
  | int i t=>cases e;exact⟨.int_int _ _ _ _,.int_int _ _ _ _,.int_int _ _ _ _⟩
  | str x t=>cases e;exact⟨.int_str _ _ _ _,.int_str _ _ _ _,.int_str _ _ _ _⟩
  | tup xs p=>cases e;exact⟨.int_tuple _ _ p J,.int_tuple _ _ p J,.int_tuple _ _ p J⟩
  | lst p=>cases e;exact⟨.int_list _ _ p J,.int_list _ _ p J,.int_list _ _ p J⟩
 | str c j=>cases d' with
  | non=>cases e;exact⟨.str_none _ _,.str_none _ _,.str_none _ _⟩
  | bl b=>cases e;exact⟨.str_bool _ _ _,.str_bool _ _ _,.str_bool _ _ _⟩
  | int i t=>cases e;exact⟨.str_int _ _ _ _,.str_int _ _ _ _,.str_int _ _ _ _⟩
  | str x t=>cases e;exact⟨.str_str _ _ _ _,.str_str _ _ _ _,.str_str _ _ _ _⟩
  | tup xs p=>cases e;exact⟨.str_tuple _ _ p J,.str_tuple _ _ p J,.str_tuple _ _ p J⟩
  | lst p=>cases e;exact⟨.str_list _ _ p J,.str_list _ _ p J,.str_list _ _ p J⟩
 | tup zs g=>cases d' with
  | non=>cases e;exact⟨.tuple_none g J,.tuple_none g J,.tuple_none g J⟩
  | bl b=>cases e;exact⟨.tuple_bool _ g J,.tuple_bool _ g J,.tuple_bool _ g J⟩
  | int i t=>cases e;exact⟨.tuple_int _ _ g J,.tuple_int _ _ g J,.tuple_int _ _ g J⟩
  | str x t=>cases e;exact⟨.tuple_str _ _ g J,.tuple_str _ _ g J,.tuple_str _ _ g J⟩
  | tup xs p=>exact absurd rfl (U _ _ rfl)
  | lst p=>cases e;exact⟨.tuple_list g p J,.of_refs (λz=>by subst z;exact Kg g p)<|.tuple_list g p J,.tuple_list g p J⟩
 | lst g=>cases d' with
  | non=>cases e;exact⟨.list_none g J,.list_none g J,.list_none g J⟩
  | bl b=>cases e;exact⟨.list_bool _ g J,.list_bool _ g J,.list_bool _ g J⟩
  | int i t=>cases e;exact⟨.list_int _ _ g J,.list_int _ _ g J,.list_int _ _ g J⟩
  | str x t=>cases e;exact⟨.list_str _ _ g J,.list_str _ _ g J,.list_str _ _ g J⟩
  | tup xs p=>cases e;exact⟨.list_tuple g p J,.of_refs (λz=>by subst z;exact Kg p g)<|.list_tuple g p J,.list_tuple g p J⟩
  | lst p=>cases e
def DU{a:A}{x:V}(h:AV X.K ρ H a x)(e:Zp S a=some (.tup xs)):a=.tup xs/\∃p vs,x=.ref p/\H p=some (.tup vs)/\AVs X.K ρ H xs vs:=by
 cases h with
 | tup h r=>cases e;exact⟨rfl,_,_,rfl,h,r⟩
 | ref h=>obtain⟨_,_,z⟩:=aQ.mp e;cases z
 | _=>cases e
def Dp{i:Nat}{x:V}(h:AV X.K ρ H (.ref i) x):∃p,x=.ref p/\ρ[i]?=some p:=by
 cases h with
 | ref h=>exact⟨_,rfl,h⟩
def OS{a:A}(e:Zp S a=some .lst):∃i,a=.ref i:=by
 cases a with
 | ref i=>exact⟨i,rfl⟩
 | _=>cases e
def Og{n:Nat}{a b:A}{k:Bool}(e:rQ S (n+1) a b=some k):(∃i j xs ys,a=.ref i/\b=.ref j/\jA S i=some xs/\jA S j=some ys/\pW (rQ S n) xs ys=some k)\/(∃h h',Zp S a=some h/\Zp S b=some h'/\TF (rQ S n) h h'=some k/\(h=.lst->h'≠.lst)):=by
 unfold rQ at e;split at e
 ·obtain⟨xs,e1,e⟩:=cy.mp e;obtain⟨ys,e2,e⟩:=cy.mp e;exact .inl ⟨_,_,xs,ys,rfl,rfl,e1,e2,e⟩
 ·rename_i f;obtain⟨h,e1,e⟩:=cy.mp e;obtain⟨h',e2,e⟩:=cy.mp e;refine .inr ⟨h,h',e1,e2,e,λc d=>?_⟩;subst c d;obtain⟨i,rfl⟩:=OS e1;obtain⟨j,rfl⟩:=OS e2;exact f i j rfl rfl
def UA{f:A->A->bd}{k:Bool}(d:KdV s h u)(d':KdV s h' u)(J:∀xs ys,h=.tup xs->h'≠.tup ys)(e:TF f h h'=some k):k=true:=by
 cases d with
 | non=>cases d';exact(a_ e).symm
 | bl b=>cases d';exact(a_ e).symm.trans (cV b)
 | int b=>cases d';exact(a_ e).symm.trans (cV b)
 | str b=>cases d';exact(a_ e).symm.trans (cV b)
 | tup xs p=>cases d' with
  | tup=>exact absurd rfl (J _ _ rfl)
  | lst q=>exact(Kg p q).elim
 | lst p=>cases d' with
  | tup _ q=>exact(Kg q p).elim
  | lst q=>cases e
def FI{f:A->A->bd}(hf:∀a b x u k,AV X.K ρ H a x->AV X.K ρ H b x->RelV x u->f a b=some k->k=true):∀{xs ys:ab}{vs:List V}{us:ar}{k:Bool},AVs X.K ρ H xs vs->AVs X.K ρ H ys vs->Vals vs us->pW f xs ys=some k->k=true:=by
 intro xs ys vs us k h1 h2 q e
 induction q generalizing xs ys k with
 | nil=>cases h1;cases h2;exact(a_ e).symm
 | cons c _ d=>
  cases h1 with
  | cons h t=>cases h2 with
   | cons h' g=>
    obtain⟨p,e1,e⟩:=cy.mp e;obtain⟨q,e2,e3⟩:=aQ.mp e;rw[<- e3,hf _ _ _ _ p h h' c e1,d t g e2];rfl
def Lz(h h':Sh):(∃xs ys,h=.tup xs/\h'=.tup ys)\/(∀xs ys,h=.tup xs->h'≠.tup ys):=by
 cases h with
 | tup xs=>cases h' with
  | tup ys=>exact .inl ⟨xs,ys,rfl,rfl⟩
  | _=>exact .inr λ_ _ _ z=>nomatch z
 | _=>exact .inr λ_ _ z=>nomatch z
theorem E2(I:Inv X pins σ H s)(R:Rel X.K ρ H S):∀(n:Nat) (a b:A) (x:V) (u:af) (k:Bool),AV X.K ρ H a x->AV X.K ρ H b x->RelV x u->rQ S n a b=some k->k=true
 | 0,_,_,_,_,_,_,_,_,e=>nomatch e
 | n+1,a,b,x,u,k,ha,hb,ru,e=>by
  rcases Og e with⟨i,j,xs,ys,rfl,rfl,e1,e2,e⟩|⟨h,h',e1,e2,e,_⟩
  ·obtain⟨p,rfl,h1⟩:=Dp ha;obtain⟨q,z,h2⟩:=Dp hb
   cases z
   obtain⟨d,h3,r1⟩:=R.lst h1<|jP e1;obtain⟨g,c,r2⟩:=R.lst h2<|jP e2;rw[h3]at c
   cases c
   obtain⟨us,q,_⟩:=I.list<|qf.of h3;exact FI (λa b x u k=>E2 I R n a b x u k) r1 r2 q e
  ·rcases Lz h h' with⟨xs,ys,rfl,rfl⟩|f
   ·obtain⟨rfl,p,d,rfl,h3,r1⟩:=DU ha e1;obtain⟨rfl,q,g,z,c,r2⟩:=DU hb e2
    cases z
    have:=I.yO (nX.of h3)<|nX.of c;subst this;obtain⟨us,q,_⟩:=I.tuple<|nX.of h3;exact FI (λa b x u k=>E2 I R n a b x u k) r1 r2 q e
   ·exact UA (JJ I R ha ru e1) (JJ I R hb ru e2) f e
abbrev B_ (f:A->A->bd)(xs ys:ab)(j:Nat):Bool:=match xs[j]?,ys[j]? with
 | some x,some y=>(f x y).getD true
 | _,_=>true
theorem Ac{f:A->A->bd}:∀{xs ys:ab}{k:Bool},pW f xs ys=some k->k=((List.range<|min xs.length ys.length).all (B_ f xs ys) && xs.length == ys.length)/\∀j x y,xs[j]?=some x->ys[j]?=some y->f x y=some (B_ f xs ys j)
 | [],[],k,e=>⟨(a_ e).symm,λj x y h=>by simp at h⟩
 | [],_::_,k,e=>⟨(a_ e).symm,λj x y h=>by simp at h⟩
 | _::_,[],k,e=>⟨(a_ e).symm,λj x y _ h=>by simp at h⟩
 | x::xs,y::ys,k,e=>by
  unfold pW at e
  cases e1:f x y with
  | none=>rw[e1]at e;cases e
  | some p=>
   rw[e1]at e;obtain⟨q,e2,e3⟩:=aQ.mp e;obtain⟨h1,h2⟩:=Ac e2;have c:B_ f (x::xs) (y::ys) 0=p:=by simp[B_,e1]
   have ps:∀j,B_ f (x::xs) (y::ys) (j+1)=B_ f xs ys j:=λj=>by simp[B_]
   refine⟨?_,λj a b ha hb=>?_⟩
   ·rw[<- e3,h1,bR,bR,Nat.succ_min_succ,List.range_succ_eq_map,i7,all_map,c];have:(B_ f (x::xs) (y::ys) ∘ Nat.succ)=B_ f xs ys:=funext ps;rw[this,Bool.and_assoc];simp
   ·cases j with
    | zero=>
     simp at ha hb;subst ha hb;rw[c];exact e1
    | succ j=>rw[ps];exact h2 j a b (by simpa using ha)<|by simpa using hb
def Au{f:A->A->bd}{B:az}(hf:∀a b x y u v k,AV X.K ρ H a x->AV X.K ρ H b y->RelV x u->RelV y v->f a b=some k->SeqAt.EqAt B s u v k){us ts:ar}{k:Bool}
  (r1:AVs X.K ρ H xs vs) (r2:AVs X.K ρ H ys ws) (U:Vals vs us) (Z:Vals ws ts) (e:pW f xs ys=some k):∀j (h1:j<us.toArray.size) (h2:j<ts.toArray.size),SeqAt.EqAt B s us.toArray[j] ts.toArray[j] (B_ f xs ys j):=by
 intro j h1 h2;have N:=r1.length;have M:=r2.length;have L:=U.length;have J:=Z.length;have c:j<xs.length:=by simp at h1;lia
 have D:j<ys.length:=by simp at h2;lia
 have e1:xs[j]?=some xs[j]:=aH c;have e2:ys[j]?=some ys[j]:=aH D;obtain⟨x,ex,C⟩:=r1.get e1;obtain⟨y,G,m⟩:=r2.get e2;obtain⟨u,g,d⟩:=U.get ex;obtain⟨t,q,rt⟩:=Z.get G;have F:us.toArray[j]=u:=by
  have:us[j]?=some us.toArray[j]:=by simp at h1;simp[h1]
  rw[g]at this;exact(a_ this).symm
 have p:ts.toArray[j]=t:=by
  have:ts[j]?=some ts.toArray[j]:=by simp at h2;simp[h2]
  rw[q]at this;exact(a_ this).symm
 rw[F,p];exact hf _ _ x y u t _ C m d rt<|(Ac e).2 j _ _ e1 e2
def in1_units(B:az):B.in1.units=B.units+1:=rfl
theorem Li(I:Inv X pins σ H s)(R:Rel X.K ρ H S):∀(n:Nat) (B:az) (a b:A) (x y:V) (u v:af) (k:Bool),B.units+n<cLine->AV X.K ρ H a x->AV X.K ρ H b y->RelV x u->RelV y v->rQ S n a b=some k->Al B s u v k
 | 0,_,_,_,_,_,_,_,_,_,_,_,_,_,e=>nomatch e
 | n+1,B,a,b,x,y,u,v,k,hu,ha,hb,rx,ry,e=>by
  have d:B.units<cLine:=()
  have c:∀a b x y u v k,AV X.K ρ H a x->AV X.K ρ H b y->RelV x u->RelV y v->rQ S n a b=some k->SeqAt.EqAt B.in1 s u v k:=λa b x y u v k h1 h2 h3 F T=>(Li I R n B.in1 a b x y u v k (by rw[in1_units];lia) h1 h2 h3 F T).2.1;have same:=λ(z:y=x)=>E2 I R (n+1) a b x u k ha (z ▸ hb) rx e;have g:∀{p q:ak},x=.ref p->y=.ref q->u=.ref p->v=.ref q->SeqAt.RcAt B s u v k->SeqAt.EqAt B s u v k:=λ{p q} f t z3 z4 h=>by
   subst z3 z4;by_cases M:p=q
   ·subst M;rw[same<|t.trans f.symm];exact .same _
   ·exact .of_refs M h
  rcases Og e with⟨i,j,xs,ys,rfl,rfl,e1,e2,e⟩|⟨h,h',e1,e2,e,_⟩
  ·obtain⟨p,rfl,h1⟩:=Dp ha;obtain⟨q,rfl,h2⟩:=Dp hb;obtain⟨N,h3,r1⟩:=R.lst h1<|jP e1;obtain⟨W,F,r2⟩:=R.lst h2<|jP e2;obtain⟨us,C,p1,_⟩:=I.list<|qf.of h3;obtain⟨ts,m,p2,_⟩:=I.list<|qf.of F;have J:=g rfl rfl rx ry
   cases(show u=Value.ref p from rx)
   cases(show v=Value.ref q from ry)
   have U:=r1.length;have Y:=r2.length;have P:=C.length;have Z:=m.length;have D:=(Ac e).1;by_cases L:xs.length=ys.length
   ·rw[<- L,Nat.min_self,cV,Bool.and_true]at D;have G:us.toArray.size=ts.toArray.size:=by simp;lia
    have f:=SeqAt.RcAt.lists p1.isList p2.isList G d<|Au c r1 r2 C m e;have t:=SeqAt.RcNeAt.lists p1.isList p2.isList G d<|Au c r1 r2 C m e;rw[bf,<- P,<- U,<- D]at f t;exact⟨f,J f,t⟩
   ·have:(xs.length == ys.length)=false:=by simpa using L
    rw[this,Bool.and_false]at D;subst D;have G:(us.toArray.size != ts.toArray.size)=true:=by simp;lia
    have f:=SeqAt.RcAt.lists_lengths p1.isList p2.isList G d;exact⟨f,J f,SeqAt.RcNeAt.lists_lengths p1.isList p2.isList G d⟩
  ·rcases Lz h h' with⟨xs,ys,rfl,rfl⟩|O
   ·obtain⟨rfl,p,N,rfl,h3,r1⟩:=DU ha e1;obtain⟨rfl,q,W,rfl,F,r2⟩:=DU hb e2;have J:=g rfl rfl rx ry
    cases(show u=Value.ref p from rx)
    cases(show v=Value.ref q from ry)
    obtain⟨us,C,p1,_⟩:=I.tuple<|nX.of h3;obtain⟨ts,m,p2,_⟩:=I.tuple<|nX.of F;have D:=(Ac e).1;have f:=SeqAt.RcAt.tuples p1 p2 d<|Au c r1 r2 C m e;have t:=SeqAt.RcNeAt.tuples p1 p2 d<|Au c r1 r2 C m e;rw[bf,bf,<- C.length,<- m.length,<- r1.length,<- r2.length,<- D]at f t;exact⟨f,J f,t⟩
   ·exact abG d (JJ I R ha rx e1) (JJ I R hb ry e2) O e
end
section
variable {X:Cx}
abbrev s_ (neg:Bool)(a b:A)(S:jB):R A:=opt (rQ S 12 a b) λk=>.ok (.bl<|if neg then !k else k) S
def F_(J:X.A.units+64<cLine):pL X (compareOp .Eq) (r2 X<|s_ false):=λpins s σ H x y v u Q I rx ry h9=>by
 w_up;obtain⟨k,e,h⟩:=jI h;exact(Li I R 12 X.A a b x y v u k (by omega) va vb rx ry e).1 _ _ _ _ ⟨.bl _,H,I,rfl,h _ _ _ .refl R<|.bl _⟩
def Fg(J:X.A.units+64<cLine):pL X (compareOp .NotEq) (r2 X<|s_ true):=λpins s σ H x y v u Q I rx ry h9=>by
 w_up;obtain⟨k,e,h⟩:=jI h;exact(Li I R 12 X.A a b x y v u k (by omega) va vb rx ry e).2.2 _ _ _ _ ⟨.bl _,H,I,rfl,h _ _ _ .refl R<|.bl _⟩
end
section
variable {X:Cx}{pos:Pos}{a b:aC}
meta abbrev Pt:=ab->jB->R (Option Int)
abbrev abN:Pt:=λ_ S=>.ok none S
abbrev aaW (c:Ex):Pt:=λτ S=>(c τ S).bind λa S1=>match a with
 | .int i=>.ok (some i) S1
 | _=>.no
abbrev Tj (xs:ab)(lo hi:Option Int):ab:=(xs.drop<|HT.sIx xs.length 0 lo).take<|HT.sIx xs.length xs.length hi-HT.sIx xs.length 0 lo
abbrev aSl (a:A)(lo hi:Option Int)(S:jB):R A:=match a with
 | .ref n=>opt (jA S n) λxs=>.ok (.ref S.length) (S++[.lst<|Tj xs lo hi])
 | .frz xs=>.ok (.ref S.length) (S++[.lst<|Tj xs lo hi])
 | .tup xs=>gd (¬(HT.sIx xs.length 0 lo=0/\HT.sIx xs.length xs.length hi=xs.length)) (.ok (.tup<|Tj xs lo hi) S)
 | _=>.no
abbrev eSl (c:Ex)(lo hi:Pt):Ex:=λτ S=>(c τ S).bind λa S1=>(lo τ S1).bind λl S2=>(hi τ S2).bind λu S3=>aSl a l u S3
abbrev rS (X:Cx):V->Option Int->Option Int->Hp->VK->Prop:=λx lo c H Q=>∃ρ S a,Rel X.K ρ H S/\AV X.K ρ H a x/\(aSl a lo c S).post (Cs X ρ H Q) (XE X ρ H)
abbrev abQ (a:A)(S:jB):R A:=match a with
 | .ref n=>opt (jA S n) λxs=>.ok (.ref S.length) (S++[.lst xs.reverse])
 | .tup xs=>.ok (.tup xs.reverse) S
 | _=>.no
abbrev jZ (f:ab->jB->R A)(d:qu):Ex:=λτ S=>(d τ S).bind λas S1=>f as S1
def F8{f:ab->jB->R A}{d:qu}{H:Hp}{Q:VK}(h:tE X (jZ f d) σ H Q):tCB (rN X f) (tL X d) σ H Q:=by
 o_rec;exact⟨ρ,S,τ,R,r,jE (jL h) .refl λas S1 h1 ρ1 H1 c e1 R1 v1=>⟨ρ1,S1,as,R1,v1,jE h1 e1 λ_ _ z=>z.ext e1⟩⟩
variable {x:Str}{p:Pos}{e:aC}{es:List aC}{id T:String}{f:ab->jB->R A}{d:qu}
def j9(hc:kG X (.builtin id)<|rN X f)(Z:X.mg x=none)(hv:bootBuiltins x=some (.builtin id))(ha:AL X (e::es) d)(hg:Gl X x<|>ε)(hn:x ≠ "__name__"<|>δ)(J:(x == ("__debug__" : Str))=false<|>δ)
  (he:starEach (e::es) X.env=(false,eval e X.env)::starEach es X.env<|>ε) (U:((backTo pos<|starEach es X.env).any (·.1)=false)<|>ε):AE X (.Call (.Name x p) (e::es) [] pos) (jZ f d):=
 PE.imp (Pn hc hg Z hv ha hn J he U) λ_ _ _ h=>F8 h
def mX(hc:kG X (.type T)<|rN X f)(Z:X.mg x=none)(hv:bootBuiltins x=some (.type T))(ha:AL X (e::es) d)(hg:Gl X x<|>ε)(hn:x ≠ "__name__"<|>δ)(J:(x == ("__debug__" : Str))=false<|>δ)
  (he:starEach (e::es) X.env=(false,eval e X.env)::starEach es X.env<|>ε) (U:((backTo pos<|starEach es X.env).any (·.1)=false)<|>ε):AE X (.Call (.Name x p) (e::es) [] pos) (jZ f d):=
 PE.imp (Mw hc hg Z hv ha hn J he U) λ_ _ _ h=>F8 h
def BB(U:X.mg x=none)(hv:bootBuiltins x=some (.type T))(hg:Gl X x<|>ε)(hn:x ≠ "__name__"<|>δ)(J:(x == ("__debug__" : Str))=false<|>δ):AE X (.Name x pos) (eC<|.ty T):=
 PE.imp (Vs (v:=.ty T) hg U hv rfl hn J) λσ H Q ⟨ρ,S,τ,R,r,h⟩=>h ρ H _ .refl R<|.ty T
abbrev A.seq (S:jB):A->Option (ab)
 | .tup xs=>some xs
 | .frz xs=>some xs
 | .ref n=>jA S n
 | _=>none
def OE{K:au}{H:Hp}{x:A}{v:V}(R:Rel K ρ H S)(h:AV K ρ H x v)(e:x.seq S=some xs):∃p vs,v=.ref p/\(qf K H p vs\/nX K H p vs)/\AVs K ρ H xs vs:=by
 cases h with
 | tup h r=>cases a_ e;exact⟨_,_,rfl,.inr<|nX.of h,r⟩
 | frz h r=>cases a_ e;exact⟨_,_,rfl,.inl h.SO,r⟩
 | ref h=>
  obtain⟨vs,h1,r1⟩:=R.lst h<|jP e;exact⟨_,vs,rfl,.inl<|qf.of h1,r1⟩
 | _=>cases e
def Mi{K:au}{H:Hp}{x:A}(h:AVs K ρ H [x] vs):∃v,vs=[v]/\AV K ρ H x v:=by
 cases h with
 | cons h t=>cases t;exact⟨_,rfl,h⟩
def Ja{K:au}{H:Hp}{x:A}(h:AVs K ρ H [x,y] vs):∃v w,vs=[v,w]/\AV K ρ H x v/\AV K ρ H y w:=by
 cases h with
 | cons h t=>obtain⟨w,rfl,h'⟩:=Mi t;exact⟨_,_,rfl,h,h'⟩
abbrev f1 (g:A->jB->R A):ab->jB->R A:=λas S=>match as with
 | [x]=>g x S
 | _=>.no
abbrev f2 (g:A->A->jB->R A):ab->jB->R A:=λas S=>match as with
 | [x,y]=>g x y S
 | _=>.no
def SX{g:A->jB->R A}{P:A->jB->Prop}{E:Str->jB->Prop}(h:(f1 g as S).post P E):∃x,as=[x]/\(g x S).post P E:=by
 match as,h with
 | [],h=>exact h.elim
 | [x],h=>exact⟨x,rfl,h⟩
 | _::_::_,h=>exact h.elim
def UO{g:A->A->jB->R A}{P:A->jB->Prop}{E:Str->jB->Prop}(h:(f2 g as S).post P E):∃x y,as=[x,y]/\(g x y S).post P E:=by
 match as,h with
 | [],h=>exact h.elim
 | [_],h=>exact h.elim
 | [x,y],h=>exact⟨x,y,rfl,h⟩
 | _::_::_::_,h=>exact h.elim
def SY{g:A->jB->R A}{H:Hp}{Q:VK}(h:rN X (f1 g) vs H Q):∃v,vs=[v]/\∃ρ S x,Rel X.K ρ H S/\AV X.K ρ H x v/\(g x S).post (Cs X ρ H Q) (XE X ρ H):=by
 obtain⟨ρ,S,as,R,v,h⟩:=h;obtain⟨x,rfl,h⟩:=SX h;obtain⟨w,rfl,hv⟩:=Mi v;exact⟨w,rfl,ρ,S,x,R,hv,h⟩
def rn2{g:A->A->jB->R A}{H:Hp}{Q:VK}(h:rN X (f2 g) vs H Q):∃v w,vs=[v,w]/\∃ρ S x y,Rel X.K ρ H S/\AV X.K ρ H x v/\AV X.K ρ H y w/\(g x y S).post (Cs X ρ H Q) (XE X ρ H):=by
 obtain⟨ρ,S,as,R,v,h⟩:=h;obtain⟨x,y,rfl,h⟩:=UO h;obtain⟨w,d,rfl,hv,c⟩:=Ja v;exact⟨w,d,rfl,ρ,S,x,y,R,hv,c,h⟩
abbrev nL (x:A)(S:jB):R A:=match x with
 | .str x=>gd (x.length<=sizeLine) (.ok (.int x.length) S)
 | .tup xs=>.ok (.int xs.length) S
 | .frz xs=>.ok (.int xs.length) S
 | .ref n=>opt (jA S n) λxs=>.ok (.int xs.length) S
 | _=>.no
theorem tu:kG X (.builtin "len") (rN X<|f1 nL):=kG.imp Rh λf H Q h0=>by
 kpc_g;clear h0
 cases hv with
 | str z=>
  obtain⟨d,h⟩:=j4 h;exact⟨_,_,rfl,⟨d,rfl⟩,h _ _ _ .refl R<|.int _⟩
 | @tup p xs us h1 r=>exact⟨_,us.length,rfl,.inr ⟨us,(nX.of h1),rfl⟩,by rw[<- r.length];exact h _ _ _ .refl R<|.int _⟩
 | @frz p xs us h1 r=>exact⟨_,us.length,rfl,.inl ⟨us,h1.SO,rfl⟩,by rw[<- r.length];exact h _ _ _ .refl R<|.int _⟩
 | ref c=>
  ksr_p;obtain⟨us,h1,r⟩:=R.lst c<|jP hn;exact⟨_,us.length,rfl,.inl ⟨us,qf.of h1,rfl⟩,by rw[<- r.length];exact h _ _ _ .refl R<|.int _⟩
 | _=>exact h.elim
abbrev ZO (x:A)(S:jB):R A:=match x with
 | .int i=>.ok (.int<|if i<0 then -i else i) S
 | _=>.no
def abe:kG X (.builtin "abs") (rN X<|f1 ZO):=kG.imp RX λc H Q h0=>by
 kpc_g;clear h0
 cases hv<;>first|exact h.elim|exact⟨_,rfl,h _ _ _ .refl R<|.int _⟩
abbrev abJ (x y:A)(S:jB):R A:=match x,y with
 | .int i,.int j=>.ok (.int<|if j>i then j else i) S
 | _,_=>.no
abbrev abc (x y:A)(S:jB):R A:=match x,y with
 | .int i,.int j=>.ok (.int<|if j<i then j else i) S
 | _,_=>.no
abbrev CM (x:A)(S:jB):R A:=match x with
 | .int i=>.ok (.int i) S
 | .bl k=>.ok (.int<|if k then 1 else 0) S
 | .str y=>opt (PySem.intText? y) λn=>gd (y.length<=640) (.ok (.int n) S)
 | _=>.no
def NC:kG X (.type "int") (rN X<|f1 CM):=λpins s σ H xs us Q I c h0=>by
 kpc_g;clear h0
 cases hv with
 | int i=>exact C_ pins s σ H _ us Q I c (.inl ⟨i,rfl,h _ _ _ .refl R<|.int _⟩)
 | bl k=>exact C_ pins s σ H _ us Q I c (.inr ⟨k,rfl,h _ _ _ .refl R<|.int _⟩)
 | str y=>
  obtain⟨n,hn,h⟩:=jI h;obtain⟨d,h⟩:=j4 h;exact MK pins s σ H _ us Q I c ⟨y,n,rfl,d,hn,h _ _ _ .refl R<|.int _⟩
 | _=>exact h.elim
abbrev D3 (x y:A)(S:jB):R A:=match x,y with
 | .int i,.int j=>.ok (.rng i j) S
 | _,_=>.no
def QH:kG X (.type "range") (rN X<|f2 D3):=kG.imp Ew λk H Q h0=>by
 obtain⟨w,g,rfl,ρ,S,x,y,R,hv,c,h⟩:=rn2 h0;clear h0
 cases hv with
 | int i=>
  cases c with
  | int j=>
   refine⟨i,j,rfl,λp d=>?_⟩;obtain⟨ex,f⟩:=R.im (u:=.rng i j) d;exact h ρ _ _ ex f<|.rng j6
  | _=>exact h.elim
 | _=>exact h.elim
abbrev CT (i j:Int):Prop:=(-(2 ^ 62)<=i/\i<2 ^ 62/\-(2 ^ 62)<=j/\j<2 ^ 62)/\(j-i).toNat<=1000
instance (i j:Int):Decidable (CT i j):=by unfold CT;infer_instance
abbrev xo (x:A)(S:jB):R A:=match x with
 | .rng i j=>gd (CT i j) (.ok (.ref S.length)<|S++[.lst<|(lB i j).map .int])
 | .tup xs=>.ok (.ref S.length) (S++[.lst xs])
 | .frz xs=>.ok (.ref S.length) (S++[.lst xs])
 | .ref n=>opt (jA S n) λxs=>.ok (.ref S.length) (S++[.lst xs])
 | _=>.no
def Dm(hc:X.calm=true):kG X (.type "list") (rN X<|f1 xo):=λpins s σ H c us Q I rx h0=>by
 kpc_g;clear h0
 cases hv with
 | @rng p i j f=>
  obtain⟨d,h⟩:=j4 h;exact Ct hc pins s σ H _ us Q I rx ⟨p,i,j,rfl,f,d.1,d.2,qU R (tZ _) .refl h⟩
 | @tup p xs c h1 r=>exact uA pins s σ H _ us Q I rx ⟨p,c,rfl,.inr<|nX.of h1,qU R r .refl h⟩
 | @frz p xs c h1 r=>exact uA pins s σ H _ us Q I rx ⟨p,c,rfl,.inl h1.SO,qU R r .refl h⟩
 | @ref p n f=>
  ksr_p;obtain⟨c,h1,r⟩:=R.lst f<|jP hn;exact uA pins s σ H _ us Q I rx ⟨p,c,rfl,.inl<|qf.of h1,qU R r .refl h⟩
 | _=>exact h.elim
abbrev zH (x:A)(S:jB):R A:=match x with
 | .rng i j=>gd (CT i j) (.ok (.tup<|(lB i j).map .int) S)
 | .tup xs=>.ok (.tup xs) S
 | .frz xs=>.ok (.tup xs) S
 | .ref n=>opt (jA S n) λxs=>.ok (.tup xs) S
 | _=>.no
def Er(hc:X.calm=true):kG X (.type "tuple") (rN X<|f1 zH):=λpins s σ H c us Q I rx h0=>by
 kpc_g;clear h0
 cases hv with
 | @rng p i j f=>
  obtain⟨d,h⟩:=j4 h;exact B4 hc pins s σ H _ us Q I rx ⟨p,i,j,rfl,f,d.1,d.2,yI R (tZ _) .refl h⟩
 | @tup p xs c h1 r=>exact sZ pins s σ H _ us Q I rx ⟨p,c,rfl,.inr ⟨(nX.of h1),h _ _ _ .refl R<|.tup h1 r⟩⟩
 | @frz p xs c h1 r=>exact sZ pins s σ H _ us Q I rx ⟨p,c,rfl,.inl ⟨h1.SO,yI R r .refl h⟩⟩
 | @ref p n f=>
  ksr_p;obtain⟨c,h1,r⟩:=R.lst f<|jP hn;exact sZ pins s σ H _ us Q I rx ⟨p,c,rfl,.inl ⟨qf.of h1,yI R r .refl h⟩⟩
 | _=>exact h.elim
abbrev A.Nr:ab->Option (List Bool)
 | []=>some []
 | .bl b::xs=>(A.Nr xs).map (b::·)
 | _=>none
theorem NI{K:au}{H:Hp}:∀{xs:ab}{vs:List V}{bs:List Bool},AVs K ρ H xs vs->A.Nr xs=some bs->vs=bs.map V.bl
 | _,_,_,.nil,e=>by cases e;rfl
 | x::xs,_,bs,.cons h t,e=>by
  cases x with
  | bl b=>
   obtain⟨c,e1,rfl⟩:=aQ.mp (show(A.Nr xs).map (b::·)=some bs from e)
   cases h
   rw[NI t e1];rfl
  | _=>cases e
abbrev Ih (x:A)(S:jB):R A:=match x with
 | .ref n=>opt (jA S n) λxs=>opt (A.Nr xs) λbs=>.ok (.bl<|bs.all λb=>b) S
 | _=>.no
def PR(hc:X.calm=true):kG X (.builtin "all") (rN X<|f1 Ih):=kG.imp (MJ hc) λc H Q h0=>by
 kpc_g;clear h0
 cases hv with
 | @ref p n d=>
  ksr_p;obtain⟨bs,hb,h⟩:=jI h;obtain⟨c,h1,r⟩:=R.lst d<|jP hn;rw[NI r hb]at h1;exact⟨p,bs,rfl,qf.of h1,h _ _ _ .refl R<|.bl _⟩
 | _=>exact h.elim
abbrev insI (x:Int):ae->ae
 | []=>[x]
 | y::ys=>if x<=y then x::y::ys else y::insI x ys
abbrev sortI:ae->ae
 | []=>[]
 | x::xs=>insI x<|sortI xs
theorem insI_perm(x:Int):∀ys:ae,(insI x ys).Perm (x::ys)
 | []=>fW _
 | y::ys=>by
  unfold insI;by_cases h:x<=y
  ·rw[aR h]
  ·rw[aN h];exact((insI_perm x ys).cons y).trans (List.Perm.swap x y ys)
theorem sortI_perm:∀xs:ae,(sortI xs).Perm xs
 | []=>fW _
 | x::xs=>(insI_perm x<|sortI xs).trans<|(sortI_perm xs).cons x
theorem KN(x:Int):∀ys:ae,ys.Pairwise (·<=·)->(insI x ys).Pairwise (·<=·)
 | [],_=>c5 _ _
 | y::ys,h=>by
  unfold insI;obtain⟨h1,h2⟩:=cA.mp h;by_cases d:x<=y
  ·rw[aR d];exact cA.mpr ⟨λz c=>(bw.mp c).elim (λe=>e ▸ d) λc=>Int.le_trans d<|h1 z c,h⟩
  ·rw[aN d];refine cA.mpr ⟨λz c=>?_,KN x ys h2⟩
   rcases bw.mp ((insI_perm x ys).mem_iff.mp c)with e|c
   ·subst e;lia
   ·exact h1 z c
theorem By:∀xs:ae,(sortI xs).Pairwise (·<=·)
 | []=>List.Pairwise.nil
 | x::xs=>KN x _<|By xs
abbrev A.kd:A->jB->Option Kd
 | .non,_=>some .non
 | .bl _,_=>some .bl
 | .int _,_=>some .int
 | .str _,_=>some .str
 | .tup _,_=>some .tup
 | .ref n,S=>(jA S n).map λ_=>.lst
 | _,_=>none
def Uw{K:au}(k:Kd):PySem.W.kitOne K k.ty (.type "str")=some (decide<|k=.str):=by cases k<;>rfl
abbrev Me (k:Kd)(c:String):bd:=if c = "int" then some (decide<|k=.int\/k=.bl)else if c = "bool" then some (decide<|k=.bl)else if c = "tuple" then some (decide<|k=.tup)else if c = "list" then some (decide<|k=.lst)else if c = "str" then some (decide<|k=.str)else none
def J6{K:au}{k:Kd}{c:String}{b:Bool}(h:Me k c=some b):PySem.W.kitOne K k.ty (.type c)=some b:=by
 unfold Me at h;split at h
 ·rename_i e;subst e;rw[<- h];exact UZ k
 ·split at h
  ·rename_i e;subst e;rw[<- h];exact NP k
  ·split at h
   ·rename_i e;subst e;rw[<- h];exact kit_tuple k
   ·split at h
    ·rename_i e;subst e;rw[<- h];exact Q_ k
    ·split at h
     ·rename_i e;subst e;rw[<- h];exact Uw k
     ·cases h
abbrev A5 (x y:A)(S:jB):R A:=match y with
 | .ty c=>opt (x.kd S) λk=>opt (Me k c) λb=>.ok (.bl b) S
 | _=>.no
def aaG{K:au}{H:Hp}{x:A}{v:V}{k:Kd}(R:Rel K ρ H S)(h:AV K ρ H x v)(e:x.kd S=some k):(∃p vs,v=.ref p/\nX K H p vs/\k=.tup)\/Z4 H v k:=by
 cases h with
 | non=>cases e;exact .inr rfl
 | bl b=>cases e;exact .inr ⟨b,rfl⟩
 | int i=>cases e;exact .inr ⟨i,rfl⟩
 | str i=>cases e;exact .inr ⟨i,rfl⟩
 | tup h r=>cases e;exact .inl ⟨_,_,rfl,(nX.of h),rfl⟩
 | ref h=>
  obtain⟨xs,e1,e2⟩:=aQ.mp e;obtain⟨vs,h1,_⟩:=R.lst h (jP e1)
  cases e2
  exact .inr ⟨_,vs,rfl,h1⟩
 | _=>cases e
def Bb:kG X (.builtin "isinstance") (rN X<|f2 A5):=λpins s σ H g us Q I rx h0=>by
 obtain⟨w,G,rfl,ρ,S,x,y,R,hv,f,h⟩:=rn2 h0;clear h0
 cases f with
 | ty c=>
  obtain⟨k,m,h⟩:=jI h;obtain⟨b,hb,d⟩:=jI h;have d:Cs X ρ H Q (.bl b) S:=d;clear h
  rcases aaG R hv m with⟨p,g,rfl,B,rfl⟩|t
  ·obtain⟨F,D,rfl,r1,r2⟩:=vals2 rx;obtain⟨j,q,⟨o,h1,h2,_⟩,_⟩:=I.tuple B
   cases(show _=Value.ref p from r1)
   cases(show _=Value.type c from r2)
   exact cR PySem.W.kitx_tuple I.Ed ⟨o,h1,h2⟩ (J6 hb) (λz=>nomatch z) λC=>⟨.bl b,H,I.tok _,rfl,d _ _ _ .refl R<|.bl _⟩
  ·exact Gf (c:=c) pins s σ H _ us Q I rx ⟨w,_,b,rfl,t.adg,J6 hb,d _ _ _ .refl R<|.bl _⟩
 | _=>exact h.elim
end
abbrev MO (x:ae):List (ae)->List (ae)
 | []=>[x]
 | y::ys=>if HT.lexLt y x=true then y::MO x ys else x::y::ys
abbrev n8:List (ae)->List (ae)
 | []=>[]
 | x::xs=>MO x<|n8 xs
abbrev FZ (a b:ae):Prop:=HT.lexLt b a=false
def FZ.trans{a b c:ae}(h1:FZ a b)(h2:FZ b c):FZ a c:=by
 unfold FZ at *
 cases e:HT.lexLt c a with
 | false=>rfl
 | true=>
  rcases Sx.Jx (b:=b) e with z|z
  ·rw[h2]at z;cases z
  ·rw[h1]at z;cases z
theorem yX(x:ae):∀ys:List<|ae,(MO x ys).Perm (x::ys)
 | []=>fW _
 | y::ys=>by
  unfold MO;by_cases h:HT.lexLt y x=true
  ·rw[aR h];exact((yX x ys).cons y).trans (List.Perm.swap x y ys)
  ·rw[aN h]
theorem ko:∀xs:List<|ae,(n8 xs).Perm xs
 | []=>fW _
 | x::xs=>(yX x<|n8 xs).trans<|(ko xs).cons x
theorem J0(x:ae):∀ys:List<|ae,ys.Pairwise FZ->(MO x ys).Pairwise FZ
 | [],_=>c5 _ _
 | y::ys,h=>by
  unfold MO;obtain⟨h1,h2⟩:=cA.mp h;by_cases f:HT.lexLt y x=true
  ·rw[aR f];refine cA.mpr ⟨λz c=>?_,J0 x ys h2⟩
   rcases bw.mp ((yX x ys).mem_iff.mp c)with e|c
   ·subst e;unfold FZ
    cases e:HT.lexLt z y with
    | false=>rfl
    | true=>have:=Sx.DH f e;rw[Sx.EG]at this;cases this
   ·exact h1 z c
  ·rw[aN f];have d:FZ x y:=by unfold FZ;simpa using f
   exact cA.mpr ⟨λz c=>(bw.mp c).elim (λe=>e ▸ d) λc=>d.trans<|h1 z c,h⟩
theorem Bv:∀xs:List<|ae,(n8 xs).Pairwise FZ
 | []=>List.Pairwise.nil
 | x::xs=>J0 x _<|Bv xs
def IT{xs:List<|ae}(p:xs.Perm ys)(h:xs.Pairwise FZ):xs=n8 ys:=
 eX (λa b _ _ h1 h2=>(Sx.Aw h1 h2).symm) h (Bv ys) (p.trans (ko ys).symm)
theorem pig:∀(N:Nat) (l:ag),l.Nodup->(∀x∈l,x<N)->l.length<=N
 | 0,l,_,h=>by
  cases l with
  | nil=>exact aP _
  | cons a l=>exact absurd (h a<|aJ ..)<|fK _
 | N+1,l,nd,h=>by
  have h1:=pig N (l.erase N) (nd.erase N) λx c=>by
   have:=h x<|List.mem_of_mem_erase c;have:x≠N:=λz=>by
    subst z;exact(List.Nodup.not_mem_erase nd) c
   lia
  have:=List.le_length_erase (l:=l) (a:=N)
  lia
def xA{N:Nat}{g:Nat->Nat}(h:∀i,i<N->g i<N)(inj:∀i j,i<j->j<N->g i≠g j):((List.range N).map g).Perm (List.range N):=by
 have nd:((List.range N).map g).Nodup:=by
  unfold List.Nodup;rw[dH];intro i j f k d;rw[aF,b_]at f k;rw[dP,dP,eF,eF];exact inj i j d k
 have lt:∀x∈(List.range N).map g,x<N:=λx c=>by
  obtain⟨i,f,rfl⟩:=aX.mp c;exact h i<|c7.mp f
 refine(fX nd List.nodup_range).mpr λa=>⟨λha=>c7.mpr<|lt a ha,λha=>?_⟩;refine f7 λhn=>?_;have:=pig N (a::(List.range N).map g) (bZ.mpr ⟨hn,nd⟩) λx c=>by
  rcases bw.mp c with rfl|c
  ·exact c7.mp ha
  ·exact lt x c
 rw[bR,aF,b_]at this
 lia
def range_getD{α:Type}(l:List α)(d:α):(List.range l.length).map (λi=>l.getD i d)=l:=by
 apply eT;intro i;rw[aK];by_cases c:i<l.length
 ·rw[dc c];show some (l.getD i d)=_;rw[aL,aH c];rfl
 ·rw[cF<|by rw[b_];lia,cF ()];rfl
def ZE{J:List<|ae}{g:Nat->Nat}(c:Sx.Cl g 0 J.length)(U:Sx.So (Sx.MV J) g 0 J.length):(List.range J.length).map (λi=>J.getD (g i) [])=n8 J:=by
 refine IT ?_ ?_
 ·have p:=xA (N:=J.length) (g:=g) (λi k=>(c i (bW _) k).2) λi j d f z=>by
   have:=U i j (bW _) d f;rw[z]at this;exact this.Ry
  have:=p.map λi=>J.getD i [];rw[bC,range_getD]at this;exact this
 ·rw[dH];intro i j k f d;rw[aF,b_]at k f;rw[dP,dP,eF,eF];exact(U i j (bW _) d f).ge
theorem Jf{K:au}{H:Hp}{α:Type}{f:α->A}{h:α->V}:∀{l:List α},(∀a∈l,AV K ρ H (f a)<|h a)->AVs K ρ H (l.map f) (l.map h)
 | [],_=>.nil
 | a::l,e=>.cons (e a<|aJ ..)<|Jf λb hb=>e b<|aO _ hb
abbrev RS.post (r:RS)(N:ab->jB->Prop)(T:A->jB->Prop)(B C:ab->jB->Prop)(E:Str->jB->Prop):Prop:=match r with
 | .nx τ S=>N τ S
 | .rt a S=>T a S
 | .bk τ S=>B τ S
 | .ct τ S=>C τ S
 | .ex c S=>E c S
 | .no=>False
abbrev RS.of {α:Type}(r:R α)(f:α->jB->RS):RS:=match r with
 | .ok a S=>f a S
 | .ex c S=>.ex c S
 | .no=>.no
def of_post{α:Type}{r:R α}{f:α->jB->RS}{N B C:ab->jB->Prop}{T:A->jB->Prop}{E:Str->jB->Prop}(h:(RS.of r f).post N T B C E):r.post (λa S=>(f a S).post N T B C E) E:=by
 cases r<;>exact h
def RS.mono{r:RS}{N B C J U Z:ab->jB->Prop}{T T':A->jB->Prop}{E E':Str->jB->Prop}(h:r.post N T B C E)(hn:∀τ S,N τ S->J τ S)(ht:∀a S,T a S->T' a S)(hb:∀τ S,B τ S->U τ S)(hc:∀τ S,C τ S->Z τ S)(he:∀c S,E c S->E' c S):r.post J T' U Z E':=by
 cases r with
 | nx τ S=>exact hn _ _ h
 | rt a S=>exact ht _ _ h
 | bk τ S=>exact hb _ _ h
 | ct τ S=>exact hc _ _ h
 | ex c S=>exact he _ _ h
 | no=>exact h.elim
abbrev Py (X:Cx)(ρ:ba)(H:Hp)(N:L2.St->Hp->Prop):ab->jB->Prop:=λd f=>∀ρ' H' c,Ext ρ ρ' H H'->Rel X.K ρ' H' f->SR X.K ρ' H' d c->N c H'
def Py.ext{X:Cx}{H H':Hp}{N:L2.St->Hp->Prop}(h:Py X ρ H N τ S)(e:Ext ρ ρ' H H'):Py X ρ' H' N τ S:=λρ2 H2 c e2=>h ρ2 H2 c<|e.trans e2
abbrev Du (X:Cx)(ρ:ba)(H:Hp)(D:Ends)(r:RS):Prop:=r.post (Py X ρ H D.nx) (Cs X ρ H D.rt) (Py X ρ H D.bk) (Py X ρ H D.ct)<|XE X ρ H
def Du.ext{X:Cx}{H H':Hp}{D:Ends}{r:RS}(h:Du X ρ H D r)(e:Ext ρ ρ' H H'):Du X ρ' H' D r:=RS.mono h (λ_ _ z=>z.ext e) (λ_ _ z=>z.ext e) (λ_ _ z=>z.ext e) (λ_ _ z=>z.ext e) λ_ _ z=>z.ext e
abbrev tS (X:Cx)(c:Sm):TS:=λD σ H=>∃ρ S τ,Rel X.K ρ H S/\SR X.K ρ H τ σ/\Du X ρ H D (c τ S)
abbrev AS (X:Cx)(st:aE)(c:Sm):Prop:=PS X st<|tS X c
abbrev Ub (X:Cx)(J:List aE)(c:Sm):Prop:=Eg X J<|tS X c
abbrev tG (X:Cx)(g:Tg):TG:=λv σ H Q=>∃ρ S τ a,Rel X.K ρ H S/\SR X.K ρ H τ σ/\AV X.K ρ H a v/\(g a τ S).post (Py X ρ H Q) (XE X ρ H)
abbrev AG (X:Cx)(e:aC)(g:Tg):Prop:=PG X e<|tG X g
meta abbrev SN:=ab->ab->jB->R (ab)
abbrev tGs (X:Cx)(g:SN):Wc:=λc σ H Q=>∃ρ S τ as,Rel X.K ρ H S/\SR X.K ρ H τ σ/\AVs X.K ρ H as c/\(g as τ S).post (Py X ρ H Q) (XE X ρ H)
abbrev AGs (X:Cx)(es:List aC)(g:SN):Prop:=PGs X es<|tGs X g
section
variable {X:Cx}{pos:Pos}{a b e:aC}{st:aE}{rest:List aE}{c d:Sm}
def PS.imp{t t':TS}(h:PS X st t)(i:∀D σ H,t' D σ H->t D σ H):PS X st t':=λpins s σ H D I q=>h pins s σ H D I<|i D σ H q
def Eg.imp{t t':TS}(h:Eg X rest t)(i:∀D σ H,t' D σ H->t D σ H):Eg X rest t':=λpins s σ H D I q=>h pins s σ H D I<|i D σ H q
def PG.imp{t t':TG}(h:PG X e t)(i:∀v σ H Q,t' v σ H Q->t v σ H Q):PG X e t':=λpins s σ H v u Q I r q=>h pins s σ H v u Q I r<|i _ _ _ _ q
abbrev jX (i:Nat):Tg:=λa τ S=>.ok (τ.set i a) S
def jO{i:Nat}{x:Str}(J:X.N.Nodup)(hi:X.N[i]?=some x<|>ε)(U:Loc X.env.scope x:=by first|exact Or.inl rfl|exact Or.inr rfl)(hf:X.fn x=true\/X.env.scope.names.lookup x=some .local<|>γ):AG X (.Name x pos) (jX i):=
 PG.imp (KC J hi U hf) λv σ H Q ⟨ρ,S,τ,a,R,r,va,h⟩=>h ρ H _ .refl R<|r.set va
abbrev xZ:SN:=λas τ S=>match as with
 | []=>.ok τ S
 | _=>.no
abbrev pM (g:Tg)(gs:SN):SN:=λas τ S=>match as with
 | a::as=>(g a τ S).bind λc S1=>gs as c S1
 | []=>.no
def mQ:AGs X [] xZ:=λpins s σ H c us Q I r ⟨ρ,S,τ,as,R,d,va,h⟩=>UH pins s σ H c us Q I r (by
 cases va with
 | nil=>exact⟨rfl,h ρ H σ .refl R d⟩
 | cons _ _=>exact h.elim)
def j0{g:Tg}{gs:SN}(h1:AG X e g)(h2:AGs X es gs)(hs:(assignEach (e::es) X.env).map (·.2)=assign e X.env::(assignEach es X.env).map (·.2)<|>ε):AGs X (e::es) (pM g gs):=
 λpins s σ H j us Q I r ⟨ρ,S,τ,as,R,m,va,h⟩=>Q3 h1 h2 hs pins s σ H j us Q I r (by
  cases va with
  | nil=>exact h.elim
  | cons ha f=>exact⟨_,_,rfl,ρ,S,τ,_,R,m,ha,jE (jL h) .refl λd S1 h1 ρ1 H1 k e1 R1 c=>⟨ρ1,S1,d,_,R1,c,f.ext e1,jE h1 e1 λ_ _ z=>z.ext e1⟩⟩)
abbrev x_ (n:Nat)(gs:SN):Tg:=λa τ S=>match a with
 | .tup xs | .ktu xs=>gd (xs.length=n) (gs xs τ S)
 | _=>.no
def oK{k n:Nat}{gs:SN}(hc:X.calm=true)(h:AGs X es gs)(hn:(assignEach es X.env).length=n<|>ε)(J:(assignEach es X.env).findIdx? (·.1)=none<|>ε):AG X (.Tuple es k pos) (x_ n gs):=
 PG.imp (ZT hc h hn J) λv σ H Q h9=>by
  obtain⟨ρ,S,τ,a,R,r,va,h⟩:=h9
  cases va with
  | tup h1 r1=>
   obtain⟨c,h⟩:=j4 h;exact⟨_,_,rfl,nX.of h1,by rw[<- r1.length];exact c,ρ,S,τ,_,R,r,r1,h⟩
  | ktu h1 r1=>
   obtain⟨c,h⟩:=j4 h;exact⟨_,_,rfl,.inr h1,by rw[<- r1.length];exact c,ρ,S,τ,_,R,r,r1,h⟩
  | _=>exact h.elim
abbrev Hs (o i v:A)(S:jB):R Unit:=match o,i with
 | .ref n,.int k=>opt (jA S n) λxs=>opt (DY xs.length k) λj=>.ok Unit.unit (S.set n<|.lst<|xs.set j v)
 | _,_=>.no
abbrev rSt (X:Cx):HQ:=λo i v H Q=>∃ρ S f c d,Rel X.K ρ H S/\AV X.K ρ H f o/\AV X.K ρ H c i/\AV X.K ρ H d v/\(Hs f c d S).post (λ_ g=>∀ρ' H',Ext ρ ρ' H H'->Rel X.K ρ' H' g->Q H') (XE X ρ H)
def Uz:Ho X (rSt X):=λpins s σ H o i v g iv u Q I f m q h9=>by
 obtain⟨ρ,S,F,D,C,R,h1,h2,h3,h⟩:=h9
 cases h1 with
 | @ref p n c=>
  cases h2 with
  | int k=>
   ksr_p;obtain⟨j,t,h⟩:=jI h;obtain⟨d,e,r⟩:=R.lst c<|jP hn;obtain⟨ex,B⟩:=R.put c (jP hn)<|r.set h3 j;exact set_list pins s σ H _ _ v g iv u Q I f m q ⟨p,d,k,j,rfl,rfl,e,by rw[<- r.length];exact t,h _ _ ex B⟩
  | _=>exact h.elim
 | _=>exact h.elim
abbrev V6 (co J:Ex):Tg:=λa τ S=>(co τ S).bind λo S1=>(J τ S1).bind λi S2=>(Hs o i a S2).bind λ_ S3=>.ok τ S3
def Bu{co J:Ex}(U:AE X o co)(hi:AE X i J)
  (ha:(∀v,assign (.Subscript o i pos) X.env v=(do
   let ov <- holding [v] (eval o X.env)
   let iv <- holding [v,ov] (eval i X.env)
   standAt pos
   holding [v,ov,iv] (setItem ov iv v)
   release [v,ov,iv] []))<|>ζ):AG X (.Subscript o i pos) (V6 co J):=PG.imp (Em U hi Uz ha) λv σ H Q h9=>by
 obtain⟨ρ,S,τ,a,R,r,va,h⟩:=h9;fin2;gp_on;kpf_c
abbrev pO:Sm:=λτ S=>.nx τ S
abbrev jT (c d:Sm):Sm:=λτ S=>match c τ S with
 | .nx f g=>d f g
 | r=>r
def kB:Ub X [] pO:=Eg.imp VM λD σ H ⟨ρ,S,τ,R,r,h⟩=>h ρ H σ .refl R r
def VX{D:Ends}{H:Hp}(h:tS X (jT c d) D σ H):abt (tS X c) (tS X d) D σ H:=by
 o_rec;refine⟨ρ,S,τ,R,r,?_⟩;unfold jT at h
 cases hc:c τ S with
 | nx f S1=>
  rw[hc]at h;exact λρ1 H1 g e1 R1 r1=>⟨ρ1,S1,f,R1,r1,Du.ext h e1⟩
 | rt a S1=>rw[hc]at h;exact h
 | bk f S1=>rw[hc]at h;exact h
 | ct f S1=>rw[hc]at h;exact h
 | ex x S1=>rw[hc]at h;exact h
 | no=>rw[hc]at h;exact h
def jC(h1:AS X st c)(h2:Ub X rest d):Ub X (st::rest) (jT c d):=Eg.imp (Rk h1 h2) λD σ H h=>VX h
def jF(h1:AS X st c):Ub X [st] c:=Vh h1
abbrev Y0:Sm:=λτ S=>.bk τ S
abbrev abp:Sm:=λτ S=>.ct τ S
abbrev mC (e:Ex):Sm:=λτ S=>.of (e τ S) λ_ S1=>.nx τ S1
def kL{f:Ex}(J:AE X e f)(hs:swapsWith e none pos.line X.env=pure false<|>ε):AS X (.Expr e pos) (mC f):=PS.imp (Uv J hs) λD σ H ⟨ρ,S,τ,R,r,h⟩=>
 ⟨ρ,S,τ,R,r,jE (of_post h) .refl λa S1 h1 ρ1 H1 x e1 R1 v1=>h1 ρ1 H1 σ e1 R1<|r.ext e1⟩
abbrev lH (e:Ex):Sm:=λτ S=>.of (e τ S) λa S1=>.rt a S1
def j3{f:Ex}(J:AE X e f):AS X (.Return (some e) pos) (lH f):=PS.imp (Y6 J) λD σ H ⟨ρ,S,τ,R,r,h⟩=>⟨ρ,S,τ,R,r,jE (of_post h) .refl λa S1 h1=>h1⟩
abbrev aaP:Sm:=λτ S=>.rt .non S
abbrev vg (t:Te)(c d:Sm):Sm:=λτ S=>.of (t τ S) λb S1=>match b with|true=>c τ S1|false=>d τ S1
def lY{t:Te}(J:AT X e t)(ha:Ub X ca c)(hb:Ub X cb d):AS X (.If e ca cb pos) (vg t c d):=PS.imp (abg J ha hb) λD σ H h9=>by
 z_go;refine⟨ρ,S,τ,R,r,jE (of_post h) .refl λb S1 h1 ρ1 H1 e1 R1=>?_⟩
 cases b with
 | true=>rw[aR rfl];exact⟨ρ1,S1,τ,R1,r.ext e1,Du.ext h1 e1⟩
 | false=>rw[aN br];exact⟨ρ1,S1,τ,R1,r.ext e1,Du.ext h1 e1⟩
abbrev j7 (e:Ex)(g:Tg):Sm:=λτ S=>.of (e τ S) λa S1=>.of (g a τ S1) λc S2=>.nx c S2
def VJ{f:Ex}{g:Tg}{D:Ends}{H:Hp}(h:tS X (j7 f g) D σ H):Ue (tE X f) (tG X g) D σ H:=by
 o_rec;exact⟨ρ,S,τ,R,r,jE (of_post h) .refl λa S1 h1 ρ1 H1 x e1 R1 v1=>⟨ρ1,S1,τ,a,R1,r.ext e1,v1,jE (of_post h1) e1 λc S2 h2=>Py.ext h2 e1⟩⟩
def nG{tg:aC}{f:Ex}{g:Tg}(J:AE X e f)(hg:AG X tg g)(hs:swapsWithSole [tg] e pos.line X.env=pure false<|>ε)(hw:swappedStores [tg] e X.env=pure none<|>ε)
  (h1:(assignEach [tg] X.env).map (·.2)=[assign tg X.env]<|>ε):AS X (.Assign [tg] e pos) (j7 f g):=PS.imp (Xp J hg hs hw h1) λD σ H h=>VJ h
def jY{i:Nat}{x:Str}{f:Ex}(J:X.N.Nodup)(U:AE X e f)(hi:X.N[i]?=some x<|>ε)(Z:Loc X.env.scope x:=by first|exact Or.inl rfl|exact Or.inr rfl)(hs:(swapsWith e (some<|.Name x pos') pos.line X.env=pure false)<|>ε)(hf:X.fn x=true\/X.env.scope.names.lookup x=some .local<|>γ) :
  AS X (.Assign [.Name x pos'] e pos) (j7 f<|jX i):=PS.imp (YD J hi Z U hs hf) λD σ H ⟨ρ,S,τ,R,r,h⟩=>
 ⟨ρ,S,τ,R,r,jE (of_post h) .refl λa S1 h1 ρ1 H1 x e1 R1 v1=>h1 ρ1 H1 _ e1 R1<|(r.ext e1).set v1⟩
abbrev acW (i j:Nat)(c:qu):Sm:=λτ S=>.of (c τ S) λas S1=>match as with
 | [a,b]=>.nx ((τ.set i a).set j b) S1
 | _=>.no
abbrev adu (a b:A)(S:jB):R A:=match a,b with
 | .int i,.int j=>.ok (.int<|i+j) S
 | _,_=>.no
abbrev aaK (i:Nat)(f:A->A->jB->R A)(e:Ex):Sm:=λτ S=>if (τ.getD i .unb).qL then .no else .of (e τ S) λb S1=>.of (f (τ.getD i .unb) b S1) λc S2=>.nx (τ.set i c) S2
abbrev Vu (a b:A)(S:jB):R A:=match a,b with
 | .ref n,.int i=>opt (jA S n) λxs=>gd (0<=i) (opt (xs[i.toNat]?) λx=>.ok x S)
 | _,_=>.no
abbrev aaN (co J U:Ex)(f:A->A->jB->R A):Sm:=λτ S=>.of (co τ S) λo S1=>.of (J τ S1) λi S2=>.of (Vu o i S2) λx S3=>.of (U τ S3) λy d=>.of (f x y d) λz g=>.of (Hs o i z g) λ_ c=>.nx τ c
abbrev nS (t:Te)(c:Sm):Nat->Sm
 | 0=>λ_ _=>.no
 | n+1=>λτ S=>.of (t τ S) λb S1=>match b with
  | false=>.nx τ S1
  | true=>match c τ S1 with
   | .nx d f=>nS t c n d f
   | .ct d f=>nS t c n d f
   | .bk d f=>.nx d f
   | r=>r
def Se(n:Nat){t:Te}(J:PassesOwn (model X.prog X.w) X.A X.env X.xe)(U:AT X e t)(hb:Ub X body c):AS X (.While e body [] pos) (nS t c n):=PS.imp (Oc J U hb) λD σ H h9=>by
 z_go;refine⟨λm g H'=>∃ρ' f d,Ext ρ ρ' H H'/\Rel X.K ρ' H' f/\SR X.K ρ' H' d g/\Du X ρ' H' D (nS t c m d f),⟨n,ρ,S,τ,.refl,R,r,h⟩,?_⟩;rintro m q H1 ⟨ρ1,S1,k,e1,R1,r1,h1⟩
 cases m with
 | zero=>exact h1.elim
 | succ m=>
  refine⟨ρ1,S1,k,R1,r1,jE (of_post h1) .refl λb S2 h2 ρ2 H2 e2 R2=>?_⟩
  cases b with
  | false=>rw[aN br];exact h2 ρ2 H2 q e2 R2 (r1.ext e2)
  | true=>
   rw[aR rfl];refine⟨λg H'=>∃ρ' f d,Ext ρ ρ' H H'/\Rel X.K ρ' H' f/\SR X.K ρ' H' d g/\Du X ρ' H' D (nS t c m d f),λg H' z=>⟨m,dI _,z⟩,ρ2,S2,k,R2,r1.ext e2,?_⟩;have h2:Du X ρ1 H1 D (match c k S2 with
    | .nx d f=>nS t c m d f
    | .ct d f=>nS t c m d f
    | .bk d f=>.nx d f
    | r=>r):=h2
   cases hc:c k S2 with
   | nx j S3=>rw[hc]at h2;exact λρ3 H3 B e3 R3 p=>⟨ρ3,S3,j,(e1.trans e2).trans e3,R3,p,Du.ext h2<|e2.trans e3⟩
   | ct j S3=>rw[hc]at h2;exact λρ3 H3 B e3 R3 p=>⟨ρ3,S3,j,(e1.trans e2).trans e3,R3,p,Du.ext h2<|e2.trans e3⟩
   | bk j S3=>rw[hc]at h2;exact Py.ext h2 e2
   | rt a S3=>rw[hc]at h2;exact Cs.ext h2 e2
   | ex x S3=>rw[hc]at h2;exact XE.ext h2 e2
   | no=>rw[hc]at h2;exact h2
end
structure Src where
 k:Nat
 get:Nat->jB->Option A
 fin:jB->Bool
structure JR (K:au)(s:Src)(J:It)(ρ0:ba)(H0:Hp):Prop where
 go:∀(i:Nat) (S:jB) (H:Hp) (ρ:ba) (x:A),Ext0 ρ0 ρ H0 H->Rel K ρ H S->s.get i S=some x->J.go i H/\∀v H',J.yld i H v H'->Ext ρ ρ H H'/\Rel K ρ H' S/\AV K ρ H' x v
 stop:∀(S:jB) (H:Hp) (ρ:ba),Ext0 ρ0 ρ H0 H->Rel K ρ H S->s.fin S=true->J.stop s.k H
meta abbrev Ic:=ab->jB->R Src
abbrev tI (X:Cx)(c:Ic):TI:=λσ H Q=>∃ρ S τ,Rel X.K ρ H S/\SR X.K ρ H τ σ/\(c τ S).post (λs d=>∀ρ' H' J,Ext ρ ρ' H H'->Rel X.K ρ' H' d->JR X.K s J ρ' H'->Q J H') (XE X ρ H)
abbrev AI (X:Cx)(tg iter:aC)(c:Ic):Prop:=PI X tg iter<|tI X c
abbrev o8 (xs:ab):Src:=⟨xs.length,λi _=>xs[i]?,λ_=>true⟩
abbrev lJ (n k:Nat):Src:=⟨k,λi S=>(jA S n).bind (·[i]?),λS=>match jA S n with
 | some ys=>decide (ys.length<=k)
 | none=>false⟩
abbrev oX (lo hi:Int):Src:=⟨(hi-lo).toNat,λi _=>if i<(hi-lo).toNat then some (.int<|lo+i)else none,λ_=>true⟩
abbrev ly (c:Ex):Ic:=λτ S=>(c τ S).bind λa S1=>match a with
 | .tup xs=>.ok (o8 xs) S1
 | .frz xs=>.ok (o8 xs) S1
 | .ref n=>opt (jA S1 n) λxs=>.ok (lJ n xs.length) S1
 | .str x=>gd (x.cps.all (· < 128)=true) (.ok (o8<|x.cps.toList.map λc=>.str ⟨#[c]⟩) S1)
 | _=>.no
section
variable {X:Cx}{pos:Pos}{tg e a b:aC}
def Z_{K:au}{J:Hp}{p:ak}(h:nX K J p vs)(r:AVs K ρ0 J xs vs):JR K (o8 xs) (Itt K p) ρ0 J where
 go:=λi S H ρ x e R g=>by
  obtain⟨v,c,d⟩:=(AVs.l8 e r).get g;have hs:=e.sqT h;refine⟨⟨vs,v,hs,c⟩,λw H' ⟨e1,y⟩=>?_⟩;subst e1;have:=y vs hs;rw[c]at this
  cases this
  exact⟨.refl,R,d⟩
 stop:=λS H ρ e R _=>⟨vs,e.sqT h,by rw[<- r.length];exact aP _⟩
def XW{K:au}{J:Hp}{p:ak}(h:Fz K J p vs)(r:AVs K ρ0 J xs vs):JR K (o8 xs) (Itl K p) ρ0 J where
 go:=λi S H ρ x e R g=>by
  obtain⟨v,c,d⟩:=(AVs.l8 e r).get g;have hs:=(e.fz h).SO;refine⟨⟨vs,v,hs,c⟩,λw H' ⟨e1,y⟩=>?_⟩;subst e1;have:=y vs hs;rw[c]at this
  cases this
  exact⟨.refl,R,d⟩
 stop:=λS H ρ e R _=>⟨vs,(e.fz h).SO,by rw[<- r.length];exact aP _⟩
def Xd{K:au}{J:ba}{U:Hp}{p:ak}{n k:Nat}(h:J[n]?=some p):JR K (lJ n k) (Itl K p) J U where
 go:=λi S H ρ x e R g=>by
  obtain⟨ys,hn,j⟩:=cy.mp<|show(jA S n).bind (·[i]?)=some x from g;obtain⟨c,h1,r⟩:=R.lst (e.get h)<|jP hn;obtain⟨v,d,f⟩:=r.get j;refine⟨⟨c,v,qf.of h1,d⟩,λw H' ⟨e1,y⟩=>?_⟩;subst e1;have:=y c<|qf.of h1;rw[d]at this
  cases this
  exact⟨.refl,R,f⟩
 stop:=λS H ρ e R g=>by
  have g:(match jA S n with
   | some ys=>decide (ys.length<=k)
   | none=>false)=true:=g
  cases hn:jA S n with
  | none=>rw[hn]at g;cases g
  | some ys=>
   rw[hn]at g;obtain⟨c,h1,r⟩:=R.lst (e.get h)<|jP hn;exact⟨c,qf.of h1,by rw[<- r.length];exact bE g⟩
def Qs{K:au}{J:Hp}{lo hi:Int}:JR K (oX lo hi) (Itr lo (hi-lo).toNat) ρ0 J where
 go:=λi S H ρ x e R g=>by
  have g:(if i<(hi-lo).toNat then some (A.int<|lo+i)else none)=some x:=g;by_cases c:i<(hi-lo).toNat
  ·rw[aR c]at g
   cases g
   refine⟨c,λw H' ⟨e1,y⟩=>?_⟩;subst e1 y;exact⟨.refl,R,.int _⟩
  ·rw[aN c]at g;cases g
 stop:=λS H ρ e R _=>aP _
def Zl{K:au}{J:Hp}{x:Str}:JR K (o8<|x.cps.toList.map λc=>A.str ⟨#[c]⟩) (Its x) ρ0 J where
 go:=λi S H ρ y e R g=>by
  have g:(x.cps.toList.map λc=>A.str ⟨#[c]⟩)[i]?=some y:=g;rw[aK]at g;obtain⟨c,hc,rfl⟩:=aQ.mp g;rw[dg]at hc;refine⟨(Array.getElem?_eq_some_iff.mp hc).1,λw H' ⟨e1,j,d,f⟩=>?_⟩;rw[hc]at d
  cases d
  subst e1 f;exact⟨.refl,R,.str _⟩
 stop:=λS H ρ e R _=>by
  show(x.cps.toList.map λc=>A.str ⟨#[c]⟩).length=x.cps.size;rw[aF,dZ]
def lZ{c:Ex}(J:AE X e c):AI X tg e (ly c):=λpins s σ H Q I h9=>by
 z_go;have hb:=jL h
 cases hc:c τ S with
 | no=>rw[hc]at hb;exact hb.elim
 | ex x S1=>
  rw[hc]at hb;exact QG J pins s σ H Q I ⟨ρ,S,τ,R,r,by rw[hc];exact hb⟩
 | ok a S1=>
  rw[hc]at hb
  cases a with
  | tup xs=>
   refine QG J pins s σ H Q I ⟨ρ,S,τ,R,r,?_⟩;rw[hc];intro ρ1 H1 x e1 R1 v1
   cases v1 with
   | tup h1 r1=>exact⟨_,rfl,⟨_,(nX.of h1)⟩,hb ρ1 H1 _ e1 R1<|Z_ (nX.of h1) r1⟩
  | frz xs=>
   refine Lu J pins s σ H Q I ⟨ρ,S,τ,R,r,?_⟩;rw[hc];intro ρ1 H1 x e1 R1 v1
   cases v1 with
   | frz h1 r1=>exact⟨_,rfl,⟨_,h1.SO⟩,hb ρ1 H1 _ e1 R1<|XW h1 r1⟩
  | ref n=>
   obtain⟨xs,hn,hb⟩:=jI hb;refine Lu J pins s σ H Q I ⟨ρ,S,τ,R,r,?_⟩;rw[hc];intro ρ1 H1 x e1 R1 v1
   cases v1 with
   | ref d=>
    obtain⟨f,h1,r1⟩:=R1.lst d<|jP hn;exact⟨_,rfl,⟨_,qf.of h1⟩,hb ρ1 H1 _ e1 R1<|Xd d⟩
  | str x=>
   obtain⟨ha,hb⟩:=j4 hb;refine Zz J pins s σ H Q I ⟨ρ,S,τ,R,r,?_⟩;rw[hc];intro ρ1 H1 v e1 R1 v1
   cases v1 with
   | str=>exact⟨x,rfl,ha,hb ρ1 H1 _ e1 R1 Zl⟩
  | _=>exact hb.elim
abbrev bnd (i:Int):Prop:=-(2 ^ 62)<=i/\i<2 ^ 62
instance (i:Int):Decidable (bnd i):=by unfold bnd;infer_instance
abbrev t7 (c:Ex):Ic:=λτ S=>(c τ S).bind λa S1=>match a with
 | .int j=>gd (bnd j) (.ok (oX 0 j) S1)
 | _=>.no
abbrev nZ (c d:Ex):Ic:=λτ S=>(c τ S).bind λa S1=>(d τ S1).bind λb S2=>match a,b with
 | .int i,.int j=>gd (bnd i/\bnd j) (.ok (oX i j) S2)
 | _,_=>.no
def tD{p:Pos}{c:Ex}(J:X.mg "range" = none)(ha:AE X a c)(hg:Gl X "range"<|>ε)(hs:starEach [a] X.env=[(false,eval a X.env)]<|>ε):AI X tg (.Call (.Name "range" p) [a] [] pos) (t7 c):=λpins s σ H Q I h9=>by
 z_go;refine M0 hg J (wF ha AR hs) hs pins s σ H Q I ⟨ρ,S,τ,R,r,jE (jL h) .refl λx S1 h1 ρ1 H1 v e1 R1 v1=>?_⟩
 cases v1 with
 | int j=>
  obtain⟨hb,h1⟩:=j4 h1;exact⟨_,rfl,hb.1,hb.2,by have:=h1 ρ1 H1 _ e1 R1 Qs;rwa [jj]at this⟩
 | _=>exact h1.elim
def qX{p:Pos}{c d:Ex}(U:X.mg "range" = none)(ha:AE X a c)(hb:AE X b d)(hg:Gl X "range"<|>ε)(hs:starEach [a,b] X.env=[(false,eval a X.env),(false,eval b X.env)]<|>ε)(J:starEach [b] X.env=[(false,eval b X.env)]<|>ε):AI X tg (.Call (.Name "range" p) [a,b] [] pos) (nZ c d):=λpins s σ H Q I h9=>by
 z_go;refine MF hg U (wF ha (wF hb AR J)<|by rw[hs,J]) hs J pins s σ H Q I ⟨ρ,S,τ,R,r,jE (jL h) .refl λx S1 h1 ρ1 H1 v e1 R1 v1=>⟨ρ1,S1,τ,R1,r.ext e1,jE (jL h1) e1 λy S2 h2 ρ2 H2 w e2 R2 v2=>?_⟩⟩
 cases v1 with
 | int i=>
  cases v2 with
  | int j=>
   obtain⟨hb,h2⟩:=j4 h2;exact⟨_,_,rfl,⟨hb.1.1,hb.1.2,hb.2.1,hb.2.2⟩,h2 ρ2 H2 _ (e1.trans e2) R2 Qs⟩
  | _=>exact h2.elim
 | _=>exact h2.elim
abbrev FO (xs:ab):Src:=⟨xs.length,λi _=>(xs[i]?).map λx=>.tup [.int i,x],λ_=>true⟩
abbrev VL (c:Ex):Ic:=λτ S=>(c τ S).bind λa S1=>match a with
 | .tup xs=>.ok (FO xs) S1
 | _=>.no
def Ye{K:au}{J:Hp}{p:ak}(h:nX K J p vs)(r:AVs K ρ0 J xs vs):JR K (FO xs) (Ite K p) ρ0 J where
 go:=λi S H ρ x e R g=>by
  obtain⟨y,j,rfl⟩:=aQ.mp<|show(xs[i]?).map (λx=>A.tup [.int i,x])=some x from g;obtain⟨v,d,f⟩:=(AVs.l8 e r).get j;have hs:=e.sqT h;refine⟨⟨vs,v,hs,d⟩,λw H' q=>?_⟩;obtain⟨B,k,rfl,m⟩:=q;have c:=m vs v hs d;subst c;obtain⟨ex,t⟩:=R.im (u:=.tup [.int i,v]) k;exact⟨ex,t,.tup j6<|.cons (.int _)<|.cons (f.ext ex) .nil⟩
 stop:=λS H ρ e R _=>⟨vs,e.sqT h,by rw[<- r.length];rfl⟩
def YY{p:Pos}{c:Ex}(J:X.mg "enumerate" = none)(ha:AE X a c)(hg:Gl X "enumerate"<|>ε)(hs:starEach [a] X.env=[(false,eval a X.env)]<|>ε):AI X (.Tuple elts x1 tpos) (.Call (.Name "enumerate" p) [a] [] pos) (VL c):=λpins s σ H Q I h9=>by
 z_go;refine Q7 hg J (wF ha AR hs) hs pins s σ H Q I ⟨ρ,S,τ,R,r,jE (jL h) .refl λx S1 h1 ρ1 H1 v e1 R1 v1=>?_⟩
 cases v1 with
 | tup h2 r2=>exact⟨_,_,rfl,(nX.of h2),h1 ρ1 H1 _ e1 R1<|Ye (nX.of h2) r2⟩
 | _=>exact h1.elim
abbrev r6 (s:Src)(g:Tg)(c:Sm):Nat->Nat->Sm
 | 0,_=>λτ S=>if s.fin S then .nx τ S else .no
 | k+1,i=>λτ S=>match s.get i S with
  | none=>.no
  | some x=>.of (g x τ S) λj S1=>match c j S1 with
   | .nx d f=>r6 s g c k (i+1) d f
   | .ct d f=>r6 s g c k (i+1) d f
   | .bk d f=>.nx d f
   | r=>r
abbrev ku (src:Ic)(g:Tg)(c:Sm):Sm:=λτ S=>.of (src τ S) λs S1=>r6 s g c s.k 0 τ S1
def k_{iter:aC}{src:Ic}{g:Tg}{c:Sm}(hp:PassesOwn (model X.prog X.w) X.A X.env X.xe)(hc:X.calm=true)(hi:AI X tg iter src)(hg:AG X tg g)(hb:Ub X body c)
  (hs:(∀x,foldedSetIterable iter X.env x=pure x)<|>ζ):AS X (.For tg iter body [] pos) (ku src g c):=PS.imp (XZ hp hc hi hg hb hs) λD σ H h9=>by
 z_go;refine⟨ρ,S,τ,R,r,jE (of_post h) .refl λs S1 h1 ρ1 H1 J e1 R1 Z=>?_⟩;refine⟨λi m B H'=>m+i=s.k/\∃ρ' q d,Ext ρ1 ρ' H1 H'/\Rel X.K ρ' H' q/\SR X.K ρ' H' d B/\Du X ρ' H' D (r6 s g c m i d q),⟨s.k,rfl,ρ1,S1,τ,.refl,R1,r.ext e1,Du.ext h1 e1⟩,?_⟩;rintro i m V H2 ⟨hm,ρ2,S2,C,e2,R2,r2,h2⟩
 cases m with
 | zero=>
  left;have h2:Du X ρ2 H2 D (if s.fin S2 then .nx C S2 else .no):=h2
  cases hf:s.fin S2 with
  | false=>rw[hf]at h2;exact h2.elim
  | true=>
   rw[hf]at h2;refine⟨by rw[show i=s.k by lia];exact Z.stop S2 H2 ρ2 e2.toExt0 R2 hf,h2 ρ2 H2 V .refl R2 r2⟩
 | succ m=>
  right;have h2:Du X ρ2 H2 D (match s.get i S2 with
   | none=>.no
   | some x=>.of (g x C S2) λW S1=>match c W S1 with
    | .nx d q=>r6 s g c m (i+1) d q
    | .ct d q=>r6 s g c m (i+1) d q
    | .bk d q=>.nx d q
    | r=>r):=h2
  cases T:s.get i S2 with
  | none=>rw[T]at h2;exact h2.elim
  | some x=>
   rw[T]at h2;obtain⟨N,hy⟩:=Z.go i S2 H2 ρ2 x e2.toExt0 R2 T;refine⟨N,λB H'=>m+(i+1)=s.k/\∃ρ' q d,Ext ρ1 ρ' H1 H'/\Rel X.K ρ' H' q/\SR X.K ρ' H' d B/\Du X ρ' H' D (r6 s g c m (i+1) d q),λB H' z=>⟨m,dI _,z⟩,λv H3 y=>?_⟩;obtain⟨e3,R3,v3⟩:=hy v H3 y;refine⟨ρ2,S2,C,x,R3,r2.ext e3,v3,jE (of_post h2) e3 λL S4 p Y H4 σ4 e4 R4 r4=>⟨Y,S4,L,R4,r4,?_⟩⟩;have f:=e3.trans e4
   cases j:c L S4 with
   | nx t G=>rw[j]at p;exact λF H5 P M O U=>⟨(),F,G,t,(e2.trans f).trans M,O,U,Du.ext p<|f.trans M⟩
   | ct t G=>rw[j]at p;exact λF H5 P M O U=>⟨(),F,G,t,(e2.trans f).trans M,O,U,Du.ext p<|f.trans M⟩
   | bk t G=>rw[j]at p;exact Py.ext p f
   | rt x5 G=>rw[j]at p;exact Cs.ext p f
   | ex x5 G=>rw[j]at p;exact XE.ext p f
   | no=>rw[j]at p;exact p
end
abbrev R.tB {α β:Type}(r:R α)(f:α->jB->R β):R β:=match r with
 | .ok a S=>f a S
 | _=>.no
def yM{α β:Type}{r:R α}{f:α->jB->R β}{b:β}(h:r.tB f=.ok b S2):∃a S,r=.ok a S/\f a S=.ok b S2:=by
 cases r with
 | ok a S=>exact⟨a,S,rfl,h⟩
 | ex _ _=>cases h
 | no=>cases h
def Je{α β:Type}{r:R α}{f:α->jB->R β}{P:β->jB->Prop}{E:Str->jB->Prop}(h:(r.tB f).post P E):∃a S,r=.ok a S/\(f a S).post P E:=by
 cases r with
 | ok a S=>exact⟨a,S,rfl,h⟩
 | ex _ _=>exact h.elim
 | no=>exact h.elim
def Yo{α β:Type}{o:Option β}{f:β->R α}{a:α}(h:opt o f=.ok a S):∃b,o=some b/\f b=.ok a S:=by
 cases o with
 | none=>cases h
 | some b=>exact⟨b,rfl,h⟩
abbrev mR (s:Src)(g:Tg)(t:Te)(e:Ex):Nat->Nat->ab->jB->R (ab)
 | 0,_=>λ_ S=>if s.fin S then .ok [] S else .no
 | k+1,i=>λτ S=>opt (s.get i S) λx=>(g x τ S).tB λc S1=>(t c S1).tB λb S2=>match b with
  | true=>(e c S2).tB λy S3=>(mR s g t e k (i+1) c S3).tB λys d=>.ok (y::ys) d
  | false=>mR s g t e k (i+1) c S2
abbrev mj (cap:List<|bi)(τ:ab):ab:=cap.map λo=>match o with
 | some j=>τ.getD j .unb
 | none=>.unb
abbrev j8 (cap:List<|bi)(src:Ic)(g:Tg)(t:Te)(e:Ex):Ex:=λτ S=>(src τ S).bind λs S1=>(mR s g t e s.k 0 (mj cap τ) S1).tB λys S2=>newL ys S2
abbrev nN:Te:=λ_ S=>.ok true S
def Gp{s:Src}{g:Tg}{t:Te}{e:Ex}{k:Nat}{T:Prop}(h:mR s g t e (k+1) i τ S=.ok zs S')
  (q:∀x τ1 S1 b S2,s.get i S=some x->g x τ S=.ok τ1 S1->t τ1 S1=.ok b S2->(b=true->∃y S3 ws,e τ1 S2=.ok y S3/\mR s g t e k (i+1) τ1 S3=.ok ws S'/\zs=y::ws)->(b=false->mR s g t e k (i+1) τ1 S2=.ok zs S')->T):T:=by
 obtain⟨x,d,h⟩:=Yo h;obtain⟨τ1,S1,h1,h⟩:=yM h;obtain⟨b,S2,h2,h⟩:=yM h;refine q x τ1 S1 b S2 d h1 h2 (λhb=>?_) λhb=>?_
 ·subst hb;obtain⟨y,S3,h3,h⟩:=yM h;obtain⟨ws,f,c,h⟩:=yM h
  cases h
  exact⟨y,S3,ws,h3,c,rfl⟩
 ·subst hb;exact h
structure Out (ρ1:ba)(H1:Hp)(D:ak)(accV:List V)(ρ:ba)(H:Hp):Prop where
 e0:Ext0 ρ1 ρ H1 H
 fr:∀a u,a≠D->H1 a=some u->a∉ρ1->H a=some u
 nw:∀a∈ρ,a∈ρ1\/H1 a=none
 nD:D∉ρ
 hD:H D=some (.lst accV)
def Out.stay{H1 H3 Z:Hp}{D:ak}(o:Out ρ1 H1 D accV ρ3 H3)(U:H1 D=none)(J:Ext ρ3 ρ7 H3 Z):Out ρ1 H1 D accV ρ7 Z:=by
 refine⟨⟨o.e0.pre.trans J.pre,λa u i h=>J.im a u i<|o.e0.im a u i h⟩,λa u na d f=>J.fr a u (o.fr a u na d f) λz=>(o.nw a z).elim f λz=>by(rw[z]at d;cases d),λa ha=>?_,λz=>(J.nw D z).elim o.nD λz=>by(rw[o.hD]at z;cases z),J.fr D _ o.hD o.nD⟩;by_cases c:a∈ρ1
 ·exact .inl c
 ·right
  cases q:H1 a with
  | none=>rfl
  | some u=>
   have g:a≠D:=jR q U
   rcases J.nw a ha with z|z
   ·exact((o.nw a z).elim c λz=>by(rw[z]at q;cases q)).elim
   ·rw[o.fr a u g q c]at z;cases z
def Out.put{H1 H:Hp}{D:ak}(o:Out ρ1 H1 D accV ρ H)(ex:Ext0 ρ ρ H<|upd H D<|.lst vs):Out ρ1 H1 D vs ρ (upd H D<|.lst vs):=
 ⟨⟨o.e0.pre,λa u i h=>ex.im a u i<|o.e0.im a u i h⟩,λa u na c d=>by rw[jK na];exact o.fr a u na c d,o.nw,o.nD,j6⟩
def Out.end{H1 H:Hp}{D:ak}(o:Out ρ1 H1 D accV ρ H)(J:H1 D=none):Ext ρ1 (ρ++[D]) H1 H:=by
 refine⟨⟨o.e0.pre.trans<|dO _ _,o.e0.im⟩,λa u c na=>o.fr a u (jR c J) c na,λa ha=>?_⟩
 rcases bJ.mp ha with z|z
 ·exact o.nw a z
 ·have:a=D:=by simpa using z
  rw[this];exact .inr J
abbrev Cq (K:au)(ρ1:ba)(H1:Hp)(D:ak)(ys:ab)(k:Nat)(E:ba->Hp->Prop)(P:Nat->Nat->ab->jB->ab->Prop)(i m:Nat)(σ:L2.St)(H:Hp):Prop:=
 m+i=k/\∃ρ S τ acc zs accV,Out ρ1 H1 D accV ρ H/\E ρ H/\Rel K ρ H S/\SR K ρ H τ σ/\AVs K ρ H acc accV/\P m i τ S zs/\acc++zs=ys
section
variable {K:au}{ρ1 ρ:ba}{H1 H:Hp}{D:ak}{ys acc zs:ab}{accV:List V}{k i m:Nat}{E:ba->Hp->Prop}{P:Nat->Nat->ab->jB->ab->Prop}{σ:L2.St}{S:jB}{τ:ab}
def Cq.el{T:Prop}(h:Cq K ρ1 H1 D ys k E P i m σ H)(q:∀ρ S τ acc zs accV,m+i=k->Out ρ1 H1 D accV ρ H->E ρ H->Rel K ρ H S->SR K ρ H τ σ->AVs K ρ H acc accV->P m i τ S zs->acc++zs=ys->T):T:=by
 obtain⟨j,ρ,S,τ,acc,zs,accV,h1,h2,h3,c,f,d,g⟩:=h;exact q ρ S τ acc zs accV j h1 h2 h3 c f d g
def Cq.of(J:m+i=k)(o:Out ρ1 H1 D accV ρ H)(e:E ρ H)(R:Rel K ρ H S)(r:SR K ρ H τ σ)(v:AVs K ρ H acc accV)(p:P m i τ S zs)(q:acc++zs=ys):Cq K ρ1 H1 D ys k E P i m σ H:=⟨J,ρ,S,τ,acc,zs,accV,o,e,R,r,v,p,q⟩
end
abbrev tE0 (K:au)(c:Ex):TE:=λσ H Q=>∃ρ S τ a d,Rel K ρ H S/\SR K ρ H τ σ/\c τ S=.ok a d/\∀ρ' H' v,Ext ρ ρ' H H'->Rel K ρ' H' d->AV K ρ' H' a v->Q v H'
abbrev tT0 (K:au)(c:Te):TT:=λσ H Q=>∃ρ S τ a d,Rel K ρ H S/\SR K ρ H τ σ/\c τ S=.ok a d/\∀ρ' H',Ext ρ ρ' H H'->Rel K ρ' H' d->Q a H'
abbrev tG0 (K:au)(g:Tg):TG:=λv σ H Q=>∃ρ S τ a d f,Rel K ρ H S/\SR K ρ H τ σ/\AV K ρ H a v/\g a τ S=.ok d f/\∀ρ' H' c,Ext ρ ρ' H H'->Rel K ρ' H' f->SR K ρ' H' d c->Q c H'
section
variable {X:Cx}{pos:Pos}{tg iter elt e:aC}{ifs:List aC}{scope:Scope}{N:am}{cap:List (bi)}{src:Ic}{g:Tg}{t:Te}{c:Ex}
def AE.e0{K:au}(hK:X.K=K)(h:AE X e c):PE X e (tE0 K c):=PE.imp h λσ H Q ⟨ρ,S,τ,a,g,R,r,hc,q⟩=>⟨ρ,S,τ,by rw[hK];exact R,by rw[hK];exact r,by rw[hc];exact λρ' H' v e f d=>q ρ' H' v e (by rw[<- hK];exact f)<|by rw[<- hK];exact d⟩
def AT.t0{K:au}(hK:X.K=K)(h:AT X e t):PT X e (tT0 K t):=PT.imp h λσ H Q ⟨ρ,S,τ,a,d,R,r,hc,q⟩=>⟨ρ,S,τ,by rw[hK];exact R,by rw[hK];exact r,by rw[hc];exact λρ' H' e c=>q ρ' H' e<|by rw[<- hK];exact c⟩
def AG.g0{K:au}(hK:X.K=K)(h:AG X e g):PG X e (tG0 K g):=by
 subst hK;refine PG.imp h λv σ H Q h9=>?_;obtain⟨ρ,S,τ,a,c,d,R,r,va,hc,q⟩:=h9;exact⟨ρ,S,τ,a,R,r,va,by rw[hc];exact q⟩
abbrev ATs (X:Cx)(ifs:List aC)(t:Te):Prop:=X9 X ifs<|tT0 X.K t
def qc:ATs X [] nN:=λpins s σ H Q I ⟨ρ,S,τ,a,c,R,r,hc,q⟩=>VS pins s σ H Q I<|by cases hc;exact q ρ H .refl R
def rR(h:AT X e t):ATs X [e] t:=VT<|h.t0 rfl
def abf{K:au}{H:Hp}(r:SR K ρ H τ σ)(cap:List<|bi):SR K ρ H (mj cap τ) (cap.map<|YX σ):=by
 refine⟨by simp[mj],λi a h=>?_⟩;unfold mj at h;rw[aK]at h;obtain⟨o,d,e⟩:=aQ.mp h
 cases o with
 | none=>exact .inl e.symm
 | some j=>
  have e:τ.getD j .unb=a:=e
  cases c:τ[j]? with
  | none=>rw[aL,c]at e;exact .inl e.symm
  | some b=>
   rw[aL,c]at e;have e:b=a:=e;subst e
   rcases r.at j b c with z|⟨v,h1,h2⟩
   ·exact .inl z
   ·exact .inr ⟨v,by rw[aK,d];show some ((σ[j]?).getD none)=_;rw[h1];rfl,h2⟩
def Rel.CY{K:au}{H:Hp}{p:ak}(R:Rel K ρ H S)(J:H p=none):p∉ρ:=λg=>by
 obtain⟨n,hn,e⟩:=iB.mp g;have f:n<S.length:=by rw[<- R.len];exact hn
 have:=R.at n p S[n] (by rw[aH hn,e]) (aH f)
 cases c:S[n]with
 | lst xs=>rw[c]at this;obtain⟨d,h,_⟩:=this;rw[J]at h;cases h
 | dct _|nQ _|dks _|vQ _=>rw[c]at this;obtain⟨d,h,_⟩:=this;rw[J]at h;cases h
 | dcf _|dkf _=>rw[c]at this;obtain⟨_,d,h,_⟩:=this;rw[J]at h;cases h
 | ins _ _=>rw[c]at this;obtain⟨_,_,h⟩:=this;rw[J]at h;cases h
def F3(σ:L2.St)(H:Hp)(Q:VK)(h:tE X (j8 cap src g t c) σ H Q):tLC cap (tI X src) (tG0 X.K g) (tT0 X.K t) (tE0 X.K c) σ H Q:=by
 o_rec;refine⟨ρ,S,τ,R,r,jE (jL h) .refl λs S1 h1 ρ1 H1 J e1 R1 jr D hD=>?_⟩;obtain⟨ys,S2,U,h1⟩:=Je h1;obtain⟨F,h1⟩:=j4 h1;have h1:Cs X ρ H Q (.ref S2.length) (S2++[.lst ys]):=h1;obtain⟨eD,RD⟩:=R1.im (u:=.lst []) hD;refine⟨Cq X.K ρ1 H1 D ys s.k (λ_ _=>True) λm i τ S zs=>mR s g t c m i τ S=.ok zs S2,⟨s.k,.of rfl ⟨eD.toExt0,λa u na hu _=>by rw[jK na];exact hu,λa ha=>.inl ha,R1.CY hD,j6⟩ trivial RD (abf ((r.ext e1).ext eD) cap) .nil U rfl⟩,?_⟩;intro i m σ3 H3 hw;refine hw.el λρ3 S3 T acc zs accV hm B _ R3 r3 p d f=>?_;clear hw
 cases m with
 | zero=>
  left;have d:(if s.fin S3 then Am.R.ok [] S3 else .no)=.ok zs S2:=d
  cases hf:s.fin S3 with
  | false=>rw[hf]at d;cases d
  | true=>
   rw[hf]at d
   cases d
   rw[cj]at f;subst f;refine⟨by rw[show i=s.k by lia];exact jr.stop _ H3 ρ3 B.e0 R3 hf,?_⟩;obtain⟨RT,gt⟩:=R3.take B.hD B.nD p;exact h1 (ρ3++[D]) H3 _ (e1.trans<|B.end hD) RT<|.ref gt
 | succ m=>
  right;refine Gp d λx C S4 b S5 hx P ht5 hT hF=>?_;have jg:=jr.go i S3 H3 ρ3 x B.e0 R3 hx;refine⟨jg.1,λv H4 y=>?_⟩;obtain⟨e4,R4,v4⟩:=jg.2 v H4 y;refine⟨ρ3,S3,T,x,C,S4,R4,r3.ext e4,v4,P,λY H5 σ5 e5 R5 N=>⟨Y,S4,C,b,S5,R5,N,ht5,λO H6 M R6=>?_⟩⟩;have j:=(e4.trans e5).trans M
  cases b with
  | false=>
   dsimp only;rw[aN br];exact⟨m,dI _,.of () (B.stay hD j) trivial R6 (N.ext M) (p.ext j) (hF rfl) f⟩
  | true=>
   dsimp only;rw[aR rfl];obtain⟨y,S6,ws,V,Z,G⟩:=hT rfl;refine⟨O,S5,C,y,S6,R6,N.ext M,V,λρ7 H7 w W R7 v7=>?_⟩;have L:=B.stay hD<|j.trans W;obtain⟨q,R8⟩:=R7.out (ws:=accV++[w]) L.hD L.nD;have l1:=p.length;refine⟨accV,L.hD,?_,m,dI _,.of () (L.put q) trivial R8 ((N.ext<|M.trans W).l8 q) (AVs.l8 q<|(p.ext<|j.trans W).append<|.one v7) Z ?_⟩
   ·have:(acc++zs).length<=sizeLine:=by rw[f];exact F
    rw[G,bq,bR]at this
    lia
   ·rw[cG,<- f,G];rfl
def mO(hc:X.calm=true)(J:CpScope X scope N cap)(hi:AI X tg iter src)(hg:∀C s₀ H₀ ex,AG (p9 X scope N C s₀ H₀ ex) tg g)(U:∀C s₀ H₀ ex,ATs (p9 X scope N C s₀ H₀ ex) ifs t)(Z:∀C s₀ H₀ ex,AE (p9 X scope N C s₀ H₀ ex) elt c)
  (hs:(∀x,foldedSetIterable iter X.env x=pure x)<|>ζ):AE X (.ListComp elt [⟨tg,iter,ifs,0⟩] scope pos) (j8 cap src g t c):=
 PE.imp (ab1 hc J hi (g:=tG0 X.K g) (tc:=tT0 X.K t) (te:=tE0 X.K c) (λC s₀ H₀ ex=>(hg C s₀ H₀ ex).g0 rfl) (λC s₀ H₀ ex=>U C s₀ H₀ ex) (λC s₀ H₀ ex=>(Z C s₀ H₀ ex).e0 rfl) hs) F3
def EZ{i:Nat}{x:Str}{J:Pos}(hN:X.N.Nodup)(hc:X.calm=true)(Sc:CpScope X scope N cap)(hi:AI X tg iter src)(hg:∀C s₀ H₀ ex,AG (p9 X scope N C s₀ H₀ ex) tg g)(ht:∀C s₀ H₀ ex,ATs (p9 X scope N C s₀ H₀ ex) ifs t)(he:∀C s₀ H₀ ex,AE (p9 X scope N C s₀ H₀ ex) elt c)
  (U:X.N[i]?=some x<|>ε) (hx:Loc X.env.scope x:=by first|exact Or.inl rfl|exact Or.inr rfl)
  (Z:(swapsWith (.ListComp elt [⟨tg,iter,ifs,0⟩] scope pos) (some<|.Name x pos') J.line X.env=pure true)<|>ε) (hf:X.fn x=true\/X.env.scope.names.lookup x=some .local<|>γ)
  (hs:(∀x,foldedSetIterable iter X.env x=pure x)<|>ζ):AS X (.Assign [.Name x pos'] (.ListComp elt [⟨tg,iter,ifs,0⟩] scope pos) J) (j7 (j8 cap src g t c)<|jX i):=
 PS.imp (Rm hN U hx hc Sc hi (g:=tG0 X.K g) (tc:=tT0 X.K t) (te:=tE0 X.K c) (λC s₀ H₀ ex=>(hg C s₀ H₀ ex).g0 rfl) (λC s₀ H₀ ex=>ht C s₀ H₀ ex) (λC s₀ H₀ ex=>(he C s₀ H₀ ex).e0 rfl) Z hf hs) λD σ H ⟨ρ,S,τ,R,r,h⟩=>
  F3 σ H _ ⟨ρ,S,τ,R,r,jE (of_post h) .refl λa S1 h1 ρ1 H1 x e1 R1 v1=>h1 ρ1 H1 _ e1 R1<|(r.ext e1).set v1⟩
end
abbrev A.lst? (S:jB):A->Option (ab)
 | .ref n=>jA S n
 | _=>none
abbrev CI (f:A->ab->jB->R A)(co:Ex)(d:qu):Ex:=λτ S=>(co τ S).bind λo S1=>opt (o.lst? S1) λ_=>(d τ S1).bind λas S2=>f o as S2
abbrev ac9 (f:A->ab->jB->R A)(co:Ex):Ex:=λτ S=>(co τ S).bind λo S1=>opt (o.lst? S1) λ_=>f o [] S1
abbrev rM (X:Cx)(f:A->ab->jB->R A):V->List V->Hp->VK->Prop:=λx c H Q=>∃ρ S o as,Rel X.K ρ H S/\AV X.K ρ H o x/\AVs X.K ρ H as c/\(f o as S).post (Cs X ρ H Q) (XE X ρ H)
section
variable {X:Cx}{apos cpos:Pos}{o e:aC}{es:List aC}{name:Str}{id:String}{f:A->ab->jB->R A}{co:Ex}{d:qu}
def lst?_ty{K:au}{H:Hp}{x:A}{v:V}(R:Rel K ρ H S)(h:AV K ρ H x v)(e:x.lst? S=some xs):tyV K "list" v H:=by
 cases h with
 | ref h=>
  obtain⟨c,h1,_⟩:=R.lst h<|jP e;exact .inl ⟨rfl,c,qf.of h1⟩
 | _=>cases e
def sf(slot:Slot "list" name id)(hty:typeOf (.builtin id)=pure (.type "method_descriptor"))(hm:Fy X id<|rM X f)(ho:AE X o co)(ha:AL X (e::es) d)
  (U:attributeBase o name X.env (eval o X.env)=eval o X.env<|>ε)
  (hfew:(((backTo cpos<|starEach (e::es) X.env).all (λx=>!x.1) && (backToKw cpos<|keywordEach [] X.env).all (λx=>x.1.isSome)
   && decide ((e::es).length+([]:List Keyword).length+(if ([]:List Keyword).isEmpty then 0 else 1)<30))=true)<|>ε)
  (Z:(apos.endLine == cpos.line)=true<|>ε) (hs:starEach (e::es) X.env=(false,eval e X.env)::starEach es X.env<|>ε) (J:((backTo cpos<|starEach es X.env).any (·.1)=false)<|>ε) :
  AE X (.Call (.Attribute o name apos) (e::es) [] cpos) (CI f co d):=PE.imp (OT PySem.F.plainAttrs_list slot hty hm ho ha U hfew Z hs J) λσ H Q h9=>by
 z_go;kd_p;obtain⟨xs,c,h1⟩:=jI h1;refine⟨lst?_ty R1 v1 c,ρ1,S1,τ,R1,r.ext e1,jE (jL h1) e1 λas S2 h2 ρ2 H2 g e2 R2 v2=>?_⟩;gn_on
abbrev lV (o:A)(as:ab)(S:jB):R A:=match o,as with
 | .ref n,[x]=>opt (jA S n) λxs=>gd (xs.length<sizeLine) (.ok .non<|S.set n<|.lst<|xs++[x])
 | _,_=>.no
def mU:Fy X "list.append" (rM X lV):=λpins s σ H x k v us Q I rx f h9=>by
 kln_w
 cases vo with
 | @ref p n c=>
  match as,va,h with
  | [],_,h=>exact h.elim
  | _::_::_,_,h=>exact h.elim
  | [y],va,h=>
   obtain⟨w,rfl,hw⟩:=Mi va;ksr_p;obtain⟨d,h⟩:=j4 h;obtain⟨g,h1,r⟩:=R.lst c<|jP hn;obtain⟨ex,j⟩:=R.put c (jP hn)<|r.append<|.one hw;exact Dg pins s σ H _ _ v us Q I rx f ⟨p,g,w,rfl,rfl,h1,by rw[<- r.length];exact d,h _ _ _ ex j .non⟩
 | _=>exact h.elim
abbrev IK (o:A)(as:ab)(S:jB):R A:=match o,as with
 | .ref n,[.int i]=>opt (jA S n) λxs=>gd (-(2 ^ 63)<=i/\i<2 ^ 63) (opt (seqIndex? i xs.length) λk=>opt (xs[k]?) λx=>.ok x<|S.set n<|.lst<|xs.eraseIdx k)
 | _,_=>.no
def Vn:Fy X "list.pop" (rM X IK):=λpins s σ H x t v us Q I rx g h9=>by
 kln_w
 cases vo with
 | @ref p n c=>
  match as,va,h with
  | [],_,h=>exact h.elim
  | y::_::_,_,h=>exact(by cases y<;>exact h.elim)
  | [y],va,h=>
   obtain⟨w,rfl,hw⟩:=Mi va
   cases hw with
   | int i=>
    ksr_p;obtain⟨d,h⟩:=j4 h;obtain⟨k,f,h⟩:=jI h;obtain⟨y,j,h⟩:=jI h;obtain⟨m,h1,r⟩:=R.lst c<|jP hn;obtain⟨w,hw,vw⟩:=r.get j;obtain⟨ex,q⟩:=R.put c (jP hn)<|r.eraseIdx k;exact Ro pins s σ H _ _ v us Q I rx g ⟨p,m,i,k,w,rfl,rfl,h1,d.1,d.2,by rw[<- r.length];exact f,hw,h _ _ _ ex q<|vw.ext ex⟩
   | _=>exact h.elim
 | _=>exact h.elim
end
abbrev kX (N:am)(m:Sm)(as:ab)(S:jB):R A:=match m (as++List.replicate (N.length-as.length) .unb) S with
 | .rt a d=>.ok a d
 | .nx _ d=>.ok .non d
 | .ex c d=>.ex c d
 | _=>.no
abbrev qK (K:au)(n:Nat)(F:ab->jB->R A):Sp:=λc H Q _=>c.length=n/\∃ρ S as a d,Rel K ρ H S/\AVs K ρ H as c/\F as S=.ok a d/\∀ρ' H' v,Ext ρ ρ' H H'->Rel K ρ' H' d->AV K ρ' H' a v->Q v H'
def Vq{K:au}{H:Hp}{as:ab}(r:AVs K ρ H as vs)(N:am):SR K ρ H (as++List.replicate (N.length-as.length) .unb) (L2.start N vs):=by
 have c:=r.length;refine⟨by unfold L2.start;simp[c],λi a h=>?_⟩;by_cases f:i<as.length
 ·rw[bu f]at h;obtain⟨v,hv,d⟩:=r.get h;exact .inr ⟨v,by unfold L2.start;rw[bu<|by simp;lia,aK,hv];rfl,d⟩
 ·rw[iP (),List.getElem?_replicate]at h;split at h
  ·exact .inl (a_ h).symm
  ·cases h
section
variable {P:aj}{w:ah}{K:au}{mg:Str->bb}{base:aq}
def uY{x:Str}{st:aE}{f:ak}{N ps:am}{k:Nat}{m:Sm}(F:Fun K x qual st f fd)(U:FnScope N ps<|jN st)
  (J:∀(cdv:af) (A:az) (outer:List Env) (s:aA) (H:Hp) (E:XK),Room k (A.deeper<|envOfC qual (jN st) s.heap.objs.size f cdv)->Ub (IJ qj P w K mg base N qual (jN st) f cdv A outer s H E).nox (su st) m) :
  FnOk P w K mg base qj (k+1) f fd ps (qK K ps.length<|kX N m):=by
 refine F.ok U (λp H Q E h=>h.1) λcdv B outer s H p Q E j ⟨D,ρ,S,as,a,G,R,va,d,q⟩=>⟨_,J cdv B outer s H E j,ρ,S,_,R,Vq va N,?_⟩;unfold kX at d
 cases g:m (as++List.replicate (N.length-as.length) .unb) S with
 | rt b S2=>rw[g]at d;cases d;exact q
 | nx τ S2=>rw[g]at d;cases d;exact λρ' H' t e C _=>q ρ' H' _ e C .non
 | bk τ S2=>rw[g]at d;cases d
 | ct τ S2=>rw[g]at d;cases d
 | ex c S2=>rw[g]at d;cases d
 | no=>rw[g]at d;cases d
end
meta abbrev nV (P:aj)(w:ah)(K:au)(mg:Str->bb)(base:aq)(k:Nat)(x:Str)(ps:am)(F:ab->jB->R A):Prop:=Kn P w K mg base k x ps<|qK K ps.length F
abbrev eFn (F:ab->jB->R A)(d:qu):Ex:=λτ S=>(d τ S).bind λas S1=>match F as S1 with
 | .ok a S2=>.ok a S2
 | _=>.no
section
variable {X:Cx}{pos p:Pos}{e:aC}{es:List aC}{x:Str}{ps:am}{k:Nat}{F:ab->jB->R A}{d:qu}
theorem nv(G:nV X.prog X.w X.K X.mg X.base k x ps F)(Z:Room k X.A)(ha:AL X (e::es) d)(hl:∀τ S as S',d τ S=.ok as S'->as.length=ps.length)(hg:Gl X x<|>ε)(U:(x == ("__debug__" : Str))=false<|>δ)
  (hs:starEach (e::es) X.env=(false,eval e X.env)::starEach es X.env<|>ε) (J:((backTo pos<|starEach es X.env).any (·.1)=false)<|>ε):AE X (.Call (.Name x p) (e::es) [] pos) (eFn F d):=
 PE.imp (abd G Z ha hg U hs J) λσ H Q h9=>by
  z_go;refine⟨ρ,S,τ,R,r,?_⟩;have hb:=jL h
  cases f:d τ S with
  | no=>rw[f]at hb;exact hb
  | ex c S1=>rw[f]at hb;exact hb
  | ok as S1=>
   rw[f]at hb;intro ρ1 H1 j e1 R1 v1;rw[cj];refine⟨by rw[<- v1.length];exact hl τ S as S1 f,ρ1,S1,as,?_⟩;have hb:Am.R.post (match F as S1 with
    | .ok a S2=>.ok a S2
    | _=>.no) (Cs X ρ H Q) (XE X ρ H):=hb
   cases g:F as S1 with
   | ok a S2=>rw[g]at hb;exact⟨a,S2,R1,v1,rfl,λρ2 H2 v e2=>hb ρ2 H2 v<|e1.trans e2⟩
   | ex c S2=>rw[g]at hb;exact hb.elim
   | no=>rw[g]at hb;exact hb.elim
def kC:∀τ S as S',jG τ S=.ok as S'->as.length=0:=λτ S as S' h=>by cases h;rfl
def jM{c:Ex}{d:qu}{n:Nat}(h:∀τ S as S',d τ S=.ok as S'->as.length=n):∀τ S as S',jy c d τ S=.ok as S'->as.length=n+1:=λτ S as S' e=>by
 unfold jy at e
 cases hc:c τ S with
 | ok a S1=>
  rw[hc]at e
  cases f:d τ S1 with
  | ok bs S2=>
   have e:R.bind (d τ S1) (λas S2=>.ok (a::as) S2)=.ok as S':=e;rw[f]at e;cases e;rw[bR,h τ S1 bs _ f]
  | ex _ _=>
   have e:R.bind (d τ S1) (λas S2=>.ok (a::as) S2)=.ok as S':=e;rw[f]at e;cases e
  | no=>
   have e:R.bind (d τ S1) (λas S2=>.ok (a::as) S2)=.ok as S':=e;rw[f]at e;cases e
 | ex _ _=>rw[hc]at e;cases e
 | no=>rw[hc]at e;cases e
end
section
variable {X:Cx}{pos:Pos}{a b c d:aC}
abbrev kCh (J:A->A->jB->R A)(U:Ex)(τ:ab)(b k:A)(S:jB):R A:=match k with
 | .bl true=>(U τ S).bind λc d=>J b c d
 | .bl false=>.ok (.bl false) S
 | _=>.no
abbrev eCh (f J:A->A->jB->R A)(U Z cc:Ex):Ex:=λτ S=>(U τ S).bind λa S1=>(Z τ S1).bind λb S2=>(f a b S2).bind λk S3=>kCh J cc τ b k S3
def XR{f J:A->A->jB->R A}{U Z cc:Ex}{H:Hp}{Q:VK}(h:tE X (eCh f J U Z cc) σ H Q):Oz (r2 X f) (r2 X J) (tE X U) (tE X Z) (tE X cc) σ H Q:=by
 o_rec;refine⟨ρ,S,τ,R,r,jE (jL h) .refl λa S1 h1 ρ1 H1 x e1 R1 v1=>⟨ρ1,S1,τ,R1,r.ext e1,jE (jL h1) e1 λb S2 h2 ρ2 H2 y e2 R2 v2=>?_⟩⟩;have g:=e1.trans e2;refine⟨ρ2,S2,a,b,R2,v1.ext e2,v2,jE (jL h2) g λk S3 h3 ρ3 H3 z e3 R3 m=>?_⟩;have d:=g.trans e3
 cases k with
 | bl k=>
  cases FF m
  refine⟨k,rfl,?_⟩
  cases k with
  | true=>
   rw[aR rfl];exact⟨ρ3,S3,τ,R3,r.ext d,jE (jL h3) d λc t p j D w e4 B C=>⟨j,t,b,c,B,v2.ext<|e3.trans e4,C,jE p (d.trans e4) λ_ _ q=>q.ext<|d.trans e4⟩⟩
  | false=>
   rw[aN br];exact h3 ρ3 H3 _ d R3<|.bl false
 | _=>exact h3.elim
def aas{f U:A->A->jB->R A}{Z cb cc:Ex}(ho:pL X (compareOp op)<|r2 X f)(J:pL X (compareOp op')<|r2 X U)(ha:AE X a Z)(hb:AE X b cb)(hc:AE X c cc)(hm:lastMarks [op,op'] [b,c]=false<|>η) :
  AE X (.Compare a [op,op'] [b,c] pos) (eCh f U Z cb cc):=PE.imp (RV ho J ha hb hc hm) λ_ _ _ h=>XR h
abbrev A.flat:A->Bool
 | .non=>true
 | .bl _=>true
 | .int _=>true
 | .str _=>true
 | _=>false
abbrev eqF:A->A->Bool
 | .non,.non=>true
 | .bl a,.bl b=>a == b
 | .bl a,.int b=>(if a then 1 else 0) == b
 | .int a,.bl b=>a == (if b then 1 else 0)
 | .int a,.int b=>a == b
 | .str a,.str b=>a == b
 | _,_=>false
def LC{K:au}{H:Hp}{x:A}{v:V}(h:AV K ρ H x v)(f:x.flat=true):u9 v=true:=by cases h<;>first|rfl|cases f
def HZ{K:au}{H:Hp}{x y:A}{v:V}(h:AV K ρ H x v)(h':AV K ρ H y u)(f:x.flat=true)(J:y.flat=true):Il v u=eqF x y:=by
 cases h<;>cases h'<;>first|rfl|(cases f;done)|(cases J;done)
theorem PV{K:au}{H:Hp}{x:A}{v:V}(h:AV K ρ H x v)(f:x.flat=true):∀{ys:ab}{us:List V},AVs K ρ H ys us->ys.all A.flat=true->inV v us=(ys.any λz=>eqF z x)/\us.all u9=true
 | _,_,.nil,_=>⟨rfl,rfl⟩
 | y::ys,u::us,.cons hy t,fs=>by
  rw[i7,cJ]at fs;obtain⟨h1,h2⟩:=PV h f t fs.2;refine⟨?_,by rw[i7,LC hy fs.1,h2];rfl⟩;show(Il u v || inV v us)=_;rw[h1,HZ hy h fs.1 f];rfl
abbrev MQ (S:jB)(x:A):ab->bd
 | []=>some false
 | z::zs=>(rQ S 12 z x).bind λp=>(MQ S x zs).map λq=>p || q
abbrev Hv (neg:Bool)(x y:A)(S:jB):R A:=opt (y.seq S) λys=>opt (MQ S x ys) λb=>.ok (.bl<|if neg then !b else b) S
def Ax{H:Hp}{x:A}{v:af}(I:Inv X pins σ H s)(R:Rel X.K ρ H S)(U:X.A.units+64<cLine)(J:AV X.K ρ H x vx)(rx:RelV vx v) :
  ∀{ys:ab} {us:List V} {its:ar} {b:Bool},AVs X.K ρ H ys us->Vals us its->MQ S x ys=some b->∃e:af->Bool,(∀w∈its,SeqAt.EqAt X.A.in1 s w v<|e w)/\its.any e=b:=by
 intro ys
 induction ys with
 | nil=>
  intro us its b h1 h2 h
  cases h1
  cases h2
  exact⟨λ_=>false,(λw hw=>by cases hw),a_ h⟩
 | cons z zs j=>
  intro us its b h1 h2 h
  cases h1 with
  | cons F k=>
   rename_i u us
   cases h2 with
   | cons r B=>
    rename_i f its
    classical
    obtain⟨p,D,h⟩:=cy.mp h;obtain⟨q,C,h⟩:=aQ.mp h;obtain⟨e,g,ha⟩:=j k B C;have h0:=(Li I R 12 X.A.in1 z x u vx f v p (by rw[in1_units];omega) F J r rx D).2.1;subst h
    cases p with
    | true=>
     refine⟨λw=>if w=f then true else e w,λw hw=>?_,?_⟩
     ·by_cases d:w=f
      ·dsimp[d,fF];exact h0
      ·dsimp[d,cY]
       rcases bw.mp hw with z|z
       ·exact absurd z d
       ·exact g w z
     ·simp
    | false=>
     by_cases m:f∈its
     ·refine⟨e,λw hw=>?_,?_⟩
      ·rcases bw.mp hw with z|z
       ·rw[z];exact g f m
       ·exact g w z
      ·rw[fL,ha,gc]
       cases q with
       | true=>simp
       | false=>
        have:=List.any_eq_false.mp ha f m;simpa using this
     ·refine⟨λw=>if w=f then false else e w,λw hw=>?_,?_⟩
      ·by_cases d:w=f
       ·dsimp[d,fF];exact h0
       ·dsimp[d,cY]
        rcases bw.mp hw with z|z
        ·exact absurd z d
        ·exact g w z
      ·rw[fL,<- ha];dsimp[fF,gc];have:∀l:ar,(∀w∈l,w≠f)->l.any (λw=>if w=f then false else e w)=l.any e:=λl t=>by
        induction l with
        | nil=>rfl
        | cons c l j=>rw[fL,fL,j λw hw=>t w<|aO _ hw,aN<|t c<|aJ ..]
       exact this its λw hw z=>m<|z ▸ hw
def Rz(J:X.A.units+64<cLine):pL X (compareOp .In) (r2 X<|Hv false):=λpins s σ H x y v u Q I rx ry h9=>by
 w_up;obtain⟨ys,j,h⟩:=jI h;obtain⟨k,g,h⟩:=jI h;obtain⟨p,us,rfl,hs,r⟩:=OE R vb j
 cases ry
 rcases hs with hs|hs
 ·obtain⟨c,f,pl,m⟩:=I.list hs;obtain⟨e,d,ha⟩:=Ax I R J va rx r f g;refine SeqAt.in_listAt e pl.isList (λw hw=>d w<|by simpa using hw) ⟨.bl _,H,I,rfl,?_⟩;rw[show c.toArray.any e=c.any e by simp,ha];exact h _ _ _ .refl R (.bl _)
 ·obtain⟨c,f,pl,m⟩:=I.tuple hs;obtain⟨e,d,ha⟩:=Ax I R J va rx r f g;refine SeqAt.in_tupleAt e pl (λw hw=>d w<|by simpa using hw) ⟨.bl _,H,I,rfl,?_⟩;rw[show c.toArray.any e=c.any e by simp,ha];exact h _ _ _ .refl R<|.bl _
def KH(J:X.A.units+64<cLine):pL X (compareOp .NotIn) (r2 X<|Hv true):=λpins s σ H x y v u Q I rx ry h9=>by
 w_up;obtain⟨ys,j,h⟩:=jI h;obtain⟨k,g,h⟩:=jI h;obtain⟨p,us,rfl,hs,r⟩:=OE R vb j
 cases ry
 rcases hs with hs|hs
 ·obtain⟨c,f,pl,m⟩:=I.list hs;obtain⟨e,d,ha⟩:=Ax I R J va rx r f g;refine SeqAt.notIn_listAt e pl.isList (λw hw=>d w<|by simpa using hw) ⟨.bl _,H,I,rfl,?_⟩;rw[show c.toArray.any e=c.any e by simp,ha];exact h _ _ _ .refl R (.bl _)
 ·obtain⟨c,f,pl,m⟩:=I.tuple hs;obtain⟨e,d,ha⟩:=Ax I R J va rx r f g;refine SeqAt.notIn_tupleAt e pl (λw hw=>d w<|by simpa using hw) ⟨.bl _,H,I,rfl,?_⟩;rw[show c.toArray.any e=c.any e by simp,ha];exact h _ _ _ .refl R<|.bl _
abbrev ZM (o:A)(as:ab)(S:jB):R A:=match as with
 | [x]=>opt (o.seq S) λys=>gd (x.flat=true/\ys.all A.flat=true) (opt (ys.findIdx? λz=>eqF z x) λk=>.ok (.int (k:Nat)) S)
 | _=>.no
abbrev Bf (co:Ex)(d:qu):Ex:=λτ S=>(co τ S).bind λo S1=>opt (o.seq S1) λ_=>(d τ S1).bind λas S2=>ZM o as S2
abbrev A.isTup:A->Bool
 | .tup _=>true
 | _=>false
def Gr{K:au}{H:Hp}{x:A}{v:V}(R:Rel K ρ H S)(h:AV K ρ H x v)(e:x.seq S=some xs):∃p vs,v=.ref p/\(if x.isTup=true then nX K H p vs else qf K H p vs)/\AVs K ρ H xs vs:=by
 cases h with
 | tup h r=>cases a_ e;exact⟨_,_,rfl,(nX.of h),r⟩
 | frz h r=>cases a_ e;exact⟨_,_,rfl,h.SO,r⟩
 | ref h=>
  obtain⟨vs,h1,r1⟩:=R.lst h<|jP e;exact⟨_,vs,rfl,qf.of h1,r1⟩
 | _=>cases e
def Yh{K:au}{H:Hp}{x:A}{v:V}{ys:ab}{us:List V}{k:Nat}(h:AV K ρ H x v)(f:x.flat=true)(r:AVs K ρ H ys us)(fs:ys.all A.flat=true)(e:(ys.findIdx? λz=>eqF z x)=some k) :
  us.all u9=true/\∃z,us[k]?=some z/\Il z v=true/\∀(m:Nat) (z':V),m<k->us[m]?=some z'->Il z' v=false:=by
 rw[List.findIdx?_eq_some_iff_getElem]at e;obtain⟨q,h1,h2⟩:=e;have fl:∀m (g:m<ys.length),ys[m].flat=true:=λm g=>di.mp fs _<|cK g;refine⟨(PV h f r fs).2,?_⟩;obtain⟨z,B,t⟩:=r.get<|aH q;refine⟨z,B,by rw[HZ t h (fl k q) f];exact h1,λm z' g p=>?_⟩;have d:m<ys.length:=()
 obtain⟨C,c,j⟩:=r.get<|aH d;rw[p]at c;cases c;rw[HZ j h (fl m d) f];have:=h2 m g;simpa using this
def D_{e:aC}{apos cpos:Pos}{co:Ex}{d:qu}(ho:AE X o co)(ha:AL X (e::es) d)
  (Z:attributeBase o "index" X.env (eval o X.env)=eval o X.env<|>ε)
  (hfew:(((backTo cpos<|starEach (e::es) X.env).all (λx=>!x.1) && (backToKw cpos<|keywordEach [] X.env).all (λx=>x.1.isSome)
   && decide ((e::es).length+([]:List Keyword).length+(if ([]:List Keyword).isEmpty then 0 else 1)<30))=true)<|>ε)
  (hline:(apos.endLine == cpos.line)=true<|>ε) (hs:starEach (e::es) X.env=(false,eval e X.env)::starEach es X.env<|>ε) (U:((backTo cpos<|starEach es X.env).any (·.1)=false)<|>ε) :
  AE X (.Call (.Attribute o "index" apos) (e::es) [] cpos) (Bf co d):=PE.imp (Yq ho ha Z hfew hline hs U) λσ H Q h9=>by
 z_go;kd_p;obtain⟨xs,q,h1⟩:=jI h1;obtain⟨p,g,hv,C,_⟩:=Gr R1 v1 q;refine⟨x.isTup,p,g,hv,C,ρ1,S1,τ,R1,r.ext e1,jE (jL h1) e1 λas S2 h2 ρ2 H2 K e2 R2 v2=>?_⟩;unfold ZM at h2
 match as,v2,h2 with
 | [],_,h2=>exact h2.elim
 | _::_::_,_,h2=>exact h2.elim
 | [y],v2,h2=>
  obtain⟨w,rfl,hw⟩:=Mi v2;obtain⟨ys,F,h2⟩:=jI h2;obtain⟨⟨f1,f2⟩,h2⟩:=j4 h2;obtain⟨k,B,h2⟩:=jI h2;obtain⟨j,us,f,c,G⟩:=Gr R2 (v1.ext e2) F;obtain⟨m,z,J,D,t⟩:=Yh hw f1 G f2 B;exact⟨j,w,us,k,z,f,rfl,c,LC hw f1,m,J,D,t,h2 _ _ _ (e1.trans e2) R2<|.int _⟩
abbrev Ft (o:A)(as:ab)(S:jB):R A:=match o,as with
 | .ref n,[.ref m]=>opt (jA S n) λxs=>opt (jA S m) λys=>gd (xs.length+ys.length<=sizeLine) (.ok .non<|S.set n<|.lst<|xs++ys)
 | _,_=>.no
def OW:Fy X "list.extend" (rM X Ft):=λpins s σ H x C v us Q I rx j h9=>by
 kln_w
 cases vo with
 | @ref p n c=>
  match as,va,h with
  | [],_,h=>exact h.elim
  | y::_::_,_,h=>exact(by cases y<;>exact h.elim)
  | [y],va,h=>
   obtain⟨w,rfl,hw⟩:=Mi va
   cases hw with
   | @ref q m k=>
    ksr_p;obtain⟨ys,g,h⟩:=jI h;obtain⟨f,h⟩:=j4 h;obtain⟨t,h1,r⟩:=R.lst c<|jP hn;obtain⟨zs,h2,d⟩:=R.lst k<|jP g;obtain⟨ex,B⟩:=R.put c (jP hn)<|r.append d;exact Mx pins s σ H _ _ v us Q I rx j ⟨p,q,t,zs,rfl,rfl,h1,h2,by rw[<- r.length,<- d.length];exact f,h _ _ _ ex B .non⟩
   | _=>exact h.elim
 | _=>exact h.elim
end
abbrev jV (S:jB)(n:Nat):Option (List<|ae×A):=match S[n]? with
 | some (.dct xs)=>some xs
 | _=>none
def lN{n:Nat}(h:jV S n=some xs):S[n]?=some (.dct xs):=by
 unfold jV at h;split at h
 ·rename_i e;cases h;exact e
 ·cases h
def qZ{S:jB}{n:Nat}(h:S[n]?=some (.dct xs)):jV S n=some xs:=by
 unfold jV;rw[h]
abbrev kH (kvs:List<|ae×A)(k:ae):Option A:=(kvs.find? λkv=>decide<|kv.1=k).map (·.2)
abbrev putD (kvs:List<|ae×A)(k:ae)(v:A):List (ae×A):=
 if (kH kvs k).isSome=true then kvs.map (λkv=>if kv.1=k then(kv.1,v)else kv)else kvs++[(k,v)]
theorem E4:∀{a b:ae},a.map (Sum.inl:Int->Key)=b.map Sum.inl->a=b
 | [],[],_=>rfl
 | [],_::_,e=>by simp at e
 | _::_,[],e=>by simp at e
 | x::xs,y::ys,e=>by
  rw[bF,bF]at e
  injection e with e1 e2
  injection e1 with e1
  rw[e1,E4 e2]
def zZ(ns:ae):(ns.map (Sum.inl:Int->Key)).map kV=ns.map V.int:=by rw[bC];rfl
section
variable {K:au}{ρ:ba}{H:Hp}
def ML{p:ae×A}{r:List<|ae×A}{k:ae}(e:p.1=k):kH (p::r) k=some p.2:=by simp[kH,b5,e]
def M5{p:ae×A}{r:List<|ae×A}{k:ae}(e:¬p.1=k):kH (p::r) k=kH r k:=by simp[kH,b5,e]
theorem DV.look:∀{kvs:List<|ae×A}{ks:List<|List Key×V}(k:ae),DV K ρ H kvs ks->(kH kvs k).isSome=(pU ks<|k.map Sum.inl).isSome/\∀x,kH kvs k=some x->∃v,pU ks (k.map Sum.inl)=some v/\AV K ρ H x v
 | [],[],k,_=>⟨rfl,λx h=>nomatch h⟩
 | p::r,q::r',k,⟨⟨e,a⟩,t⟩=>by
  by_cases c:p.1=k
  ·have d:q.1=k.map Sum.inl:=by rw[e,c]
   rw[ML c,vP d];exact⟨rfl,λx h=>by cases h;exact⟨_,rfl,a⟩⟩
  ·have d:¬q.1=k.map Sum.inl:=λz=>c<|E4<|e.symm.trans z;rw[M5 c,vN d];exact DV.look k t
theorem DV.repl{x:A}{v:V}(h:AV K ρ H x v)(k:ae):∀{kvs:List<|ae×A}{ks:List<|List Key×V},DV K ρ H kvs ks->DV K ρ H (kvs.map λkv=>if kv.1=k then(kv.1,x)else kv) (ks.map λkv=>if kv.1=k.map Sum.inl then(kv.1,v)else kv)
 | [],[],_=>trivial
 | p::r,q::r',⟨⟨e,a⟩,t⟩=>by
  refine⟨?_,DV.repl h k t⟩;dsimp only;by_cases c:p.1=k
  ·rw[aR c,aR<|by rw[e,c]];exact⟨e,h⟩
  ·rw[aN c,aN λz=>c<|E4<|e.symm.trans z];exact⟨e,a⟩
theorem DV.snoc{x:A}{v:V}(h:AV K ρ H x v)(k:ae):∀{kvs:List<|ae×A}{ks:List<|List Key×V},DV K ρ H kvs ks->DV K ρ H (kvs++[(k,x)]) (ks++[(k.map Sum.inl,v)])
 | [],[],_=>⟨⟨rfl,h⟩,trivial⟩
 | p::r,q::r',⟨a,t⟩=>⟨a,DV.snoc h k t⟩
def DV.put{x:A}{v:V}(h:AV K ρ H x v)(k:ae){ks:List<|List Key×V}(d:DV K ρ H kvs ks):DV K ρ H (putD kvs k x) (putK ks (k.map Sum.inl) v):=by
 unfold putD putK;rw[yr,<- (d.look k).1];by_cases c:(kH kvs k).isSome=true
 ·rw[aR c,aR c];exact DV.repl h k d
 ·rw[aN c,aN c];exact DV.snoc h k d
def DV.length:∀{kvs:List<|ae×A}{ks:List<|List Key×V},DV K ρ H kvs ks->kvs.length=ks.length
 | [],[],_=>rfl
 | _::_,_::_,⟨_,t⟩=>cH (·+1) t.length
def Rel.dct{n:Nat}{a:ak}(R:Rel K ρ H S)(ha:ρ[n]?=some a)(hS:S[n]?=some (.dct xs)):∃vs,H a=some (.dT vs)/\DV K ρ H xs vs:=R.at n a _ ha hS
def Rel.acJ{S:jB}{p:ak}(R:Rel K ρ H S)(J:H p=none)(r:DV K ρ H xs vs):Ext ρ (ρ++[p]) H (upd H p<|.dT vs)/\Rel K (ρ++[p]) (upd H p<|.dT vs) (S++[.dct xs])/\(ρ++[p])[S.length]?=some p:=by
 have ex:Ext ρ (ρ++[p]) H (upd H p<|.dT vs):=⟨⟨dO _ _,λa u _ h=>by rw[jK<|jR h J];exact h⟩,λa u h _=>by rw[jK<|jR h J];exact h,λa h=>by
  rcases bJ.mp h with z|z
  ·exact .inl z
  ·have e:a=p:=by simpa using z
   rw[e];exact .inr J⟩
 have g:p∉ρ:=R.CY J;have c:(ρ++[p])[S.length]?=some p:=by rw[<- R.len];simp
 refine⟨ex,⟨by simp[R.len],?_,?_⟩,c⟩
 ·rw[bN];cb_eq;have:b=p:=by simpa using hb
  exact g<|by rw[<- this,<- e];exact ha
 ·intro n a o h1 h2;by_cases hn:n<S.length
  ·rw[bu<|by rw[R.len];exact hn]at h1;rw[bu hn]at h2;have na:a≠p:=λz=>g (by rw[<- z];exact aY h1);have:=R.at n a o h1 h2
   cases o with
   | lst ys=>obtain⟨d,e,q⟩:=this;exact⟨d,by rw[jK na];exact e,q.ext ex⟩
   | dct _|nQ _|dks _|vQ _=>obtain⟨d,e,q⟩:=this;exact⟨d,by rw[jK na];exact e,q.ext ex⟩
   | dcf _|dkf _=>obtain⟨f,d,e,q⟩:=this;exact⟨f,d,by rw[jK na];exact e,q.ext ex⟩
   | ins _ _=>obtain⟨f,j,e⟩:=this;exact⟨f,j,by rw[jK na];exact e⟩
  ·have e:n=S.length:=by
    have:=(aG.mp h2).1;simp at this;omega
   subst e;rw[c]at h1
   cases h1
   simp at h2;subst h2;exact⟨vs,j6,r.ext ex⟩
def Rel.putD{S:jB}{n:Nat}{a:ak}(R:Rel K ρ H S)(ha:ρ[n]?=some a)(hS:S[n]?=some (.dct xs))(r:DV K ρ H ys ws):Ext ρ ρ H (upd H a<|.dT ws)/\Rel K ρ (upd H a<|.dT ws) (S.set n<|.dct ys):=by
 obtain⟨k,e,_⟩:=R.at n a _ ha hS;have ex:Ext ρ ρ H (upd H a<|.dT ws):=⟨⟨dN _,λb u i h=>by
  have:b≠a:=by
   intro z;subst z;rw[e]at h;cases h;exact i
  rw[jK this];exact h⟩,λb u h n=>by
  rw[jK λz=>n<|by rw[z];exact aY ha];exact h,λ_ h=>.inl h⟩
 refine⟨ex,by rw[cz];exact R.len,R.nd,λm b o h1 h2=>?_⟩;by_cases f:m=n
 ·subst f;rw[ha]at h1;cases h1;rw[bK (aG.mp hS).1]at h2
  cases h2
  exact⟨ws,j6,r.ext ex⟩
 ·rw[bG<|Ne.symm f]at h2;have nb:b≠a:=λz=>by
   subst z;obtain⟨t,e1⟩:=aG.mp ha;obtain⟨p,e2⟩:=aG.mp h1;exact f<|(cI R.nd).mp<|e2.trans e1.symm
  have:=R.at m b o h1 h2
  cases o with
  | lst ys=>obtain⟨c,d,q⟩:=this;exact⟨c,by rw[jK nb];exact d,q.ext ex⟩
  | dct _|nQ _|dks _|vQ _=>obtain⟨c,d,q⟩:=this;exact⟨c,by rw[jK nb];exact d,q.ext ex⟩
  | dcf _|dkf _=>obtain⟨g,c,d,q⟩:=this;exact⟨g,c,by rw[jK nb];exact d,q.ext ex⟩
  | ins _ _=>obtain⟨g,j,d⟩:=this;exact⟨g,j,by rw[jK nb];exact d⟩
end
section
variable {X:Cx}{pos:Pos}{a b:aC}
def Ab{H:Hp}{p q:ak}{n:Nat}{ns:ae}(R:Rel X.K ρ H S)(U:ρ[n]?=some p)(hn:jV S n=some kvs)(J:H q=some (.tup vs))(r:AVs X.K ρ H xs vs)(hi:A.ints xs=some ns) :
  ∃ks,H p=some (.dT ks)/\DV X.K ρ H kvs ks/\H q=some (.tup<|(ns.map (Sum.inl:Int->Key)).map kV)/\uM H p (.ref q) (pU ks<|ns.map Sum.inl):=by
 obtain⟨ks,e,d⟩:=R.dct U<|lN hn;have z:=yc r hi;subst z;rw[<- zZ]at J;exact⟨ks,e,d,J,uM.t e J⟩
abbrev zY (x y:A)(S:jB):R A:=match x,y with
 | .ref n,.tup xs=>opt (jV S n) λc=>opt (A.ints xs) λd=>opt (kH c d) λv=>.ok v S
 | _,_=>.no
def abV(J:X.A.units+64<cLine):SI X (r2 X zY):=λc f pins s σ H x y v u Q I rx ry ⟨ρ,S,a,b,R,va,vb,h⟩ hs=>by
 cases va with
 | @ref p n C=>
  cases vb with
  | @tup q xs G t r=>
   obtain⟨j,hn,h⟩:=jI h;obtain⟨B,D,h⟩:=jI h;obtain⟨z,F,h⟩:=jI h;obtain⟨ks,e,d,k,g⟩:=Ab R C hn t r D;obtain⟨w,hw,m⟩:=(d.look B).2 z F;rw[hw]at g;exact Az (by omega) c f pins s σ H _ _ v u Q I rx ry ⟨p,w,rfl,g,h _ _ _ .refl R m⟩ hs
  | _=>exact h.elim
 | _=>exact h.elim
def EB(Z:X.A.units+64<cLine){J U:Ex}(ha:AE X a J)(hb:AE X b U)(hs:wO b<|>θ):AE X (.Subscript a b pos) (jH zY J U):=PE.imp (GL (abV Z) ha hb hs) λσ H Q h=>sy h
abbrev HM (neg:Bool)(x y:A)(S:jB):R A:=match x,y with
 | .tup xs,.ref n=>opt (jV S n) λc=>opt (A.ints xs) λd=>.ok (.bl<|if neg then !(kH c d).isSome else(kH c d).isSome) S
 | _,_=>.no
def abB(J:X.A.units+64<cLine):pL X (compareOp .In) (r2 X<|HM false):=λpins s σ H x y v u Q I rx ry h9=>by
 w_up
 cases va with
 | @tup q xs B f r=>
  cases vb with
  | @ref p n k=>
   obtain⟨c,hn,h⟩:=jI h;obtain⟨j,m,h⟩:=jI h;obtain⟨ks,e,d,t,g⟩:=Ab R k hn f r m;exact Zi () pins s σ H _ _ v u Q I rx ry ⟨p,_,rfl,g,by rw[<- (d.look j).1];exact h _ _ _ .refl R<|.bl _⟩
  | _=>exact h.elim
 | _=>exact h.elim
def SA(J:X.A.units+64<cLine):pL X (compareOp .NotIn) (r2 X<|HM true):=λpins s σ H x y v u Q I rx ry h9=>by
 w_up
 cases va with
 | @tup q xs B f r=>
  cases vb with
  | @ref p n k=>
   obtain⟨c,hn,h⟩:=jI h;obtain⟨j,m,h⟩:=jI h;obtain⟨ks,e,d,t,g⟩:=Ab R k hn f r m;exact MB (by omega) pins s σ H _ _ v u Q I rx ry ⟨p,_,rfl,g,by rw[<- (d.look j).1];exact h _ _ _ .refl R<|.bl _⟩
  | _=>exact h.elim
 | _=>exact h.elim
abbrev yw (o i v:A)(S:jB):R Unit:=match o,i with
 | .ref n,.tup xs=>opt (jV S n) λc=>opt (A.ints xs) λd=>gd (c.length<sizeLine) (.ok Unit.unit<|S.set n<|.dct<|putD c d v)
 | _,_=>.no
abbrev acK (X:Cx):HQ:=λo i v H Q=>∃ρ S f c d,Rel X.K ρ H S/\AV X.K ρ H f o/\AV X.K ρ H c i/\AV X.K ρ H d v/\(yw f c d S).post (λ_ g=>∀ρ' H',Ext ρ ρ' H H'->Rel X.K ρ' H' g->Q H') (XE X ρ H)
def TR(U:X.A.units+64<cLine):Ho X (acK X):=λpins s σ H o i v B iv u Q I k C D h9=>by
 obtain⟨ρ,S,O,N,M,R,h1,h2,h3,h⟩:=h9
 cases h1 with
 | @ref p n f=>
  cases h2 with
  | @tup q xs L F r=>
   obtain⟨j,hn,h⟩:=jI h;obtain⟨G,J,h⟩:=jI h;obtain⟨m,h⟩:=j4 h;obtain⟨ks,e,d,c,g⟩:=Ab R f hn F r J;obtain⟨ex,K⟩:=R.putD f (lN hn)<|d.put h3 G;exact set_dict () pins s σ H _ _ v B iv u Q I k C D ⟨p,_,rfl,FW.t e c<|by rw[<- d.length];exact m,h _ _ ex K⟩
  | _=>exact h.elim
 | _=>exact h.elim
abbrev Ca (co J:Ex):Tg:=λa τ S=>(co τ S).bind λo S1=>(J τ S1).bind λi S2=>(yw o i a S2).bind λ_ S3=>.ok τ S3
def uX(U:X.A.units+64<cLine){co J:Ex}(Z:AE X o co)(hi:AE X i J)
  (ha:(∀v,assign (.Subscript o i pos) X.env v=(do
   let ov <- holding [v] (eval o X.env)
   let iv <- holding [v,ov] (eval i X.env)
   standAt pos
   holding [v,ov,iv] (setItem ov iv v)
   release [v,ov,iv] []))<|>ζ):AG X (.Subscript o i pos) (Ca co J):=PG.imp (Em Z hi (TR U) ha) λv σ H Q h9=>by
 obtain⟨ρ,S,τ,a,R,r,va,h⟩:=h9;fin2;gp_on;kpf_c
abbrev wY:Ex:=λ_ S=>.ok (.ref S.length)<|S++[.dct []]
def uI:AE X (.Dict [] [] pos) wY:=PE.imp OI λσ H Q ⟨ρ,S,τ,R,r,h⟩ p d=>by
 obtain⟨ex,f,c⟩:=R.acJ (xs:=[]) (vs:=[]) d trivial;exact h _ _ _ ex f<|.ref c
abbrev dct? (a:A)(S:jB):Option Unit:=match a with
 | .ref n=>(jV S n).map λ_=>Unit.unit
 | _=>none
abbrev Zo (f:A->ab->jB->R A)(co:Ex)(d:qu):Ex:=λτ S=>(co τ S).bind λx S1=>opt (dct? x S1) λ_=>(d τ S1).bind λas S2=>f x as S2
def dct?_ty{K:au}{H:Hp}{x:A}{v:V}(R:Rel K ρ H S)(a:AV K ρ H x v)(e:dct? x S=some u):tyV K "dict" v H:=by
 cases a with
 | @ref p n h=>
  obtain⟨xs,c,_⟩:=aQ.mp e;obtain⟨d,h1,_⟩:=R.dct h<|lN c;exact .inr<|.inr<|.inl ⟨rfl,.inr ⟨d,h1⟩⟩
 | _=>cases e
def Yp{e:aC}{id:String}{apos cpos:Pos}{f:A->ab->jB->R A}{co:Ex}{d:qu}(slot:Slot "dict" name id)(hty:typeOf (.builtin id)=pure (.type "method_descriptor"))(hm:Fy X id<|rM X f)(ho:AE X o co)(ha:AL X (e::es) d)
  (U:attributeBase o name X.env (eval o X.env)=eval o X.env<|>ε)
  (hfew:(((backTo cpos<|starEach (e::es) X.env).all (λx=>!x.1) && (backToKw cpos<|keywordEach [] X.env).all (λx=>x.1.isSome)
   && decide ((e::es).length+([]:List Keyword).length+(if ([]:List Keyword).isEmpty then 0 else 1)<30))=true)<|>ε)
  (Z:(apos.endLine == cpos.line)=true<|>ε) (hs:starEach (e::es) X.env=(false,eval e X.env)::starEach es X.env<|>ε) (J:((backTo cpos<|starEach es X.env).any (·.1)=false)<|>ε) :
  AE X (.Call (.Attribute o name apos) (e::es) [] cpos) (Zo f co d):=PE.imp (OT fq slot hty hm ho ha U hfew Z hs J) λσ H Q h9=>by
 z_go;kd_p;obtain⟨xs,c,h1⟩:=jI h1;refine⟨dct?_ty R1 v1 c,ρ1,S1,τ,R1,r.ext e1,jE (jL h1) e1 λas S2 h2 ρ2 H2 g e2 R2 v2=>?_⟩;gn_on
abbrev ZN (o:A)(as:ab)(S:jB):R A:=match o,as with
 | .ref n,[.tup xs,y]=>opt (jV S n) λc=>opt (A.ints xs) λk=>.ok ((kH c k).getD y) S
 | _,_=>.no
def ab3(U:X.A.units+64<cLine):Fy X "dict.get" (rM X ZN):=λpins s σ H x L v us Q I rx k h9=>by
 kln_w
 cases vo with
 | @ref p n G=>
  match as,va,h with
  | [],_,h=>exact h.elim
  | [z],_,h=>exact(by cases z<;>exact h.elim)
  | z::_::_::_,_,h=>exact(by cases z<;>exact h.elim)
  | [z,y],va,h=>
   obtain⟨N,j,rfl,K,C⟩:=Ja va
   cases K with
   | @tup q xs M m D=>
    obtain⟨d,hn,h⟩:=jI h;obtain⟨c,J,h⟩:=jI h;have z:=yc D J;subst z;obtain⟨ks,h1,t⟩:=R.dct G<|lN hn;refine Ua (by omega) pins s σ H _ _ v us Q I rx k ⟨p,q,c.map Sum.inl,ks,j,rfl,rfl,h1,by rw[zZ];exact m,h _ _ _ .refl R ?_⟩;obtain⟨f,B⟩:=t.look c
    cases e1:kH d c with
    | none=>
     rw[e1]at f
     cases e2:pU ks (c.map Sum.inl)with
     | none=>exact C
     | some _=>rw[e2]at f;cases f
    | some g=>
     obtain⟨v1,e2,F⟩:=B g e1;rw[e2];exact F
   | _=>exact h.elim
 | _=>exact h.elim
end
section
variable {X:Cx}{pos:Pos}{a b:aC}
abbrev zO (n k:Nat):Src:=⟨k,λi S=>(jA S n).bind λxs=>(xs[i]?).map λx=>.tup [.int i,x],λS=>match jA S n with
 | some ys=>decide (ys.length=k)
 | none=>false⟩
abbrev kEl (a:A)(S:jB):R Src:=match a with
 | .ref n=>opt (jA S n) λxs=>.ok (zO n xs.length) S
 | _=>.no
abbrev Ef (c:Ex):Ic:=λτ S=>(c τ S).bind λa S1=>kEl a S1
def Xy{K:au}{J:ba}{Z:Hp}{p:ak}{n k:Nat}(U:J[n]?=some p):JR K (zO n k) (Y7 K p) J Z where
 go:=λi S H ρ x e R g=>by
  obtain⟨xs,hn,g⟩:=cy.mp g;obtain⟨y,t,rfl⟩:=aQ.mp g;obtain⟨c,h1,r1⟩:=R.lst (e.get U)<|jP hn;obtain⟨v,j,m⟩:=r1.get t;refine⟨⟨c,v,qf.of h1,j⟩,λw H' q=>?_⟩;obtain⟨D,d,rfl,B⟩:=q;have f:=B c v (qf.of h1) j;subst f;obtain⟨ex,C⟩:=R.im (u:=.tup [.int i,v]) d;exact⟨ex,C,.tup j6<|.cons (.int _)<|.cons (m.ext ex) .nil⟩
 stop:=λS H ρ e R hf=>by
  have hf:(match jA S n with
   | some ys=>decide (ys.length=k)
   | none=>false)=true:=hf
  cases hn:jA S n with
  | none=>rw[hn]at hf;cases hf
  | some xs=>
   rw[hn]at hf;obtain⟨c,h1,r1⟩:=R.lst (e.get U)<|jP hn;exact⟨c,qf.of h1,by rw[<- r1.length];exact bE hf⟩
def EA{p:Pos}{c:Ex}(J:X.mg "enumerate" = none)(ha:AE X a c)(hg:Gl X "enumerate"<|>ε)(hs:starEach [a] X.env=[(false,eval a X.env)]<|>ε):AI X (.Tuple elts x1 tpos) (.Call (.Name "enumerate" p) [a] [] pos) (Ef c):=λpins s σ H Q I h9=>by
 z_go;refine Sq hg J (wF ha AR hs) hs pins s σ H Q I ⟨ρ,S,τ,R,r,jE (jL h) .refl λx S1 h1 ρ1 H1 v e1 R1 v1=>?_⟩
 cases v1 with
 | @ref p n d=>
  obtain⟨xs,hn,h1⟩:=jI h1;obtain⟨f,g,r1⟩:=R1.lst d<|jP hn;exact⟨_,f,rfl,qf.of g,h1 ρ1 H1 _ e1 R1<|Xy d⟩
 | _=>exact h1.elim
def Aj{c:Ex}{n:Nat}{xs:ab}(h:c τ S=.ok (.ref n) S1)(hn:jA S1 n=some xs):Ef c τ S=.ok (zO n xs.length) S1:=by
 unfold Ef;rw[h];show opt (jA S1 n) _=_;rw[hn];rfl
theorem WC{K:au}{H:Hp}:∀{kvs:List<|ae×A}{ks:List<|List Key×V}{i:Nat}{p:ae×A},DV K ρ H kvs ks->kvs[i]?=some p->∃q,ks[i]?=some q/\q.1=p.1.map Sum.inl/\AV K ρ H p.2 q.2
 | [],[],_,_,_,h=>by simp at h
 | a::kvs,b::ks,0,p,⟨z,_⟩,h=>by
  have:a=p:=by simpa using h
  subst this;exact⟨b,rfl,z⟩
 | a::kvs,b::ks,i+1,p,⟨_,t⟩,h=>WC (kvs:=kvs) (ks:=ks) (i:=i) t<|by simpa using h
end
abbrev ac7 (F:ab->jB->R A)(d:qu):Ex:=λτ S=>(d τ S).bind λas S1=>F as S1
abbrev TZ:List (Str ⊕ Ex)->ab->jB->R Unit
 | [],_,S=>.ok Unit.unit S
 | .inl _::ps,τ,S=>TZ ps τ S
 | .inr e::ps,τ,S=>(e τ S).bind λv S1=>match v with
  | .int i=>gd (i.natAbs.log2<64) (TZ ps τ S1)
  | _=>.no
abbrev YA (c:Str)(ps:List<|Str ⊕ Ex):Sm:=λτ S=>.of (TZ ps τ S) λ_ S1=>.ex c S1
abbrev Wk (i:Nat):RS->RS
 | .nx τ S=>.nx (τ.set i .unb) S
 | .bk τ S=>.bk (τ.set i .unb) S
 | .ct τ S=>.ct (τ.set i .unb) S
 | .rt a S=>.rt a S
 | _=>.no
abbrev acf (i n:Nat)(cs:am)(c d:Sm):Sm:=λτ S=>match c τ S with
 | .ex x S1=>if x∈cs then Wk i (d ((List.replicate n .unb).set i<|.exn x) S1)else .no
 | r=>r
abbrev ady (f:Str->bd)(c:Ex):Ex:=λτ S=>(c τ S).bind λv S1=>match v with
 | .exn x=>opt (f x) λb=>.ok (.bl b) S1
 | _=>.no
abbrev tbX (tb:List<|Str×Bool):Str->bd:=λx=>tb.lookup x
abbrev abl (F:ab->jB->R A)(d:qu):Ex:=λτ S=>match d τ S with
 | .ok as S1=>F as S1
 | _=>.no
section
variable {d:qu}
abbrev aaS (t:Te)(c d:Sm):Sm:=λτ S=>match t τ S with
 | .ok true S1=>c τ S1
 | .ok false S1=>d τ S1
 | _=>.no
end
abbrev V9 (i:Nat)(cs:am)(c d:Sm):Sm:=λτ S=>match c τ S with
 | .ex x S1=>if x∈cs then Wk i (d (τ.set i<|.exn x) S1)else .no
 | r=>r
abbrev sNo:Sm:=λ_ _=>.no
def Wb{X:Cx}{st:aE}:AS X st sNo:=PS.imp QI λD σ H ⟨ρ,S,τ,R,r,h⟩=>h.elim
def Ng{K:au}{H:Hp}{a:ak}{ns:ae}{F:ab->jB->R A}(J:VB H)(hS:qf K H a<|ns.map V.int)(h:∃S',F [.frz<|ns.map .int] []=.ok (.bl true) S'):qK K 1 F [.ref a] H (λv _=>v=.bl true) λ_ _ _=>False:=by
 obtain⟨S',h⟩:=h;have fz:Fz K H a (ns.map V.int):=by
  rcases hS with(h|⟨o,h⟩)|h
  ·rcases J a with z|⟨c,xs,z⟩
   ·rw[h]at z;cases z
   ·rw[h]at z;cases z
  ·exact .inl ⟨o,h⟩
  ·exact .inr h
 exact⟨rfl,[],[],_,_,S',⟨rfl,cT,λn a o h=>by simp at h⟩,.cons (.frz fz<|tZ ns) .nil,h,λρ' H' v _ _ hv=>FF hv⟩
section
variable {P:aj}{w:ah}{K:au}{mg:Str->bb}{base:aq}{f:ak}{fd:FuncData}{ps:am}{k n:Nat}
def N2(h:n=ps.length):FnOk P w K mg base qj k f fd ps (qK K n λ_ _=>.no):=
 ⟨λ_ _ _ _ z=>z.1.trans h,λ_ _ _ _ _ _ _ _ _ _ _ _ _ z=>by obtain⟨_,_,_,_,_,_,_,_,e,_⟩:=z;cases e⟩
end
def H_{P:ar->Prop}(h:∀a0,P [a0]):∀us:ar,us.length=1->P us
 | [_],_=>h _
def FA{P:ar->Prop}(h:∀a0 a1,P [a0,a1]):∀us:ar,us.length=2->P us
 | [_,_],_=>h _ _
def zT{n:Nat}{us:ar}(h:us.length=n+1):∃a t,us=a::t/\t.length=n:=by
 cases us with
 | nil=>simp at h
 | cons a t=>exact⟨a,t,rfl,by simpa using h⟩
def us3{P:ar->Prop}(h:∀a0 a1 a2,P [a0,a1,a2]):∀us:ar,us.length=3->P us:=λus e=>by
 obtain⟨a0,t0,rfl,e0⟩:=zT e;obtain⟨a1,d,rfl,e1⟩:=zT e0;obtain⟨a2,c,rfl,e2⟩:=zT e1
 cases cZ.mp e2
 exact h _ _ _
def us4{P:ar->Prop}(h:∀a0 a1 a2 a3,P [a0,a1,a2,a3]):∀us:ar,us.length=4->P us:=λus e=>by
 obtain⟨a0,t0,rfl,e0⟩:=zT e;obtain⟨a1,d,rfl,e1⟩:=zT e0;obtain⟨a2,c,rfl,e2⟩:=zT e1;obtain⟨a3,f,rfl,e3⟩:=zT e2
 cases cZ.mp e3
 exact h _ _ _ _
def us5{P:ar->Prop}(h:∀a0 a1 a2 a3 a4,P [a0,a1,a2,a3,a4]):∀us:ar,us.length=5->P us:=λus e=>by
 obtain⟨a0,t0,rfl,e0⟩:=zT e;obtain⟨a1,d,rfl,e1⟩:=zT e0;obtain⟨a2,c,rfl,e2⟩:=zT e1;obtain⟨a3,f,rfl,e3⟩:=zT e2;obtain⟨a4,g,rfl,e4⟩:=zT e3
 cases cZ.mp e4
 exact h _ _ _ _ _
end Am
namespace Am
open PySem L2
section
variable {α β:Type}{a b:A}{S S1:jB}{τ:ab}{x:α}
@[simp]def R.nk {f:α->jB->R β}:(R.ok x S).bind f=f x S:=rfl
@[simp]def R.Mb {f:α->jB->R β}{c:Str}:(R.ex c S:R α).bind f=.ex c S:=rfl
@[simp]def R.kJ {f:α->jB->R β}:(R.ok x S).tB f=f x S:=rfl
@[simp]def RS.of_ok {f:α->jB->RS}:RS.of (R.ok x S) f=f x S:=rfl
@[simp]def RS.Wv {f:α->jB->RS}{c:Str}:RS.of (R.ex c S:R α) f=.ex c S:=rfl
@[simp]def jS {f:β->R α}{y:β}:opt (some y) f=f y:=rfl
@[simp]def JX {r:R α}:gd True r=r:=aR trivial
theorem pR{c:Prop}[Decidable c]{r:R α}(h:c):gd c r=r:=aR h
@[simp]def oh {i:Nat}:jx i τ S=bif (τ.getD i .unb).qL then .no else .ok (τ.getD i .unb) S:=by unfold jx;cases(τ.getD i .unb).qL<;>rfl
@[simp]def JM {xs:ab}:A.qL (.tup xs)=false:=rfl
@[simp]def LZ {xs:ab}:A.qL (.frz xs)=false:=rfl
@[simp]def J7 {i:Int}:A.qL (.int i)=false:=rfl
@[simp]def PJ {i:Bool}:A.qL (.bl i)=false:=rfl
@[simp]def J2 {i:Str}:A.qL (.str i)=false:=rfl
@[simp]def Ka {i:Nat}:A.qL (.ref i)=false:=rfl
@[simp]def J_:A.qL .non=false:=rfl
@[simp]def JK {i j:Int}:A.qL (.rng i j)=false:=rfl
@[simp]def JO {c:Str}:A.qL (.exn c)=false:=rfl
@[simp]def Wz:eC a τ S=.ok a S:=rfl
abbrev abz (f:A->A->jB->R A)(J:Ex)(τ:ab)(a:A)(S:jB):R A:=(J τ S).bind<|f a
@[simp]def Kv {f:A->A->jB->R A}{J:Ex}:abz f J τ a S=(J τ S).bind (f a):=rfl
@[simp]def LI {f:A->A->jB->R A}{J U:Ex}:jH f J U τ S=(J τ S).bind (abz f U τ):=rfl
@[simp]def OP {f:A->jB->R A}{J:Ex}:WS f J τ S=(J τ S).bind f:=rfl
@[simp]def JT {c:Ex}:u_ c τ S=(c τ S).bind λa S1=>opt (a.Z0 S1) λb=>.ok b S1:=rfl
abbrev aB (a:A)(S:jB):R Bool:=match a with
 | .bl b=>.ok b S
 | _=>.no
@[simp]def WE {b:Bool}:aB (.bl b) S=.ok b S:=rfl
@[simp]def Rx {c:Ex}:qh c τ S=(c τ S).bind aB:=rfl
@[simp]def Lr {c:Te}:Hq c τ S=(c τ S).bind λb S1=>.ok (!b) S1:=rfl
abbrev YH (d:Te)(τ:ab)(b:Bool)(S:jB):R Bool:=match b with|true=>d τ S|false=>.ok false S
abbrev kOr (d:Te)(τ:ab)(b:Bool)(S:jB):R Bool:=match b with|true=>.ok true S|false=>d τ S
@[simp]def Qf {d:Te}:YH d τ true S=d τ S:=rfl
@[simp]def Ot {d:Te}:YH d τ false S=.ok false S:=rfl
@[simp]def Wf {d:Te}:kOr d τ true S=.ok true S:=rfl
@[simp]def WA {d:Te}:kOr d τ false S=d τ S:=rfl
@[simp]def JH {c d:Te}:Hi c d τ S=(c τ S).bind (YH d τ):=rfl
@[simp]def Sk {c d:Te}:Z2 c d τ S=(c τ S).bind (kOr d τ):=rfl
@[simp]def JF:nN τ S=.ok true S:=rfl
abbrev NW (d:Ex)(τ:ab)(a:A)(S:jB):R A:=match a with | .bl true=>d τ S | .bl false=>.ok (.bl false) S|_=>.no
abbrev Zu (d:Ex)(τ:ab)(a:A)(S:jB):R A:=match a with | .bl true=>.ok (.bl true) S | .bl false=>d τ S|_=>.no
@[simp]def LY {d:Ex}:NW d τ (.bl true) S=d τ S:=rfl
@[simp]def Ky {d:Ex}:NW d τ (.bl false) S=.ok (.bl false) S:=rfl
@[simp]def Qv {d:Ex}:Zu d τ (.bl true) S=.ok (.bl true) S:=rfl
@[simp]def Pd {d:Ex}:Zu d τ (.bl false) S=d τ S:=rfl
@[simp]def LW {c d:Ex}:Mv c d τ S=(c τ S).bind (NW d τ):=by
 unfold Mv
 cases c τ S with
 | ok a S1=>cases a<;>first|rfl|(rename_i b;cases b<;>rfl)
 | _=>rfl
@[simp]def Sj {c d:Ex}:eOr c d τ S=(c τ S).bind (Zu d τ):=by
 unfold eOr
 cases c τ S with
 | ok a S1=>cases a<;>first|rfl|(rename_i b;cases b<;>rfl)
 | _=>rfl
abbrev Wq (a:A)(S:jB):R A:=match a with | .bl b=>.ok (.bl !b) S|_=>.no
@[simp]def Ga {b:Bool}:Wq (.bl b) S=.ok (.bl !b) S:=rfl
@[simp]def KI {c:Ex}:UT c τ S=(c τ S).bind Wq:=rfl
abbrev Z1 (c d:Ex)(τ:ab)(b:Bool)(S:jB):R A:=match b with|true=>c τ S|false=>d τ S
@[simp]def P6 {c d:Ex}:Z1 c d τ true S=c τ S:=rfl
@[simp]def OX {c d:Ex}:Z1 c d τ false S=d τ S:=rfl
@[simp]def Om {t:Te}{c d:Ex}:eIf t c d τ S=(t τ S).bind (Z1 c d τ):=rfl
@[simp]def Jr:jG τ S=.ok [] S:=rfl
abbrev HS (a:A)(as:ab)(S:jB):R (ab):=.ok (a::as) S
abbrev V0 (d:qu)(τ:ab)(a:A)(S:jB):R (ab):=(d τ S).bind<|HS a
@[simp]def Di {as:ab}:HS a as S=.ok (a::as) S:=rfl
@[simp]def Gn {d:qu}:V0 d τ a S=(d τ S).bind (HS a):=rfl
@[simp]def Gk {c:Ex}{d:qu}:jy c d τ S=(c τ S).bind (V0 d τ):=rfl
@[simp]def Ma {d:qu}:sQ d τ S=(d τ S).bind λas S1=>gd (as.length<=sizeLine) (.ok (.tup as) S1):=rfl
@[simp]def Lm {d:qu}:pN d τ S=(d τ S).bind newL:=rfl
theorem kQ{as:ab}(h:as.length<=16777216):newL as S=.ok (.ref S.length) (S++[.lst as]):=pR<|by rw[d_];exact h
@[simp]def G5 {f:ab->jB->R A}{d:qu}:jZ f d τ S=(d τ S).bind f:=rfl
abbrev okR (r:R A):R A:=match r with
 | .ok a S=>.ok a S
 | _=>.no
@[simp]def Oq:okR (.ok a S)=.ok a S:=rfl
abbrev kFn (f:ab->jB->R A)(as:ab)(S:jB):R A:=okR<|f as S
@[simp]def NZ {f:ab->jB->R A}{as:ab}:kFn f as S=okR (f as S):=rfl
@[simp]def Nt {f:ab->jB->R A}{d:qu}:eFn f d τ S=(d τ S).bind (kFn f):=rfl
@[simp]def Wu {g:A->jB->R A}:f1 g [a] S=g a S:=rfl
@[simp]def WW {g:A->A->jB->R A}:f2 g [a,b] S=g a b S:=rfl
abbrev Zw (h:Pt)(τ:ab)(a:A)(l:Option Int)(S:jB):R A:=(h τ S).bind<|aSl a l
abbrev kSl (l h:Pt)(τ:ab)(a:A)(S:jB):R A:=(l τ S).bind<|Zw h τ a
@[simp]def LA {h:Pt}{l:Option Int}:Zw h τ a l S=(h τ S).bind (aSl a l):=rfl
@[simp]def RC {l h:Pt}:kSl l h τ a S=(l τ S).bind (Zw h τ a):=rfl
@[simp]def QC {c:Ex}{l h:Pt}:eSl c l h τ S=(c τ S).bind (kSl l h τ):=rfl
@[simp]def GX:abN τ S=.ok none S:=rfl
abbrev aPt (a:A)(S:jB):R (Option Int):=match a with
 | .int i=>.ok (some i) S
 | _=>.no
@[simp]def JU {i:Int}:aPt (.int i) S=.ok (some i) S:=rfl
@[simp]def Gy {c:Ex}:aaW c τ S=(c τ S).bind aPt:=rfl
abbrev YF (f:A->ab->jB->R A)(d:qu)(τ:ab)(o:A)(S:jB)(_:ab):R A:=(d τ S).bind<|f o
abbrev kMe (f:A->ab->jB->R A)(d:qu)(τ:ab)(o:A)(S:jB):R A:=opt (o.lst? S)<|YF f d τ o S
@[simp]def Ly {f:A->ab->jB->R A}{d:qu}{xs:ab}:YF f d τ a S xs=(d τ S).bind (f a):=rfl
@[simp]def RW {f:A->ab->jB->R A}{d:qu}:kMe f d τ a S=opt (a.lst? S) (YF f d τ a S):=rfl
@[simp]def NL {f:A->ab->jB->R A}{c:Ex}{d:qu}:CI f c d τ S=(c τ S).bind (kMe f d τ):=rfl
@[simp]def Ku {f:A->ab->jB->R A}{c:Ex}:ac9 f c τ S=(c τ S).bind λo S1=>opt (o.lst? S1) λ_=>f o [] S1:=rfl
@[simp]def lst?_ref {n:Nat}:A.lst? S (.ref n)=jA S n:=rfl
abbrev RS.seq (r:RS)(d:Sm):RS:=match r with
 | .nx τ S=>d τ S
 | r=>r
@[simp]def RS.Pu {d:Sm}:RS.seq (.nx τ S) d=d τ S:=rfl
@[simp]def RS.Q6 {d:Sm}:RS.seq (.rt a S) d=.rt a S:=rfl
@[simp]def RS.RK {d:Sm}{c:Str}:RS.seq (.ex c S) d=.ex c S:=rfl
@[simp]def RS.Qg {d:Sm}:RS.seq (.bk τ S) d=.bk τ S:=rfl
@[simp]def RS.Qz {d:Sm}:RS.seq (.ct τ S) d=.ct τ S:=rfl
@[simp]def Jo {c d:Sm}:jT c d τ S=RS.seq (c τ S) d:=by unfold jT RS.seq;cases c τ S<;>rfl
@[simp]def Jp:pO τ S=.nx τ S:=rfl
@[simp]def CF:Y0 τ S=.bk τ S:=rfl
@[simp]def Gb:abp τ S=.ct τ S:=rfl
@[simp]def F4 {e:Ex}:mC e τ S=RS.of (e τ S) λ_ S1=>.nx τ S1:=rfl
@[simp]def Jz {e:Ex}:lH e τ S=RS.of (e τ S) .rt:=rfl
@[simp]def FG:aaP τ S=.rt .non S:=rfl
abbrev kIf (c d:Sm)(τ:ab)(b:Bool)(S:jB):RS:=match b with|true=>c τ S|false=>d τ S
@[simp]def WJ {c d:Sm}:kIf c d τ true S=c τ S:=rfl
@[simp]def Wn {c d:Sm}:kIf c d τ false S=d τ S:=rfl
@[simp]def Ru {t:Te}{c d:Sm}:vg t c d τ S=RS.of (t τ S) (kIf c d τ):=rfl
abbrev aal (g:Tg)(τ:ab)(a:A)(S:jB):RS:=RS.of (g a τ S) .nx
@[simp]def LJ {g:Tg}:aal g τ a S=RS.of (g a τ S) .nx:=rfl
@[simp]def KD {e:Ex}{g:Tg}:j7 e g τ S=RS.of (e τ S) (aal g τ):=rfl
@[simp]def Zk {i:Nat}:jX i a τ S=.ok (τ.set i a) S:=rfl
abbrev Xq (a o:A)(τ:ab)(i:A)(S:jB):R (ab):=(Hs o i a S).bind λ_ S3=>.ok τ S3
abbrev kSb (J:Ex)(τ:ab)(a o:A)(S:jB):R (ab):=(J τ S).bind<|Xq a o τ
@[simp]def LV {o i:A}:Xq a o τ i S=(Hs o i a S).bind λ_ S3=>.ok τ S3:=rfl
@[simp]def PK {J:Ex}{o:A}:kSb J τ a o S=(J τ S).bind (Xq a o τ):=rfl
@[simp]def QJ {co J:Ex}:V6 co J a τ S=(co τ S).bind (kSb J τ a):=rfl
@[simp]def NJ {n:Nat}{gs:SN}{xs:ab}:x_ n gs (.tup xs) τ S=gd (xs.length=n) (gs xs τ S):=rfl
@[simp]def Qm:xZ [] τ S=.ok τ S:=rfl
@[simp]def OG {g:Tg}{gs:SN}{as:ab}:pM g gs (a::as) τ S=(g a τ S).bind (gs as):=rfl
abbrev sPr (i j:Nat)(τ:ab)(as:ab)(S:jB):RS:=match as with
 | [a,b]=>.nx ((τ.set i a).set j b) S
 | _=>.no
@[simp]def P7 {i j:Nat}:sPr i j τ [a,b] S=.nx ((τ.set i a).set j b) S:=rfl
@[simp]def JI {i j:Nat}{c:qu}:acW i j c τ S=RS.of (c τ S) (sPr i j τ):=rfl
abbrev OY (i:Nat)(τ:ab)(c:A)(S:jB):RS:=.nx (τ.set i c) S
abbrev aaw (i:Nat)(f:A->A->jB->R A)(τ:ab)(b:A)(S:jB):RS:=.of (f (τ.getD i .unb) b S)<|OY i τ
@[simp]def GP {i:Nat}:OY i τ a S=.nx (τ.set i a) S:=rfl
@[simp]def Lh {i:Nat}{f:A->A->jB->R A}:aaw i f τ a S=.of (f (τ.getD i .unb) a S) (OY i τ):=rfl
@[simp]def Jl {i:Nat}{f:A->A->jB->R A}{e:Ex}:aaK i f e τ S=bif (τ.getD i .unb).qL then .no else .of (e τ S) (aaw i f τ):=by
 unfold aaK;cases(τ.getD i .unb).qL<;>rfl
abbrev kS5 (o i:A)(τ:ab)(z:A)(S:jB):RS:=.of (Hs o i z S) λ_ c=>.nx τ c
abbrev kS4 (f:A->A->jB->R A)(o i x:A)(τ:ab)(y:A)(S:jB):RS:=.of (f x y S)<|kS5 o i τ
abbrev kS3 (J:Ex)(f:A->A->jB->R A)(o i:A)(τ:ab)(x:A)(S:jB):RS:=.of (J τ S)<|kS4 f o i x τ
abbrev kS2 (J:Ex)(f:A->A->jB->R A)(o:A)(τ:ab)(i:A)(S:jB):RS:=.of (Vu o i S)<|kS3 J f o i τ
abbrev kS1 (J U:Ex)(f:A->A->jB->R A)(τ:ab)(o:A)(S:jB):RS:=.of (J τ S)<|kS2 U f o τ
@[simp]def Rt {o i:A}:kS5 o i τ a S=.of (Hs o i a S) λ_ S6=>.nx τ S6:=rfl
@[simp]def Qj {f:A->A->jB->R A}{o i x:A}:kS4 f o i x τ a S=.of (f x a S) (kS5 o i τ):=rfl
@[simp]def RU {J:Ex}{f:A->A->jB->R A}{o i:A}:kS3 J f o i τ a S=.of (J τ S) (kS4 f o i a τ):=rfl
@[simp]def QN {J:Ex}{f:A->A->jB->R A}{o:A}:kS2 J f o τ a S=.of (Vu o a S) (kS3 J f o a τ):=rfl
@[simp]def N1 {J U:Ex}{f:A->A->jB->R A}:kS1 J U f τ a S=.of (J τ S) (kS2 U f a τ):=rfl
@[simp]def Gq {co J U:Ex}{f:A->A->jB->R A}:aaN co J U f τ S=RS.of (co τ S) (kS1 J U f τ):=rfl
abbrev RS.end (r:RS):R A:=match r with
 | .rt a d=>.ok a d
 | .nx _ d=>.ok .non d
 | .ex c d=>.ex c d
 | _=>.no
@[simp]def RS.RP:RS.end (.rt a S)=.ok a S:=rfl
@[simp]def RS.Ri:RS.end (.nx τ S)=.ok .non S:=rfl
@[simp]def RS.Qq {c:Str}:RS.end (.ex c S)=.ex c S:=rfl
theorem yF {N:am}{m:Sm}{as:ab}:kX N m as S=RS.end (m (as++List.replicate (N.length-as.length) .unb) S):=by
 unfold kX RS.end;cases m (as++List.replicate (N.length-as.length) .unb) S<;>rfl
@[simp]def R9 {i j:Int}:kZ (.int i) (.int j) S=.ok (.int<|i+j) S:=rfl
@[simp]def Pp {i j:Int}:aSub (.int i) (.int j) S=.ok (.int<|i-j) S:=rfl
@[simp]def O5 {i j:Int}:adu (.int i) (.int j) S=.ok (.int<|i+j) S:=rfl
theorem Gg{i j:Int}(h:-18446744073709551616<i)(h':i<18446744073709551616):wR (.int i) (.int j) S=.ok (.int<|i * j) S:=pR<|by unfold FP;simp;left;exact⟨by omega,by omega⟩
def mul_r{i j:Int}(h:-18446744073709551616<j)(h':j<18446744073709551616):wR (.int i) (.int j) S=.ok (.int<|i * j) S:=pR<|by unfold FP;simp;right;exact⟨(),()⟩
def Pa{i j:Int}(h:0<j)(h':j<1073741824):Kx (.int i) (.int j) S=.ok (.int<|i / j) S:=pR ⟨h,()⟩
def FJ{i j:Int}(h:0<j):DK (.int i) (.int j) S=.ok (.int<|i % j) S:=pR h
@[simp]def WD {i j:Int}:aLt (.int i) (.int j) S=.ok (.bl<|decide<|i<j) S:=rfl
@[simp]def WI {i j:Int}:aLe (.int i) (.int j) S=.ok (.bl<|decide<|i<=j) S:=rfl
@[simp]def V_ {i j:Int}:GB (.int i) (.int j) S=.ok (.bl<|decide<|j<i) S:=rfl
@[simp]def Wx {i j:Int}:aGe (.int i) (.int j) S=.ok (.bl<|decide<|j<=i) S:=rfl
@[simp]def WU {i j:Bool}:IW false (.bl i) (.bl j) S=.ok (.bl<|i == j) S:=rfl
@[simp]def QB {i j:Bool}:IW true (.bl i) (.bl j) S=.ok (.bl<|i != j) S:=rfl
@[simp]def N3 {i:Int}:Cu (.int i) S=.ok (.int<|-i) S:=rfl
@[simp]def Sl {xs:ab}:nL (.tup xs) S=.ok (.int xs.length) S:=rfl
@[simp]def NQ {xs:ab}:nL (.frz xs) S=.ok (.int xs.length) S:=rfl
@[simp]def Qu {n:Nat}:nL (.ref n) S=opt (jA S n) λxs=>.ok (.int xs.length) S:=rfl
@[simp]def Qi {i:Int}:ZO (.int i) S=.ok (.int<|if i<0 then -i else i) S:=rfl
@[simp]def L_ {i j:Int}:abJ (.int i) (.int j) S=.ok (.int<|if j>i then j else i) S:=rfl
@[simp]def Ji {i j:Int}:abc (.int i) (.int j) S=.ok (.int<|if j<i then j else i) S:=rfl
@[simp]def J1 {i:Int}:CM (.int i) S=.ok (.int i) S:=rfl
@[simp]def L8 {i:Bool}:CM (.bl i) S=.ok (.int<|if i then 1 else 0) S:=rfl
@[simp]def C9 {i j:Int}:D3 (.int i) (.int j) S=.ok (.rng i j) S:=rfl
@[simp]def Wg {xs:ab}{i:Int}:m_ (.tup xs) (.int i) S=opt (sN xs i) λx=>.ok x S:=rfl
@[simp]def W0 {xs:ab}{i:Int}:m_ (.frz xs) (.int i) S=opt (sN xs i) λx=>.ok x S:=rfl
@[simp]def Wt {n:Nat}{i:Int}:m_ (.ref n) (.int i) S=opt (jA S n) λxs=>opt (sN xs i) λx=>.ok x S:=rfl
@[simp]def Ou {n:Nat}{k:Int}:Hs (.ref n) (.int k) a S=opt (jA S n) λxs=>opt (DY xs.length k) λj=>.ok Unit.unit (S.set n<|.lst<|xs.set j a):=rfl
@[simp]def O9 {n:Nat}{i:Int}:Vu (.ref n) (.int i) S=opt (jA S n) λxs=>gd (0<=i) (opt (xs[i.toNat]?) λx=>.ok x S):=rfl
theorem Mz{i j:Int}(h:CT i j):xo (.rng i j) S=.ok (.ref S.length) (S++[.lst<|(lB i j).map .int]):=pR h
@[simp]def KZ {xs:ab}:xo (.tup xs) S=.ok (.ref S.length) (S++[.lst xs]):=rfl
@[simp]def LQ {xs:ab}:xo (.frz xs) S=.ok (.ref S.length) (S++[.lst xs]):=rfl
@[simp]def Jm {n:Nat}:xo (.ref n) S=opt (jA S n) λxs=>.ok (.ref S.length) (S++[.lst xs]):=rfl
@[simp]def FU {xs:ab}:zH (.tup xs) S=.ok (.tup xs) S:=rfl
@[simp]def G_ {n:Nat}:zH (.ref n) S=opt (jA S n) λxs=>.ok (.tup xs) S:=rfl
@[simp]def Pe {xs:ab}:abQ (.tup xs) S=.ok (.tup xs.reverse) S:=rfl
@[simp]def QW {n:Nat}:abQ (.ref n) S=opt (jA S n) λxs=>.ok (.ref S.length) (S++[.lst xs.reverse]):=rfl
@[simp]def We {n:Nat}{l u:Option Int}:aSl (.ref n) l u S=opt (jA S n) λxs=>.ok (.ref S.length) (S++[.lst<|Tj xs l u]):=rfl
@[simp]def AO {n:Nat}:lV (.ref n) [a] S=opt (jA S n) λxs=>gd (xs.length<sizeLine) (.ok .non<|S.set n<|.lst<|xs++[a]):=rfl
@[simp]def PU {b:Bool}:A.Z0 (.bl b) S=some b:=rfl
@[simp]def LH {i:Int}:A.Z0 (.int i) S=some (i != 0):=rfl
theorem D5{o:O}:(S++[o])[S.length]?=some o:=by simp
@[simp]def jQ {xs:ab}:jA (S++[.lst xs]) S.length=some xs:=rO D5
theorem ki{o:O}{n:Nat}(h:jA S n=some xs):jA (S++[o]) n=some xs:=by
 have h':=jP h;exact rO<|by rw[bu (aG.mp h').1];exact h'
def mw{n:Nat}(h:jA S n=some xs):n<S.length:=(aG.mp<|jP h).1
def pK{n:Nat}(h:n<S.length):jA (S.set n<|.lst ys) n=some ys:=rO<|bK h
def kM{n:Nat}(h:n≠m):jA (S.set n<|.lst ys) m=jA S m:=by unfold jA;rw[bG h]
def zF{xs:ab}{i:Int}{k:Nat}{x:A}(h:i=k)(J:xs[k]?=some x):sN xs i=some x:=by rw[h];exact VR J
def B0{n:Nat}{i:Int}{k:Nat}(h:i=k)(J:k<n):DY n i=some k:=by
 subst h;unfold DY;rw[aR (),aR ()];simp
end
structure Kp (b:Nat->Prop)(S S':jB):Prop where
 len:S.length<=S'.length
 obj:∀(n:Nat) (o:O),¬b n->S[n]?=some o->S'[n]?=some o
meta abbrev kO:=Kp λ_=>False
def Kp.lst{b:Nat->Prop}(h:Kp b S S')(n:Nat)(xs:ab)(hb:¬b n)(e:jA S n=some xs):jA S' n=some xs:=rO<|h.obj n _ hb<|jP e
def Kp.dct{b:Nat->Prop}(h:Kp b S S')(n:Nat)(xs:List<|ae×A)(hb:¬b n)(e:jV S n=some xs):jV S' n=some xs:=qZ<|h.obj n _ hb<|lN e
def Kp.refl{b:Nat->Prop}:Kp b S S:=⟨aP _,λ_ _ _ h=>h⟩
def Kp.trans{b:Nat->Prop}(h:Kp b S S1)(h':Kp b S1 S2):Kp b S S2:=⟨bI h.len h'.len,λn xs hb e=>h'.obj n xs hb<|h.obj n xs hb e⟩
def yY{S:jB}{n:Nat}(e:S[n]?=some o):n<S.length:=(aG.mp e).1
def Kp.lay{b:Nat->Prop}{o:O}(h:Kp b S S1):Kp b S (S1++[o]):=⟨bI h.len<|by simp,λn xs hb e=>by
 have:=h.obj n xs hb e;rw[bu<|yY this];exact this⟩
def Kp.tV{b:Nat->Prop}{S S1:jB}(h:Kp b S S1)(J:b m\/S.length<=m):Kp b S (S1.set m o):=⟨by rw[cz];exact h.len,λn xs hb e=>by
 have:m≠n:=λz=>by
  subst z
  rcases J with z|z
  ·exact hb z
  ·exact absurd (yY e) ()
 rw[bG this];exact h.obj n xs hb e⟩
def Kp.set{b:Nat->Prop}{S S1:jB}(h:Kp b S S1)(J:b m\/S.length<=m):Kp b S (S1.set m<|.lst ys):=h.tV J
def Kp.mono{b c:Nat->Prop}{S:jB}(h:Kp b S S1)(hb:∀n,n<S.length->b n->c n):Kp c S S1:=⟨h.len,λn xs hc e=>h.obj n xs (λz=>hc<|hb n (yY e) z) e⟩
def Kp.of0{b:Nat->Prop}(h:kO S S1):Kp b S S1:=h.mono λ_ _ z=>z.elim
def Kp.old{b c:Nat->Prop}{S:jB}(h:Kp b S S1)(h':Kp c S1 S2)(hc:∀n,n<S.length->¬b n->¬c n):Kp b S S2:=⟨bI h.len h'.len,λn xs hb e=>h'.obj n xs (hc n (yY e) hb)<|h.obj n xs hb e⟩
theorem zj{s:Src}{g:Tg}{c:Sm}(Inv:Nat->ab->jB->Prop)(J:RS->Prop)
  (step:∀i τ S,i<s.k->Inv i τ S->∃x τ1 S1,s.get i S=some x/\g x τ S=.ok τ1 S1/\((∃τ' S',c τ1 S1=.nx τ' S'/\Inv (i+1) τ' S')\/(∃a S',c τ1 S1=.rt a S'/\J (.rt a S'))))
  (fin:∀τ S,Inv s.k τ S->s.fin S=true/\J (.nx τ S)):∀k i τ S,k+i=s.k->Inv i τ S->J (r6 s g c k i τ S)
 | 0,i,τ,S,hk,hi=>by
  have:i=s.k:=()
  subst this;obtain⟨hf,q⟩:=fin τ S hi;unfold r6;rw[aR hf];exact q
 | k+1,i,τ,S,hk,hi=>by
  obtain⟨x,τ1,S1,f,hg,h⟩:=step i τ S () hi;unfold r6;rw[f];show J (RS.of (g x τ S) λτ1 S1=>match c τ1 S1 with
   | .nx τ' S'=>r6 s g c k (i+1) τ' S'
   | .ct τ' S'=>r6 s g c k (i+1) τ' S'
   | .bk τ' S'=>.nx τ' S'
   | r=>r)
  rw[hg];show J (match c τ1 S1 with
   | .nx τ' S'=>r6 s g c k (i+1) τ' S'
   | .ct τ' S'=>r6 s g c k (i+1) τ' S'
   | .bk τ' S'=>.nx τ' S'
   | r=>r)
  rcases h with⟨τ',S',e,d⟩|⟨a,S',e,q⟩
  ·rw[e];exact zj Inv J step fin k (i+1) τ' S' () d
  ·rw[e];exact q
def ED{lo hi:Int}{c:Sm}{src:Ic}{τ:ab}(hs:src τ S=.ok (oX lo hi) S1)(Inv:Nat->ab->jB->Prop)(J:RS->Prop)(h0:Inv 0 τ S1)
  (step:∀(i:Nat) τ S,(i:Int)<hi-lo->Inv i τ S->(∃τ' S',c (τ.set j<|.int<|lo+i) S=.nx τ' S'/\Inv (i+1) τ' S')\/(∃a S',c (τ.set j<|.int<|lo+i) S=.rt a S'/\J (.rt a S')))
  (fin:∀τ S,Inv (hi-lo).toNat τ S->J (.nx τ S)):J (ku src (jX j) c τ S):=by
 unfold ku;rw[hs];refine zj (s:=oX lo hi) Inv J (λi τ S d h=>?_) (λτ S h=>⟨rfl,fin τ S h⟩) _ 0 τ S1 rfl h0;have d:i<(hi-lo).toNat:=d;exact⟨.int<|lo+i,_,S,aR d,rfl,step i τ S (by omega) h⟩
def wN{xs:ab}{g:Tg}{c:Sm}{src:Ic}(hs:src τ S=.ok (o8 xs) S1)(Inv:Nat->ab->jB->Prop)(J:RS->Prop)(h0:Inv 0 τ S1)
  (step:∀(i:Nat) x τ S,xs[i]?=some x->Inv i τ S->∃τ1 S1,g x τ S=.ok τ1 S1/\((∃τ' S',c τ1 S1=.nx τ' S'/\Inv (i+1) τ' S')\/(∃a S',c τ1 S1=.rt a S'/\J (.rt a S'))))
  (fin:∀τ S,Inv xs.length τ S->J (.nx τ S)):J (ku src g c τ S):=by
 unfold ku;rw[hs];refine zj (s:=o8 xs) Inv J (λi τ S d h=>?_) (λτ S h=>⟨rfl,fin τ S h⟩) _ 0 τ S1 rfl h0;have d:i<xs.length:=d;obtain⟨τ1,S1,e,q⟩:=step i xs[i] τ S (aH d) h;exact⟨xs[i],τ1,S1,aH d,e,q⟩
def Zx{xs:ab}{g:Tg}{c:Sm}{src:Ic}(hs:src τ S=.ok (FO xs) S1)(Inv:Nat->ab->jB->Prop)(J:RS->Prop)(h0:Inv 0 τ S1)
  (step:∀(i:Nat) x τ S,xs[i]?=some x->Inv i τ S->∃τ1 S1,g (.tup [.int i,x]) τ S=.ok τ1 S1/\((∃τ' S',c τ1 S1=.nx τ' S'/\Inv (i+1) τ' S')\/(∃a S',c τ1 S1=.rt a S'/\J (.rt a S'))))
  (fin:∀τ S,Inv xs.length τ S->J (.nx τ S)):J (ku src g c τ S):=by
 unfold ku;rw[hs];refine zj (s:=FO xs) Inv J (λi τ S d h=>?_) (λτ S h=>⟨rfl,fin τ S h⟩) _ 0 τ S1 rfl h0;have d:i<xs.length:=d;obtain⟨τ1,S1,e,q⟩:=step i xs[i] τ S (aH d) h;exact⟨.tup [.int i,xs[i]],τ1,S1,by show(xs[i]?).map _=_;rw[aH d];rfl,e,q⟩
def qe{n:Nat}{xs:ab}{g:Tg}{c:Sm}{src:Ic}(hs:src τ S=.ok (lJ n xs.length) S1)(Inv:Nat->ab->jB->Prop)(J:RS->Prop)(h0:Inv 0 τ S1)(U:∀i τ S,Inv i τ S->jA S n=some xs)
  (step:∀(i:Nat) x τ S,xs[i]?=some x->Inv i τ S->∃τ1 S1,g x τ S=.ok τ1 S1/\((∃τ' S',c τ1 S1=.nx τ' S'/\Inv (i+1) τ' S')\/(∃a S',c τ1 S1=.rt a S'/\J (.rt a S'))))
  (fin:∀τ S,Inv xs.length τ S->J (.nx τ S)):J (ku src g c τ S):=by
 unfold ku;rw[hs];refine zj (s:=lJ n xs.length) Inv J (λi τ S d h=>?_) (λτ S h=>⟨?_,fin τ S h⟩) _ 0 τ S1 rfl h0
 ·have d:i<xs.length:=d;obtain⟨τ1,S1,e,q⟩:=step i xs[i] τ S (aH d) h;exact⟨xs[i],τ1,S1,by show(jA S n).bind _=_;rw[U i τ S h];exact aH d,e,q⟩
 ·show(match jA S n with
   | some ys=>decide (ys.length<=xs.length)
   | none=>false)=true
  rw[U _ τ S h];exact bg<|aP _
@[simp]def yJ {c:Ex}{τ:ab}{S S1:jB}{j:Int}(h:c τ S=.ok (.int j) S1)(hb:bnd j):t7 c τ S=.ok (oX 0 j) S1:=by
 unfold t7;rw[h];exact pR hb
def tM{c d:Ex}{i j:Int}(h:c τ S=.ok (.int i) S1)(h':d τ S1=.ok (.int j) S2)(hb:bnd i)(J:bnd j):nZ c d τ S=.ok (oX i j) S2:=by
 unfold nZ;rw[h];show(d τ S1).bind _=_;rw[h'];exact pR ⟨hb,J⟩
def Xb{c:Ex}(h:c τ S=.ok (.tup xs) S1):ly c τ S=.ok (o8 xs) S1:=by unfold ly;rw[h];rfl
def l_{c:Ex}{n:Nat}{xs:ab}(h:c τ S=.ok (.ref n) S1)(J:jA S1 n=some xs):ly c τ S=.ok (lJ n xs.length) S1:=by
 unfold ly;rw[h];show opt (jA S1 n) _=_;rw[J];rfl
def Yl{c:Ex}(h:c τ S=.ok (.tup xs) S1):VL c τ S=.ok (FO xs) S1:=by unfold VL;rw[h];rfl
theorem yE{s:Src}{g:Tg}{t:Te}{e:Ex}{P:jB->Prop}{T:ab->Prop}(it:Nat->A)(p:Nat->Bool)(f:Nat->A)
  (J:∀i S,i<s.k->P S->s.get i S=some (it i)) (U:∀S,P S->s.fin S=true)
  (step:∀i τ S,i<s.k->T τ->P S->∃τ1 S1 S2,g (it i) τ S=.ok τ1 S1/\t τ1 S1=.ok (p i) S2/\T τ1/\(p i=false->P S2)/\(p i=true->∃S3,e τ1 S2=.ok (f i) S3/\P S3)) :
  ∀k i τ S,k+i=s.k->T τ->P S->∃S',mR s g t e k i τ S=.ok (((List.range' i k).filter p).map f) S'/\P S'
 | 0,i,τ,S,hk,hT,hP=>⟨S,by unfold mR;rw[aR<|U S hP];rfl,hP⟩
 | k+1,i,τ,S,hk,hT,hP=>by
  obtain⟨τ1,S1,S2,hg,B,c,C,d⟩:=step i τ S (by omega) hT hP;unfold mR;rw[J i S (by omega) hP,jS,hg,R.kJ,B,R.kJ,ir,fZ]
  cases m:p i with
  | false=>
   obtain⟨S',h1,h2⟩:=yE it p f J U step k (i+1) τ1 S2 (by omega) c<|C m;exact⟨S',by simpa using h1,h2⟩
  | true=>
   obtain⟨S3,q,j⟩:=d m;obtain⟨S',h1,h2⟩:=yE it p f J U step k (i+1) τ1 S3 (by omega) c j;refine⟨S',?_,h2⟩
   skip
   rw[q,R.kJ,h1];rfl
def CA{s:Src}{src:Ic}{t:Te}{e:Ex}{S1:jB}(hs:src τ S=.ok s S1)(it:Nat->A)(p:Nat->Bool)(f:Nat->A)(J:∀i,i<s.k->s.get i S1=some (it i))(U:s.fin S1=true)
  (Z:∀i,i<s.k->t (it i::mj cap τ) S1=.ok (p i) S1) (he:∀i,i<s.k->p i=true->e (it i::mj cap τ) S1=.ok (f i) S1) (hl:s.k<=16777216) :
  j8 (none::cap) src (jX 0) t e τ S=.ok (.ref S1.length) (S1++[.lst<|((List.range s.k).filter p).map f]):=by
 unfold j8;rw[hs,R.nk];obtain⟨q,h1,h2⟩:=yE (s:=s) (g:=jX 0) (t:=t) (e:=e) (P:=λS=>S=S1) (T:=λc=>∃y,c=y::mj cap τ) it p f (λi S d h=>by subst h;exact J i d) (λS h=>by subst h;exact U)
  (λi c S d ⟨y,m⟩ h=>by
   subst h m;exact⟨it i::mj cap τ,S,S,rfl,Z i d,⟨_,rfl⟩,λ_=>rfl,λj=>⟨S,he i d j,rfl⟩⟩) s.k 0 (mj (none::cap) τ) S1 rfl ⟨_,rfl⟩ rfl
 subst h2;rw[h1,R.kJ,fR];refine kQ ?_;rw[aF];refine bI (cX _ _) ?_;rw[List.length_range'];exact hl
def p6{α β:Type}(xs:List α)(p:α->Bool)(f:α->β):∀(d:α) ,(((List.range xs.length).filter λi=>p<|xs.getD i d).map λi=>f<|xs.getD i d)=(xs.filter p).map f:=by
 intro d
 induction xs with
 | nil=>rfl
 | cons x xs g=>
  rw[bR,List.range_succ_eq_map,fZ,fZ];have e:((List.filter (λi=>p<|(x::xs).getD i d)<|List.map Nat.succ<|List.range xs.length).map λi=>f<|(x::xs).getD i d)=(xs.filter p).map f:=by
   rw[iH,bC];rw[<- g];rfl
  show List.map _ (if p x=true then _ else _)=List.map f (if p x=true then _ else _);by_cases c:p x=true
  ·rw[aR c,aR c,bF,bF,e];rfl
  ·rw[aN c,aN c,e]
def vn{lo hi:Int}{src:Ic}{t:Te}{e:Ex}{S1:jB}(hs:src τ S=.ok (oX lo hi) S1)(p:Int->Bool)(f:Int->A)
  (J:∀k,lo<=k->k<hi->t (.int k::mj cap τ) S1=.ok (p k) S1) (U:∀k,lo<=k->k<hi->p k=true->e (.int k::mj cap τ) S1=.ok (f k) S1) (Z:(hi-lo).toNat<=16777216) :
  j8 (none::cap) src (jX 0) t e τ S=.ok (.ref S1.length) (S1++[.lst<|((lB lo hi).filter p).map f]):=by
 rw[CA hs (λi=>.int<|lo+i) (λi=>p<|lo+i) (λi=>f<|lo+i) (λi c=>aR c) rfl (λi c=>J _ () (by have:i<(hi-lo).toNat:=c;lia)) (λi c=>U _ () (by have:i<(hi-lo).toNat:=c;lia)) Z];unfold lB;rw[iH,bC];rfl
@[simp]def Ov {cap:List<|bi}{τ:ab}:mj (none::cap) τ=.unb::mj cap τ:=rfl
@[simp]def Sa {cap:List<|bi}{τ:ab}{j:Nat}:mj (some j::cap) τ=τ.getD j .unb::mj cap τ:=rfl
@[simp]def Hj {τ:ab}:mj [] τ=[]:=rfl
theorem xg{x:A}:sN (x::xs) 0=some x:=zF (k:=0) rfl rfl
def KS{x:A}:sN (x::y::xs) 1=some y:=zF (k:=1) rfl rfl
def Dt{ns:ae}{i:Int}{k:Nat}{x:Int}(h:i=k)(J:ns[k]?=some x):sN (ns.map A.int) i=some (.int x):=zF h<|by rw[aK,J];rfl
def nU{j:Int}(h:-4611686018427387904<=j)(h':j<4611686018427387904):bnd j:=⟨(),()⟩
def Rj{i j:Int}(h1:-1000000<=i)(h2:i<=1000000)(h3:-1000000<=j)(J:j<=1000000)(U:j-i<=1000):CT i j:=⟨⟨(),(),(),()⟩,()⟩
theorem ints_map:∀(ns:ae),A.ints (ns.map .int)=some ns
 | []=>rfl
 | n::ns=>by show(A.ints<|ns.map .int).map (n::·)=_;rw[ints_map ns];rfl
theorem tU{n:Nat}:∀(xs ys:ae),pW (rQ S<|n+1) (xs.map .int) (ys.map .int)=some (decide<|xs=ys)
 | [],[]=>rfl
 | [],_::_=>rfl
 | _::_,[]=>rfl
 | x::xs,y::ys=>by
  skip
  skip
  show Option.map _ (pW (rQ S<|n+1) (xs.map .int)<|ys.map .int)=_;rw[tU xs ys]
  skip
  by_cases h1:x=y<;>by_cases h2:xs=ys<;>simp[h1,h2]
@[simp]def WO {S:jB}{x y:Bool}:s_ false (.bl x) (.bl y) S=.ok (.bl<|x == y) S:=rfl
@[simp]def WV {S:jB}{x y:Bool}:s_ true (.bl x) (.bl y) S=.ok (.bl<|!(x == y)) S:=rfl
@[simp]def WM {S:jB}{x y:Int}:s_ false (.int x) (.int y) S=.ok (.bl<|x == y) S:=rfl
@[simp]def W2 {S:jB}{x y:Int}:s_ true (.int x) (.int y) S=.ok (.bl<|!(x == y)) S:=rfl
@[simp]def Lx {S:jB}:IW false .non .non S=.ok (.bl true) S:=rfl
@[simp]def Jt {S:jB}{xs:ab}:IW false (.tup xs) .non S=.ok (.bl false) S:=rfl
@[simp]def KY {S:jB}{n:Nat}:IW false (.ref n) .non S=.ok (.bl false) S:=rfl
@[simp]def G2 {S:jB}:IW true .non .non S=.ok (.bl false) S:=rfl
@[simp]def Gu {S:jB}{xs:ab}:IW true (.tup xs) .non S=.ok (.bl true) S:=rfl
@[simp]def G1 {S:jB}{n:Nat}:IW true (.ref n) .non S=.ok (.bl true) S:=rfl
@[simp]def J4 {S:jB}{x:A}{c:String}:A5 x (.ty c) S=opt (x.kd S) λk=>opt (Me k c) λb=>.ok (.bl b) S:=rfl
@[simp]def WQ {S:jB}{b:Bool}:A.kd (.bl b) S=some .bl:=rfl
@[simp]def O6 {S:jB}{b:Int}:A.kd (.int b) S=some .int:=rfl
@[simp]def Qw {S:jB}{b:ab}:A.kd (.tup b) S=some .tup:=rfl
@[simp]def Pq {S:jB}:A.kd .non S=some .non:=rfl
@[simp]def PC {S:jB}{b:Str}:A.kd (.str b) S=some .str:=rfl
@[simp]def QD {S:jB}{n:Nat}:A.kd (.ref n) S=(jA S n).map λ_=>.lst:=rfl
@[simp]def Sf {S:jB}:newL [] S=.ok (.ref S.length) (S++[.lst []]):=kQ<|by simp
@[simp]def RA {S:jB}{x0:A}:newL [x0] S=.ok (.ref S.length) (S++[.lst [x0]]):=kQ<|by simp
@[simp]def OH {S:jB}{x0 x1:A}:newL [x0,x1] S=.ok (.ref S.length) (S++[.lst [x0,x1]]):=kQ<|by simp
@[simp]def QF {S:jB}{x0 x1 x2:A}:newL [x0,x1,x2] S=.ok (.ref S.length) (S++[.lst [x0,x1,x2]]):=kQ<|by simp
@[simp]def OZ {S:jB}{x0 x1 x2 x3:A}:newL [x0,x1,x2,x3] S=.ok (.ref S.length) (S++[.lst [x0,x1,x2,x3]]):=kQ<|by simp
@[simp]def Qp {S:jB}{x0 x1 x2 x3 x4:A}:newL [x0,x1,x2,x3,x4] S=.ok (.ref S.length) (S++[.lst [x0,x1,x2,x3,x4]]):=kQ<|by simp
@[simp]def QX {S:jB}{x0 x1 x2 x3 x4 x5:A}:newL [x0,x1,x2,x3,x4,x5] S=.ok (.ref S.length) (S++[.lst [x0,x1,x2,x3,x4,x5]]):=kQ<|by simp
@[simp]def O8 {S:jB}{x0 x1 x2 x3 x4 x5 x6:A}:newL [x0,x1,x2,x3,x4,x5,x6] S=.ok (.ref S.length) (S++[.lst [x0,x1,x2,x3,x4,x5,x6]]):=kQ<|by simp
@[simp]def Oj {S:jB}{x0 x1 x2 x3 x4 x5 x6 x7:A}:newL [x0,x1,x2,x3,x4,x5,x6,x7] S=.ok (.ref S.length) (S++[.lst [x0,x1,x2,x3,x4,x5,x6,x7]]):=kQ<|by simp
@[simp]def PL {S:jB}{x0 x1 x2 x3 x4 x5 x6 x7 x8:A}:newL [x0,x1,x2,x3,x4,x5,x6,x7,x8] S=.ok (.ref S.length) (S++[.lst [x0,x1,x2,x3,x4,x5,x6,x7,x8]]):=kQ<|by simp
@[simp]def KG {S:jB}{x0 x1 x2 x3 x4 x5 x6 x7 x8 x9:A}:newL [x0,x1,x2,x3,x4,x5,x6,x7,x8,x9] S=.ok (.ref S.length) (S++[.lst [x0,x1,x2,x3,x4,x5,x6,x7,x8,x9]]):=kQ<|by simp
theorem pJ{α:Type}{n:Nat}{r:R α}(h:n<=16777216):gd (n<=sizeLine) r=r:=pR<|by rw[d_];exact h
def mV{α:Type}{n:Nat}{r:R α}(h:n<16777216):gd (n<sizeLine) r=r:=pR<|by rw[d_];exact h
def Ws {x:A}{xs:ab}:(x::xs).getD 0 .unb=x:=rfl
def Wj {x:A}{xs:ab}{n:Nat}:(x::xs).getD (n+1) .unb=xs.getD n .unb:=rfl
def aav {x y:A}{xs:ab}:(x::xs).set 0 y=y::xs:=rfl
def sets {x y:A}{xs:ab}{n:Nat}:(x::xs).set (n+1) y=x::xs.set n y:=rfl
def rep0 {x:A}:List.replicate 0 x=[]:=rfl
def reps {x:A}{n:Nat}:List.replicate (n+1) x=x::List.replicate n x:=rfl
def aaU {x:A}{xs ys:ab}:(x::xs)++ys=x::(xs++ys):=rfl
def aaY {ys:ab}:[]++ys=ys:=rfl
def V1{S:jB}{n:Nat}{xs ys:ab}(h:jA S n=some xs)(h':jA S m=some ys)(J:xs.length+ys.length<=16777216):kZ (.ref n) (.ref m) S=.ok (.ref S.length) (S++[.lst<|xs++ys]):=by
 show opt (jA S n) _=_;rw[h,jS,h',jS];exact pR<|by rw[d_];exact J
abbrev uV (x:A)(S:jB):R A:=bif x.qL then .no else .ok x S
def Q5 {xs:ab}{S:jB}:uV (.tup xs) S=.ok (.tup xs) S:=rfl
def PX {xs:ab}{S:jB}:uV (.frz xs) S=.ok (.frz xs) S:=rfl
def Rc {i:Int}{S:jB}:uV (.int i) S=.ok (.int i) S:=rfl
def WB {b:Bool}{S:jB}:uV (.bl b) S=.ok (.bl b) S:=rfl
def NH {s:Str}{S:jB}:uV (.str s) S=.ok (.str s) S:=rfl
def Nx {n:Nat}{S:jB}:uV (.ref n) S=.ok (.ref n) S:=rfl
def OO  {S:jB}:uV (.non) S=.ok (.non) S:=rfl
def N6 {i j:Int}{S:jB}:uV (.rng i j) S=.ok (.rng i j) S:=rfl
def NB {s:Str}{S:jB}:uV (.exn s) S=.ok (.exn s) S:=rfl
def eV0 {x0:A}{xs:ab}{S:jB}:jx 0 (x0::xs) S=uV x0 S:=oh
def eV1 {x0 x1:A}{xs:ab}{S:jB}:jx 1 (x0::x1::xs) S=uV x1 S:=oh
def eV2 {x0 x1 x2:A}{xs:ab}{S:jB}:jx 2 (x0::x1::x2::xs) S=uV x2 S:=oh
def eV3 {x0 x1 x2 x3:A}{xs:ab}{S:jB}:jx 3 (x0::x1::x2::x3::xs) S=uV x3 S:=oh
def eV4 {x0 x1 x2 x3 x4:A}{xs:ab}{S:jB}:jx 4 (x0::x1::x2::x3::x4::xs) S=uV x4 S:=oh
def eV5 {x0 x1 x2 x3 x4 x5:A}{xs:ab}{S:jB}:jx 5 (x0::x1::x2::x3::x4::x5::xs) S=uV x5 S:=oh
def eV6 {x0 x1 x2 x3 x4 x5 x6:A}{xs:ab}{S:jB}:jx 6 (x0::x1::x2::x3::x4::x5::x6::xs) S=uV x6 S:=oh
def eV7 {x0 x1 x2 x3 x4 x5 x6 x7:A}{xs:ab}{S:jB}:jx 7 (x0::x1::x2::x3::x4::x5::x6::x7::xs) S=uV x7 S:=oh
def eV8 {x0 x1 x2 x3 x4 x5 x6 x7 x8:A}{xs:ab}{S:jB}:jx 8 (x0::x1::x2::x3::x4::x5::x6::x7::x8::xs) S=uV x8 S:=oh
def gN0 {a x0:A}{xs:ab}{S:jB}:jX 0 a (x0::xs) S=.ok (a::xs) S:=rfl
def gN1 {a x0 x1:A}{xs:ab}{S:jB}:jX 1 a (x0::x1::xs) S=.ok (x0::a::xs) S:=rfl
def gN2 {a x0 x1 x2:A}{xs:ab}{S:jB}:jX 2 a (x0::x1::x2::xs) S=.ok (x0::x1::a::xs) S:=rfl
def gN3 {a x0 x1 x2 x3:A}{xs:ab}{S:jB}:jX 3 a (x0::x1::x2::x3::xs) S=.ok (x0::x1::x2::a::xs) S:=rfl
def gN4 {a x0 x1 x2 x3 x4:A}{xs:ab}{S:jB}:jX 4 a (x0::x1::x2::x3::x4::xs) S=.ok (x0::x1::x2::x3::a::xs) S:=rfl
def gN5 {a x0 x1 x2 x3 x4 x5:A}{xs:ab}{S:jB}:jX 5 a (x0::x1::x2::x3::x4::x5::xs) S=.ok (x0::x1::x2::x3::x4::a::xs) S:=rfl
def gN6 {a x0 x1 x2 x3 x4 x5 x6:A}{xs:ab}{S:jB}:jX 6 a (x0::x1::x2::x3::x4::x5::x6::xs) S=.ok (x0::x1::x2::x3::x4::x5::a::xs) S:=rfl
def gN7 {a x0 x1 x2 x3 x4 x5 x6 x7:A}{xs:ab}{S:jB}:jX 7 a (x0::x1::x2::x3::x4::x5::x6::x7::xs) S=.ok (x0::x1::x2::x3::x4::x5::x6::a::xs) S:=rfl
def gN8 {a x0 x1 x2 x3 x4 x5 x6 x7 x8:A}{xs:ab}{S:jB}:jX 8 a (x0::x1::x2::x3::x4::x5::x6::x7::x8::xs) S=.ok (x0::x1::x2::x3::x4::x5::x6::x7::a::xs) S:=rfl
def jW:type_of% (anI @R.nk<|anI @R.Mb<|anI @R.kJ<|anI @RS.of_ok<|anI @RS.Wv<|anI @jS<|anI @JX<|anI @eV0<|anI @eV1<|anI @eV2<|anI @eV3<|anI @eV4<|anI @eV5<|anI @eV6<|anI @eV7<|anI @eV8<|anI @Q5<|anI @PX<|anI @Rc<|anI @WB<|anI @NH<|anI @Nx<|anI @OO<|anI @N6<|anI @NB<|anI @JM<|anI @LZ<|anI @J7<|anI @PJ<|anI @J2<|anI @Ka<|anI @J_<|anI @JK<|anI @JO<|anI @Wz<|anI @LI<|anI @OP<|anI @JT<|anI @WE<|anI @Rx<|anI @Lr<|anI @JH<|anI @Sk<|anI @JF<|anI @LY<|anI @Ky<|anI @Qv<|anI @Pd<|anI @LW<|anI @Sj<|anI @Ga<|anI @KI<|anI @Om<|anI @Jr<|anI @Gk<|anI @Ma<|anI @Lm<|anI @G5<|anI @Oq<|anI @Nt<|anI @Wu<|anI @WW<|anI @QC<|anI @GX<|anI @JU<|anI @Gy<|anI @NL<|anI @Ku<|anI @lst?_ref<|anI @RS.Pu<|anI @RS.Q6<|anI @RS.RK<|anI @RS.Qg<|anI @RS.Qz<|anI @Jo<|anI @Jp<|anI @CF<|anI @Gb<|anI @F4<|anI @Jz<|anI @FG<|anI @Ru<|anI @KD<|anI @gN0<|anI @gN1<|anI @gN2<|anI @gN3<|anI @gN4<|anI @gN5<|anI @gN6<|anI @gN7<|anI @gN8<|anI @QJ<|anI @NJ<|anI @Qm<|anI @OG<|anI @P7<|anI @JI<|anI @Jl<|anI @Gq<|anI @RS.RP<|anI @RS.Ri<|anI @RS.Qq<|anI @R9<|anI @Pp<|anI @O5<|anI @WD<|anI @WI<|anI @V_<|anI @Wx<|anI @WU<|anI @QB<|anI @N3<|anI @Sl<|anI @NQ<|anI @Qu<|anI @Qi<|anI @L_<|anI @Ji<|anI @J1<|anI @L8<|anI @C9<|anI @Wg<|anI @W0<|anI @Wt<|anI @Ou<|anI @O9<|anI @KZ<|anI @LQ<|anI @Jm<|anI @FU<|anI @G_<|anI @Pe<|anI @QW<|anI @We<|anI @AO<|anI @PU<|anI @LH<|anI @jQ<|anI @Ov<|anI @Sa<|anI @Hj<|anI @WO<|anI @WV<|anI @WM<|anI @W2<|anI @Lx<|anI @Jt<|anI @KY<|anI @G2<|anI @Gu<|anI @G1<|anI @J4<|anI @WQ<|anI @O6<|anI @Qw<|anI @Pq<|anI @PC<|anI @QD<|anI @Sf<|anI @RA<|anI @OH<|anI @QF<|anI @OZ<|anI @Qp<|anI @QX<|anI @O8<|anI @Oj<|anI @PL<|anI @KG<|anI @Ws<|anI @Wj<|anI @aav<|anI @sets<|anI @rep0<|anI @reps<|anI @aaU<|anI @aaY<|anI @yF<|anI @Kv<|anI @Qf<|anI @Ot<|anI @Wf<|anI @WA<|anI @P6<|anI @OX<|anI @Di<|anI @Gn<|anI @NZ<|anI @LA<|anI @RC<|anI @Ly<|anI @RW<|anI @WJ<|anI @Wn<|anI @LJ<|anI @LV<|anI @PK<|anI @GP<|anI @Lh<|anI @N1<|anI @QN<|anI @RU<|anI @Qj<|@Rt):=anI @R.nk<|anI @R.Mb<|anI @R.kJ<|anI @RS.of_ok<|anI @RS.Wv<|anI @jS<|anI @JX<|anI @eV0<|anI @eV1<|anI @eV2<|anI @eV3<|anI @eV4<|anI @eV5<|anI @eV6<|anI @eV7<|anI @eV8<|anI @Q5<|anI @PX<|anI @Rc<|anI @WB<|anI @NH<|anI @Nx<|anI @OO<|anI @N6<|anI @NB<|anI @JM<|anI @LZ<|anI @J7<|anI @PJ<|anI @J2<|anI @Ka<|anI @J_<|anI @JK<|anI @JO<|anI @Wz<|anI @LI<|anI @OP<|anI @JT<|anI @WE<|anI @Rx<|anI @Lr<|anI @JH<|anI @Sk<|anI @JF<|anI @LY<|anI @Ky<|anI @Qv<|anI @Pd<|anI @LW<|anI @Sj<|anI @Ga<|anI @KI<|anI @Om<|anI @Jr<|anI @Gk<|anI @Ma<|anI @Lm<|anI @G5<|anI @Oq<|anI @Nt<|anI @Wu<|anI @WW<|anI @QC<|anI @GX<|anI @JU<|anI @Gy<|anI @NL<|anI @Ku<|anI @lst?_ref<|anI @RS.Pu<|anI @RS.Q6<|anI @RS.RK<|anI @RS.Qg<|anI @RS.Qz<|anI @Jo<|anI @Jp<|anI @CF<|anI @Gb<|anI @F4<|anI @Jz<|anI @FG<|anI @Ru<|anI @KD<|anI @gN0<|anI @gN1<|anI @gN2<|anI @gN3<|anI @gN4<|anI @gN5<|anI @gN6<|anI @gN7<|anI @gN8<|anI @QJ<|anI @NJ<|anI @Qm<|anI @OG<|anI @P7<|anI @JI<|anI @Jl<|anI @Gq<|anI @RS.RP<|anI @RS.Ri<|anI @RS.Qq<|anI @R9<|anI @Pp<|anI @O5<|anI @WD<|anI @WI<|anI @V_<|anI @Wx<|anI @WU<|anI @QB<|anI @N3<|anI @Sl<|anI @NQ<|anI @Qu<|anI @Qi<|anI @L_<|anI @Ji<|anI @J1<|anI @L8<|anI @C9<|anI @Wg<|anI @W0<|anI @Wt<|anI @Ou<|anI @O9<|anI @KZ<|anI @LQ<|anI @Jm<|anI @FU<|anI @G_<|anI @Pe<|anI @QW<|anI @We<|anI @AO<|anI @PU<|anI @LH<|anI @jQ<|anI @Ov<|anI @Sa<|anI @Hj<|anI @WO<|anI @WV<|anI @WM<|anI @W2<|anI @Lx<|anI @Jt<|anI @KY<|anI @G2<|anI @Gu<|anI @G1<|anI @J4<|anI @WQ<|anI @O6<|anI @Qw<|anI @Pq<|anI @PC<|anI @QD<|anI @Sf<|anI @RA<|anI @OH<|anI @QF<|anI @OZ<|anI @Qp<|anI @QX<|anI @O8<|anI @Oj<|anI @PL<|anI @KG<|anI @Ws<|anI @Wj<|anI @aav<|anI @sets<|anI @rep0<|anI @reps<|anI @aaU<|anI @aaY<|anI @yF<|anI @Kv<|anI @Qf<|anI @Ot<|anI @Wf<|anI @WA<|anI @P6<|anI @OX<|anI @Di<|anI @Gn<|anI @NZ<|anI @LA<|anI @RC<|anI @Ly<|anI @RW<|anI @WJ<|anI @Wn<|anI @LJ<|anI @LV<|anI @PK<|anI @GP<|anI @Lh<|anI @N1<|anI @QN<|anI @RU<|anI @Qj<|@Rt
def bools:(∀b:Bool,cond false b b=b)/\(∀(α:Type) (x y:α),cond false x y=y)/\(∀(α:Type) (x y:α),cond true x y=x):=⟨λ_=>rfl,λ_ _ _=>rfl,λ_ _ _=>rfl⟩
def lX:(∀(x:Str) (xs:am),(x::xs).length=xs.length+1)/\([]:am).length=0/\(∀(x:A) (xs:ab),(x::xs).length=xs.length+1)/\([]:ab).length=0:=⟨λ_ _=>rfl,rfl,λ_ _=>rfl,rfl⟩
section
variable {τ:ab}{S:jB}
def Jh {f:ab->jB->R A}{d:qu}:ac7 f d τ S=(d τ S).bind f:=rfl
abbrev kRz (c:Str):Unit->jB->RS:=λ_ S1=>.ex c S1
def RY {c:Str}{u:Unit}:kRz c u S=.ex c S:=rfl
def Dk {c:Str}{ps:List<|Str ⊕ Ex}:YA c ps τ S=RS.of (TZ ps τ S) (kRz c):=rfl
def LF:TZ [] τ S=.ok Unit.unit S:=rfl
def KW {x:Str}{ps:List<|Str ⊕ Ex}:TZ (.inl x::ps) τ S=TZ ps τ S:=rfl
abbrev kFs (ps:List<|Str ⊕ Ex)(τ:ab):A->jB->R Unit:=λv S1=>match v with
 | .int i=>gd (i.natAbs.log2<64) (TZ ps τ S1)
 | _=>.no
def KA {e:Ex}{ps:List<|Str ⊕ Ex}:TZ (.inr e::ps) τ S=(e τ S).bind (kFs ps τ):=rfl
abbrev RS.try (i n:Nat)(cs:am)(d:Sm):RS->RS
 | .ex x S1=>if x∈cs then Wk i (d ((List.replicate n .unb).set i<|.exn x) S1)else .no
 | r=>r
def KO {i n:Nat}{cs:am}{c d:Sm}:acf i n cs c d τ S=RS.try i n cs d (c τ S):=by
 unfold acf RS.try;cases c τ S<;>rfl
def NT {i n:Nat}{cs:am}{d:Sm}:RS.try i n cs d (.nx τ S)=.nx τ S:=rfl
def QE {i n:Nat}{cs:am}{d:Sm}{a:A}:RS.try i n cs d (.rt a S)=.rt a S:=rfl
def Px {i n:Nat}{x:Str}{cs:am}{d:Sm}:RS.try i n (x::cs) d (.ex x S)=Wk i (d ((List.replicate n .unb).set i<|.exn x) S):=aR<|.head _
def NF {i:Nat}{a:A}:Wk i (.rt a S)=.rt a S:=rfl
def QT {i:Nat}:Wk i (.nx τ S)=.nx (τ.set i .unb) S:=rfl
abbrev ach (f:Str->bd):A->jB->R A:=λv S1=>match v with
 | .exn x=>opt (f x) λb=>.ok (.bl b) S1
 | _=>.no
def LO {f:Str->bd}{c:Ex}:ady f c τ S=(c τ S).bind (ach f):=rfl
def NN {x:Str}{b:Bool}{tb:List<|Str×Bool}:ach (tbX ((x,b)::tb)) (.exn x) S=.ok (.bl b) S:=by
 show opt (List.lookup x ((x,b)::tb)) _=_;rw[eg,cV];rfl
abbrev R.Rg {α β:Type}(r:R α)(f:α->jB->R β):R β:=match r with
 | .ok a S=>f a S
 | _=>.no
def Hr {α β:Type}{a:α}{f:α->jB->R β}:R.Rg (.ok a S) f=f a S:=rfl
def JD {f:ab->jB->R A}{d:qu}:abl f d τ S=R.Rg (d τ S) f:=by unfold abl R.Rg;cases d τ S<;>rfl
abbrev RS.ofK {α:Type}(r:R α)(f:α->jB->RS):RS:=match r with
 | .ok a S=>f a S
 | _=>.no
def PO {α:Type}{a:α}{f:α->jB->RS}:RS.ofK (.ok a S) f=f a S:=rfl
def Lb {t:Te}{c d:Sm}:aaS t c d τ S=RS.ofK (t τ S) (kIf c d τ):=by
 unfold aaS RS.ofK
 cases t τ S with
 | ok b S1=>cases b<;>rfl
 | ex _ _=>rfl
 | no=>rfl
abbrev RS.QU (i:Nat)(cs:am)(d:Sm)(τ:ab):RS->RS
 | .ex x S1=>if x∈cs then Wk i (d (τ.set i<|.exn x) S1)else .no
 | r=>r
def GY {i:Nat}{cs:am}{c d:Sm}:V9 i cs c d τ S=RS.QU i cs d τ (c τ S):=by
 unfold V9 RS.QU;cases c τ S<;>rfl
def Kr {i:Nat}{cs:am}{d:Sm}{J:ab}:RS.QU i cs d τ (.nx J S)=.nx J S:=rfl
def Jw {i:Nat}{cs:am}{d:Sm}{a:A}:RS.QU i cs d τ (.rt a S)=.rt a S:=rfl
def L4 {i:Nat}{x:Str}{cs:am}{d:Sm}:RS.QU i (x::cs) d τ (.ex x S)=Wk i (d (τ.set i<|.exn x) S):=aR<|.head _
def F0:A.Nr []=some []:=rfl
def CC {b:Bool}{xs:ab}:A.Nr (.bl b::xs)=(A.Nr xs).map (b::·):=rfl
end
def lA:type_of% (anI @Jh<|anI @Dk<|anI @RY<|anI @LF<|anI @KW<|anI @KA<|anI @KO<|anI @NT<|anI @QE<|anI @Px<|anI @NF<|anI @QT<|anI @LO<|anI @NN<|anI @F0<|anI @CC<|anI @Hr<|anI @JD<|anI @PO<|anI @Lb<|anI @GY<|anI @Kr<|anI @Jw<|anI @L4<|trivial):=anI @Jh<|anI @Dk<|anI @RY<|anI @LF<|anI @KW<|anI @KA<|anI @KO<|anI @NT<|anI @QE<|anI @Px<|anI @NF<|anI @QT<|anI @LO<|anI @NN<|anI @F0<|anI @CC<|anI @Hr<|anI @JD<|anI @PO<|anI @Lb<|anI @GY<|anI @Kr<|anI @Jw<|anI @L4<|trivial
end Am
namespace Am
open PySem PySem.Spec PyProof.Rows L2
abbrev Df (K:au)(x:Str)(st:aE):Prop:=∃(f:ak) (fd:FuncData),PySem.W.nsIn K mainGlobals x=some (some<|.ref f)/\Fun K x x st f fd
inductive En (P:aj) (w:ah) (K:au) (mg:Str->bb) (base:aq):Prop
 | mk (h:aq) (X:K.In h) (G:h.Ns mainGlobals mg)
section
variable {P:aj}{w:ah}{K:au}{mg:Str->bb}{base:aq}{x:Str}{st:aE}{ps:am}{k:Nat}{F:ab->jB->R A}
def En.at(E:En P w K mg base){f:ak}(h:PySem.W.nsIn K mainGlobals x=some (some<|.ref f)):mg x=some (.ref f):=by
 obtain⟨_,X,G⟩:=E;exact PySem.W.mg_of X G h
def Df.of{f:ak}{kV J ct:af}(a:PySem.W.nsIn K mainGlobals x=some (some<|.ref f))(l:K.lookup f=some ⟨oc,od,.func<|PySem.W.fnOf x x (wI st) (su st) (jN st) .none kV doc J an cdv ct,osl⟩)(c:PySem.W.codeIn K cdv x=true)(k:PySem.W.keepIn K (.ref f)=true):Df K x st:=⟨f,_,a,W6 l c k⟩
meta abbrev Bi (x:Str)(st:aE)(ps:am):Prop:=∀us:ar,us.length=ps.length->∀(kV d g:af) (f:Option ak) (c ct:af),bindArgs (PySem.W.fnOf x x (wI st) (su st) (jN st) .none kV d g f c ct) ⟨us,[]⟩=pure (ps.zip us)
def Df.get(d:Df K x st)(E:En P w K mg base)(b:Bi x st ps):∃f fd,Fun K x x st f fd/\mg x=some (.ref f)/\PySem.W.keepIn K (.ref f)=true/\Binds K fd ps []:=by
 obtain⟨f,fd,a,F⟩:=d;exact⟨f,fd,F,E.at a,F.kp,F.binds λkV c m k g ct us j=>b us j kV c m k g ct⟩
def Df.kA(d:Df K x st)(E:En P w K mg base)(h:∀{f fd},Fun K x x st f fd->FnOk P w K mg base qj k f fd ps (qK K ps.length F))(b:Bi x st ps):nV P w K mg base k x ps F:=by
 obtain⟨f,fd,a,c,e,g⟩:=d.get E b;exact⟨f,fd,h a,c,e,g⟩
def Df.rA(d:Df K x st)(E:En P w K mg base)(h:∀{f fd},Fun K x x st f fd->mg x=some (.ref f)->PySem.W.keepIn K (.ref f)=true->Binds K fd ps []->FnOk P w K mg base qj k f fd ps (qK K ps.length F))(b:Bi x st ps):nV P w K mg base k x ps F:=by
 obtain⟨f,fd,a,c,e,g⟩:=d.get E b;exact⟨f,fd,h a c e g,c,e,g⟩
end
section
variable {X:Cx}{pos p:Pos}{e1 e2 e3 e4:aC}{x p1 p2 p3 p4:Str}{k K0:Nat}{F:ab->jB->R A}{c1 c2 c3 c4:Ex}
def Ci(G:nV X.prog X.w X.K X.mg X.base k x [p1] F)(Z:Room K0 X.A)(h1:AE X e1 c1)(hk:k<=K0<|>δ)(hg:Gl X x<|>ε)(J:(x == ("__debug__" : Str))=false<|>δ)(U:starEach [e1] X.env=(false,eval e1 X.env)::starEach [] X.env<|>ε)(hp:((backTo pos<|starEach [] X.env).any (·.1)=false)<|>ε):AE X (.Call (.Name x p) [e1] [] pos) (eFn F<|jy c1 jG):=nv G (Z.mono hk) (jz h1 jD U) (jM kC) hg J U hp
def Hw(G:nV X.prog X.w X.K X.mg X.base k x [p1,p2] F)(Z:Room K0 X.A)(h1:AE X e1 c1)(h2:AE X e2 c2)(hk:k<=K0<|>δ)(hg:Gl X x<|>ε)(J:(x == ("__debug__" : Str))=false<|>δ)(U:starEach [e1,e2] X.env=(false,eval e1 X.env)::starEach [e2] X.env<|>ε)(s2:starEach [e2] X.env=(false,eval e2 X.env)::starEach [] X.env<|>ε)(hp:((backTo pos<|starEach [e2] X.env).any (·.1)=false)<|>ε):AE X (.Call (.Name x p) [e1,e2] [] pos) (eFn F<|jy c1<|jy c2 jG):=nv G (Z.mono hk) (jz h1 (jz h2 jD s2) U) (jM<|jM kC) hg J U hp
def fn3(G:nV X.prog X.w X.K X.mg X.base k x [p1,p2,p3] F)(Z:Room K0 X.A)(h1:AE X e1 c1)(h2:AE X e2 c2)(h3:AE X e3 c3)(hk:k<=K0<|>δ)(hg:Gl X x<|>ε)(J:(x == ("__debug__" : Str))=false<|>δ)(U:starEach [e1,e2,e3] X.env=(false,eval e1 X.env)::starEach [e2,e3] X.env<|>ε)(s2:starEach [e2,e3] X.env=(false,eval e2 X.env)::starEach [e3] X.env<|>ε)(s3:starEach [e3] X.env=(false,eval e3 X.env)::starEach [] X.env<|>ε)(hp:((backTo pos<|starEach [e2,e3] X.env).any (·.1)=false)<|>ε):AE X (.Call (.Name x p) [e1,e2,e3] [] pos) (eFn F<|jy c1<|jy c2<|jy c3 jG):=nv G (Z.mono hk) (jz h1 (jz h2 (jz h3 jD s3) s2) U) (jM<|jM<|jM kC) hg J U hp
def fn4(G:nV X.prog X.w X.K X.mg X.base k x [p1,p2,p3,p4] F)(Z:Room K0 X.A)(h1:AE X e1 c1)(h2:AE X e2 c2)(h3:AE X e3 c3)(h4:AE X e4 c4)(hk:k<=K0<|>δ)(hg:Gl X x<|>ε)(J:(x == ("__debug__" : Str))=false<|>δ)(U:starEach [e1,e2,e3,e4] X.env=(false,eval e1 X.env)::starEach [e2,e3,e4] X.env<|>ε)(s2:starEach [e2,e3,e4] X.env=(false,eval e2 X.env)::starEach [e3,e4] X.env<|>ε)(s3:starEach [e3,e4] X.env=(false,eval e3 X.env)::starEach [e4] X.env<|>ε)(s4:starEach [e4] X.env=(false,eval e4 X.env)::starEach [] X.env<|>ε)(hp:((backTo pos<|starEach [e2,e3,e4] X.env).any (·.1)=false)<|>ε):AE X (.Call (.Name x p) [e1,e2,e3,e4] [] pos) (eFn F<|jy c1<|jy c2<|jy c3<|jy c4 jG):=nv G (Z.mono hk) (jz h1 (jz h2 (jz h3 (jz h4 jD s4) s3) s2) U) (jM<|jM<|jM<|jM kC) hg J U hp
def t_{N P:am}{J:Scope}(a:J.kind=.function)(b:J.isCoroutine=false)(c:J.isGenerator=false)(h:N.Nodup/\N.take P.length=P/\(∀x∈P,J.names.lookup x=some .local\/J.names.lookup x=some .cell)/\∀y∈J.names,y.2≠.free):FnScope N P J:=⟨a,b,c,h.1,h.2.1,h.2.2.1,h.2.2.2⟩
end
abbrev kc (S:jB)(n:Nat):Option (List<|Int×A):=match S[n]? with
 | some (.nQ xs)=>some xs
 | _=>none
def mD{n:Nat}(h:kc S n=some xs):S[n]?=some (.nQ xs):=by
 unfold kc at h;split at h
 ·rename_i e;cases h;exact e
 ·cases h
def rY{S:jB}{n:Nat}(h:S[n]?=some (.nQ xs)):kc S n=some xs:=by
 unfold kc;rw[h]
abbrev lD (kvs:List<|Int×A)(k:Int):Option A:=(kvs.find? λkv=>decide<|kv.1=k).map (·.2)
abbrev sO (kvs:List<|Int×A)(k:Int)(v:A):List (Int×A):=
 if (lD kvs k).isSome=true then kvs.map (λkv=>if kv.1=k then(kv.1,v)else kv)else kvs++[(k,v)]
section
variable {K:au}{ρ:ba}{H:Hp}
def M8{p:Int×A}{r:List<|Int×A}{k:Int}(e:p.1=k):lD (p::r) k=some p.2:=by simp[lD,b5,e]
def Nq{p:Int×A}{r:List<|Int×A}{k:Int}(e:¬p.1=k):lD (p::r) k=lD r k:=by simp[lD,b5,e]
def ab9{a b:Int}(e:(Sum.inl a:Key)=Sum.inl b):a=b:=by injection e
theorem DI.look:∀{kvs:List<|Int×A}{ks:List<|Key×V}(k:Int),DI K ρ H kvs ks->(lD kvs k).isSome=(pU ks (Sum.inl k:Key)).isSome/\∀x,lD kvs k=some x->∃v,pU ks (Sum.inl k:Key)=some v/\AV K ρ H x v
 | [],[],k,_=>⟨rfl,λx h=>nomatch h⟩
 | p::r,q::r',k,⟨⟨e,a⟩,t⟩=>by
  by_cases c:p.1=k
  ·have d:q.1=(Sum.inl k:Key):=by rw[e,c]
   rw[M8 c,vP d];exact⟨rfl,λx h=>by cases h;exact⟨_,rfl,a⟩⟩
  ·have d:¬q.1=(Sum.inl k:Key):=λz=>c<|ab9<|e.symm.trans z;rw[Nq c,vN d];exact DI.look k t
theorem DI.repl{x:A}{v:V}(h:AV K ρ H x v)(k:Int):∀{kvs:List<|Int×A}{ks:List<|Key×V},DI K ρ H kvs ks->DI K ρ H (kvs.map λkv=>if kv.1=k then(kv.1,x)else kv) (ks.map λkv=>if kv.1=(Sum.inl k:Key)then(kv.1,v)else kv)
 | [],[],_=>trivial
 | p::r,q::r',⟨⟨e,a⟩,t⟩=>by
  refine⟨?_,DI.repl h k t⟩;dsimp only;by_cases c:p.1=k
  ·rw[aR c,aR<|by rw[e,c]];exact⟨e,h⟩
  ·rw[aN c,aN λz=>c<|ab9<|e.symm.trans z];exact⟨e,a⟩
theorem DI.snoc{x:A}{v:V}(h:AV K ρ H x v)(k:Int):∀{kvs:List<|Int×A}{ks:List<|Key×V},DI K ρ H kvs ks->DI K ρ H (kvs++[(k,x)]) (ks++[(Sum.inl k,v)])
 | [],[],_=>⟨⟨rfl,h⟩,trivial⟩
 | p::r,q::r',⟨a,t⟩=>⟨a,DI.snoc h k t⟩
def DI.put{x:A}{v:V}(h:AV K ρ H x v)(k:Int){ks:List<|Key×V}(d:DI K ρ H kvs ks):DI K ρ H (sO kvs k x) (putK ks (Sum.inl k:Key) v):=by
 unfold sO putK;rw[yr,<- (d.look k).1];by_cases c:(lD kvs k).isSome=true
 ·rw[aR c,aR c];exact DI.repl h k d
 ·rw[aN c,aN c];exact DI.snoc h k d
def DI.length:∀{kvs:List<|Int×A}{ks:List<|Key×V},DI K ρ H kvs ks->kvs.length=ks.length
 | [],[],_=>rfl
 | _::_,_::_,⟨_,t⟩=>cH (·+1) t.length
theorem DI.keys:∀{kvs:List<|Int×A}{ks:List<|Key×V},DI K ρ H kvs ks->ks.map (·.1)=kvs.map λkv=>(Sum.inl kv.1:Key)
 | [],[],_=>rfl
 | _::_,_::_,⟨⟨e,_⟩,t⟩=>by rw[bF,bF,e,DI.keys t]
def Rel.nQ{n:Nat}{a:ak}(R:Rel K ρ H S)(ha:ρ[n]?=some a)(hS:S[n]?=some (.nQ xs)):∃vs,H a=some (.dK vs)/\DI K ρ H xs vs:=R.at n a _ ha hS
def Rel.aa3{S:jB}{p:ak}(R:Rel K ρ H S)(J:H p=none)(r:DI K ρ H xs vs):Ext ρ (ρ++[p]) H (upd H p<|.dK vs)/\Rel K (ρ++[p]) (upd H p<|.dK vs) (S++[.nQ xs])/\(ρ++[p])[S.length]?=some p:=by
 have ex:Ext ρ (ρ++[p]) H (upd H p<|.dK vs):=⟨⟨dO _ _,λa u _ h=>by rw[jK<|jR h J];exact h⟩,λa u h _=>by rw[jK<|jR h J];exact h,λa h=>by
  rcases bJ.mp h with z|z
  ·exact .inl z
  ·have e:a=p:=by simpa using z
   rw[e];exact .inr J⟩
 have g:p∉ρ:=R.CY J;have c:(ρ++[p])[S.length]?=some p:=by rw[<- R.len];simp
 refine⟨ex,⟨by simp[R.len],?_,?_⟩,c⟩
 ·rw[bN];cb_eq;have:b=p:=by simpa using hb
  exact g<|by rw[<- this,<- e];exact ha
 ·intro n a o h1 h2;by_cases hn:n<S.length
  ·rw[bu<|by rw[R.len];exact hn]at h1;rw[bu hn]at h2;have na:a≠p:=λz=>g (by rw[<- z];exact aY h1);have:=R.at n a o h1 h2
   cases o with
   | lst ys=>obtain⟨d,e,q⟩:=this;exact⟨d,by rw[jK na];exact e,q.ext ex⟩
   | dct _|nQ _|dks _|vQ _=>obtain⟨d,e,q⟩:=this;exact⟨d,by rw[jK na];exact e,q.ext ex⟩
   | dcf _|dkf _=>obtain⟨f,d,e,q⟩:=this;exact⟨f,d,by rw[jK na];exact e,q.ext ex⟩
   | ins _ _=>obtain⟨f,j,e⟩:=this;exact⟨f,j,by rw[jK na];exact e⟩
  ·have e:n=S.length:=by
    have:=(aG.mp h2).1;simp at this
    lia
   subst e;rw[c]at h1
   cases h1
   simp at h2;subst h2;exact⟨vs,j6,r.ext ex⟩
def Rel.sO{S:jB}{n:Nat}{a:ak}(R:Rel K ρ H S)(ha:ρ[n]?=some a)(hS:S[n]?=some (.nQ xs))(r:DI K ρ H ys ws):Ext ρ ρ H (upd H a<|.dK ws)/\Rel K ρ (upd H a<|.dK ws) (S.set n<|.nQ ys):=by
 obtain⟨k,e,_⟩:=R.at n a _ ha hS;have ex:Ext ρ ρ H (upd H a<|.dK ws):=⟨⟨dN _,λb u i h=>by
  have:b≠a:=by
   intro z;subst z;rw[e]at h;cases h;exact i
  rw[jK this];exact h⟩,λb u h n=>by
  rw[jK λz=>n<|by rw[z];exact aY ha];exact h,λ_ h=>.inl h⟩
 refine⟨ex,by rw[cz];exact R.len,R.nd,λm b o h1 h2=>?_⟩;by_cases f:m=n
 ·subst f;rw[ha]at h1;cases h1;rw[bK (aG.mp hS).1]at h2
  cases h2
  exact⟨ws,j6,r.ext ex⟩
 ·rw[bG<|Ne.symm f]at h2;have nb:b≠a:=λz=>by
   subst z;obtain⟨t,e1⟩:=aG.mp ha;obtain⟨p,e2⟩:=aG.mp h1;exact f<|(cI R.nd).mp<|e2.trans e1.symm
  have:=R.at m b o h1 h2
  cases o with
  | lst ys=>obtain⟨c,d,q⟩:=this;exact⟨c,by rw[jK nb];exact d,q.ext ex⟩
  | dct _|nQ _|dks _|vQ _=>obtain⟨c,d,q⟩:=this;exact⟨c,by rw[jK nb];exact d,q.ext ex⟩
  | dcf _|dkf _=>obtain⟨g,c,d,q⟩:=this;exact⟨g,c,by rw[jK nb];exact d,q.ext ex⟩
  | ins _ _=>obtain⟨g,j,d⟩:=this;exact⟨g,j,by rw[jK nb];exact d⟩
end
section
variable {X:Cx}{pos:Pos}{a b:aC}
abbrev BR (x y:A)(S:jB):R A:=match x,y with
 | .ref n,.int k=>opt (kc S n) λc=>opt (lD c k) λv=>.ok v S
 | _,_=>.no
def Nf{x:A}{P:A->jB->Prop}{E:Str->jB->Prop}(h:(BR x y S).post P E):∃n k kvs v,x=.ref n/\y=.int k/\kc S n=some kvs/\lD kvs k=some v/\P v S:=by
 unfold BR at h;split at h
 ·obtain⟨kvs,h1,h⟩:=jI h;obtain⟨v,h2,h⟩:=jI h;exact⟨_,_,kvs,v,rfl,rfl,h1,h2,h⟩
 ·exact h.elim
def abi(J:X.A.units+64<cLine):SI X (r2 X BR):=λc f pins s σ H x y v u Q I rx ry ⟨ρ,S,a,b,R,va,vb,h⟩ hs=>by
 obtain⟨n,k,j,z,ha,hb,hn,t,hP⟩:=Nf h;subst ha hb
 cases vb
 cases va with
 | @ref p _ q=>
  obtain⟨ks,e,d⟩:=R.nQ q<|mD hn;obtain⟨w,hw,m⟩:=(d.look k).2 z t;have g:uM H p (kV<|Sum.inl k) (pU ks<|Sum.inl k):=uM.k e;rw[hw]at g;exact Az () c f pins s σ H _ _ v u Q I rx ry ⟨p,w,rfl,g,hP _ _ _ .refl R m⟩ hs
def ON(Z:X.A.units+64<cLine){J U:Ex}(ha:AE X a J)(hb:AE X b U)(hs:wO b<|>θ):AE X (.Subscript a b pos) (jH BR J U):=PE.imp (GL (abi Z) ha hb hs) λσ H Q h=>sy h
abbrev CV (o i v:A)(S:jB):R Unit:=match o,i with
 | .ref n,.int k=>opt (kc S n) λc=>gd (c.length<sizeLine) (.ok Unit.unit<|S.set n<|.nQ<|sO c k v)
 | _,_=>.no
def IL{x v:A}{S:jB}{P:Unit->jB->Prop}{E:Str->jB->Prop}(h:(CV x y v S).post P E):∃n k kvs,x=.ref n/\y=.int k/\kc S n=some kvs/\kvs.length<sizeLine/\P Unit.unit (S.set n<|.nQ<|sO kvs k v):=by
 unfold CV at h;split at h
 ·obtain⟨kvs,h1,h⟩:=jI h;obtain⟨h2,h⟩:=j4 h;exact⟨_,_,kvs,rfl,rfl,h1,h2,h⟩
 ·exact h.elim
abbrev ad6 (X:Cx):HQ:=λo i v H Q=>∃ρ S f c d,Rel X.K ρ H S/\AV X.K ρ H f o/\AV X.K ρ H c i/\AV X.K ρ H d v/\(CV f c d S).post (λ_ g=>∀ρ' H',Ext ρ ρ' H H'->Rel X.K ρ' H' g->Q H') (XE X ρ H)
def Uu(J:X.A.units+64<cLine):Ho X (ad6 X):=λpins s σ H o i v m iv u Q I g q t h9=>by
 obtain⟨ρ,S,F,D,C,R,h1,h2,h3,h⟩:=h9;obtain⟨n,k,f,ha,hb,hn,j,hP⟩:=IL h;subst ha hb
 cases h2
 cases h1 with
 | @ref p _ c=>
  obtain⟨ks,e,d⟩:=R.nQ c<|mD hn;obtain⟨ex,B⟩:=R.sO c (mD hn)<|d.put h3 k;exact set_dict (by omega) pins s σ H _ _ v m iv u Q I g q t ⟨p,_,rfl,FW.k (k:=Sum.inl k) e<|by rw[<- d.length];exact j,hP _ _ ex B⟩
abbrev GC (co J:Ex):Tg:=λa τ S=>(co τ S).bind λo S1=>(J τ S1).bind λi S2=>(CV o i a S2).bind λ_ S3=>.ok τ S3
def Aa(U:X.A.units+64<cLine){co J:Ex}(Z:AE X o co)(hi:AE X i J)
  (ha:(∀v,assign (.Subscript o i pos) X.env v=(do
   let ov <- holding [v] (eval o X.env)
   let iv <- holding [v,ov] (eval i X.env)
   standAt pos
   holding [v,ov,iv] (setItem ov iv v)
   release [v,ov,iv] []))<|>ζ):AG X (.Subscript o i pos) (GC co J):=PG.imp (Em Z hi (Uu U) ha) λv σ H Q h9=>by
 obtain⟨ρ,S,τ,a,R,r,va,h⟩:=h9;fin2;gp_on;kpf_c
abbrev uN:Ex:=λ_ S=>.ok (.ref S.length)<|S++[.nQ []]
def tN:AE X (.Dict [] [] pos) uN:=PE.imp RN λσ H Q ⟨ρ,S,τ,R,r,h⟩ p d=>by
 obtain⟨ex,f,c⟩:=R.aa3 (xs:=[]) (vs:=[]) d trivial;exact h _ _ _ ex f<|.ref c
abbrev dk? (a:A)(S:jB):Option Unit:=match a with
 | .ref n=>(kc S n).map λ_=>Unit.unit
 | _=>none
abbrev GH (f:A->ab->jB->R A)(co:Ex)(d:qu):Ex:=λτ S=>(co τ S).bind λx S1=>opt (dk? x S1) λ_=>(d τ S1).bind λas S2=>f x as S2
def dk?_ty{K:au}{H:Hp}{x:A}{v:V}(R:Rel K ρ H S)(a:AV K ρ H x v)(e:dk? x S=some u):tyV K "dict" v H:=by
 cases a with
 | @ref p n h=>
  obtain⟨xs,c,_⟩:=aQ.mp e;obtain⟨d,h1,_⟩:=R.nQ h<|mD c;exact .inr<|.inr<|.inl ⟨rfl,.inl ⟨d,h1⟩⟩
 | _=>cases e
def E5{e:aC}{id:String}{apos cpos:Pos}{f:A->ab->jB->R A}{co:Ex}{d:qu}(slot:Slot "dict" name id)(hty:typeOf (.builtin id)=pure (.type "method_descriptor"))(hm:Fy X id<|rM X f)(ho:AE X o co)(ha:AL X (e::es) d)
  (U:attributeBase o name X.env (eval o X.env)=eval o X.env<|>ε)
  (hfew:(((backTo cpos<|starEach (e::es) X.env).all (λx=>!x.1) && (backToKw cpos<|keywordEach [] X.env).all (λx=>x.1.isSome)
   && decide ((e::es).length+([]:List Keyword).length+(if ([]:List Keyword).isEmpty then 0 else 1)<30))=true)<|>ε)
  (Z:(apos.endLine == cpos.line)=true<|>ε) (hs:starEach (e::es) X.env=(false,eval e X.env)::starEach es X.env<|>ε) (J:((backTo cpos<|starEach es X.env).any (·.1)=false)<|>ε) :
  AE X (.Call (.Attribute o name apos) (e::es) [] cpos) (GH f co d):=PE.imp (OT fq slot hty hm ho ha U hfew Z hs J) λσ H Q h9=>by
 z_go;kd_p;obtain⟨xs,c,h1⟩:=jI h1;refine⟨dk?_ty R1 v1 c,ρ1,S1,τ,R1,r.ext e1,jE (jL h1) e1 λas S2 h2 ρ2 H2 g e2 R2 v2=>?_⟩;gn_on
abbrev w_ (o:A)(as:ab)(S:jB):R A:=match o,as with
 | .ref n,[.int k,y]=>opt (kc S n) λc=>.ok ((lD c k).getD y) S
 | _,_=>.no
def Ik{x:A}{P:A->jB->Prop}{E:Str->jB->Prop}(h:(w_ x as S).post P E):∃n k y kvs,x=.ref n/\as=[.int k,y]/\kc S n=some kvs/\P ((lD kvs k).getD y) S:=by
 unfold w_ at h;split at h
 ·obtain⟨kvs,h1,h⟩:=jI h;exact⟨_,_,_,kvs,rfl,rfl,h1,h⟩
 ·exact h.elim
def DE(U:X.A.units+64<cLine):Fy X "dict.get" (rM X w_):=λpins s σ H x J v us Q I rx m h9=>by
 kln_w;obtain⟨n,k,y,d,t,has,hn,hP⟩:=Ik h;subst t has;obtain⟨O,L,rfl,G,C⟩:=Ja va
 cases G
 cases vo with
 | @ref p _ F=>
  obtain⟨ks,h1,B⟩:=R.nQ F (mD hn)
  cases rx
  obtain⟨M,K,rfl,r1,r2⟩:=vals2 m;refine Im (by omega) I (uM.k (k:=Sum.inl k) h1) r1 r2 λN s' g c=>⟨_,H,g,c,hP _ _ _ .refl R ?_⟩;obtain⟨f,q⟩:=B.look k
  cases e1:lD d k with
  | none=>
   rw[e1]at f
   cases e2:pU ks (Sum.inl k:Key)with
   | none=>exact C
   | some _=>rw[e2]at f;cases f
  | some j=>
   obtain⟨v1,e2,D⟩:=q j e1;rw[e2];exact D
end
end Am
namespace L2
open PySem PySem.Spec PyProof.Rows
section
variable {P:aj}{w:ah}{A:az}{E:af->aA->Prop}{s:aA}{it d:ak}{i ep:Nat}{es:Array DictEntry}{o:Obj}
def RJ{Q:bb->aA->Prop}(hi:s.heap.IsKeyIter it d i es.size ep)(J:s.heap.get? d=some o)(U:o.data=.dict es ep)(lt:i<es.size)
  (q:∀h',h'.IsKeyIter it d (i+1) es.size ep->Heap.SameBut it s.heap h'->Q (some es[i].key) { s with heap:=h' }):wpAny (model P w) A (pyNext<|.ref it) Q E s:=by
 have ty:=hi.typeIs;obtain⟨t,f,k,c⟩:=id hi;have own:Builtin.Dict_items.ownsTuple "dict_keyiterator" = false:=by decide
 have p:¬((Value.ref d == Value.none)=true):=br;have m:¬((i:Int)<0):=by omega
 unfold pyNext;refine aI<|wpAny_attempt<|fh (name:=Str.ofString "__next__") ty cO<|dh cO ty gf ?_<|f_ _;refine aI (aV<|aI<|aI ?_)
 first
  | refine aI (dY ty<|aV<|aI<|iT f c ?_)
  | refine aI<|eY ty<|aV<|aI<|iT f c ?_
 dsimp[own,cY,bM];show wpAny (model P w) _ (if (Value.ref d == Value.none)=true then _ else _) _ _ s;rw[aN p];refine aI<|aV<|aI<|iY J U ?_;rw[aN<|show ¬_ by simp];refine aI<|aV<|aI<|wpAny_dictEpoch J U ?_;rw[aN<|show ¬_ by simp];refine aV ?_;dsimp[m,cY,eO,dG lt];refine aI ?_
 first
  | refine aI (dY ty<|aV<|aI<|gZ ty ?_)
  | refine aI<|eY ty<|aV<|aI<|gZ ty ?_
 show wpAny (model P w) _ (setField (.ref it) 1 (rawInt<|(i:Int)+1) >>= _) _ _ s;refine aI (iQ f c (show _ by simp) ?_);have g:(s.heap.update it<|Obj.mapFields λfs=>fs.setIfInBounds 1<|rawInt<|(i:Int)+1).IsKeyIter it d (i+1) es.size ep:=
  ⟨_,gW _ f<|Obj.isFreed_of_fields<|gB c _,(Obj.cls_mapFields ..).trans k,by
   rw[gB c];simp[rawInt]⟩
 have j:Shared.TypeIs { s with heap:=s.heap.update it<|Obj.mapFields λfs=>fs.setIfInBounds 1<|rawInt<|(i:Int)+1} (.ref it) "dict_keyiterator" := Heap.IsKeyIter.typeIs (s:={ s with heap:=_ }) g;refine aI (dR<|aI<|gZ j ?_)
 skip
 exact aV<|aV ⟨_,rfl,aV<|q _ g<|f9 ..⟩
def Lf{Q:bb->aA->Prop}(Z:A.handled=none)(hi:s.heap.IsKeyIter it d i es.size ep)(J:s.heap.get? d=some o)(U:o.data=.dict es ep)(ge:es.size<=i)
  (q:∀h',Heap.ExtBut it s.heap h'->Q none { s with heap:=h' }):wpAny (model P w) A (pyNext<|.ref it) Q E s:=by
 have ty:=hi.typeIs;obtain⟨p,c,k,f⟩:=id hi;have own:Builtin.Dict_items.ownsTuple "dict_keyiterator" = false:=by decide
 have j:¬((Value.ref d == Value.none)=true):=br;have g:¬((i:Int)<0):=by omega
 unfold pyNext;refine aI<|wpAny_attempt<|fh (name:=Str.ofString "__next__") ty cO<|dh cO ty gf ?_<|f_ _;refine aI (aV<|aI<|aI ?_)
 first
  | refine aI (dY ty<|aV<|aI<|iT c f ?_)
  | refine aI<|eY ty<|aV<|aI<|iT c f ?_
 dsimp[own,cY,bM];show wpAny (model P w) _ (if (Value.ref d == Value.none)=true then _ else _) _ _ s;rw[aN j];refine aI<|aV<|aI<|iY J U ?_;rw[aN<|show ¬_ by simp];refine aI<|aV<|aI<|wpAny_dictEpoch J U ?_;rw[aN<|show ¬_ by simp];refine aV ?_;dsimp[g,cY,eO,gT ge];refine aI ?_
 first
  | refine aI (dY ty<|aV ?_)
  | refine aI<|eY ty<|aV ?_
 show wpAny (model P w) _ (setField (.ref it) 0 .none >>= _) _ _ s;refine aI (iQ c f (show _ by simp) ?_)
 skip
 refine aI ?_;dsimp[newExc,newTuple];refine aI (dB (aI (m:=firstArgMember _ _)<|wpAny_of_eq (a:=Value.none) (by first|rfl|(dsimp[firstArgMember];rfl))<|dB ?_<|by size_fits)<|by size_fits);dsimp[raiseNew];have hn:A.in1.handled=none:=Z;refine aI<|wpAny_handled<|?_;rw[hn];refine aI<|aV<|wpAny_throw<|?_;refine aI<|iy (b:=true) (T := "StopIteration") ⟨_,bA _ rfl,rfl⟩ isSubtype_stop<|aV<|q _<|((f9 ..).extBut.push _).push _
def BH{Q:af->aA->Prop}(ty:s.TypeIs (.ref d) "dict")(hs:(d == sysModules)=false)(J:s.heap.get? d=some o)(U:o.data=.dict es ep)
  (q:Q (.ref s.heap.objs.size) { s with heap:=s.heap.push { cls:=.type "dict_keyiterator",data:=.fields #[.ref d,.int 0 0,.int es.size 0,.int ep 0]}}):wpAny (model P w) A (pyIter<|.ref d) Q E s:=by
 refine wpAny_pyIter_slot ty PySem.F.slot_dict_iter<|dh PySem.F.slot_dict_iter ty PySem.F.entry_dict_iter ?_<|PySem.F.args_dict_iter_1 _;delta Builtin.«dict.__iter__»;refine aI ?_;delta Builtin.Dict.dictSlotNone;refine aI (wpAny_notOrdered_dict ty ?_)
 skip
 refine aV ?_;show wpAny (model P w) _ (Builtin.Dict.showsAll d >>= _) _ _ s;delta Builtin.Dict.showsAll;have nd:¬((d == sysModules)=true):=by rw[hs];exact br
 rw[aN nd];refine aI<|aV<|aI<|iY J U<|aI<|wpAny_dictEpoch J U ?_;refine aI<|dB<|aV ⟨_,rfl, "dict_keyiterator",_,⟨_,bA _ rfl,rfl⟩,cO.lookup,?_⟩;simpa[rawInt]using q
end
section
variable {P:aj}{w:ah}
def Mr{A:az}(U:A.handled=none)(it d:ak)(ne:d≠it){es:Array DictEntry}{o:Obj}(J:o.data=.dict es ep) :
  Walks P w A it [it,d] [it] es.size (λi v=>(es[i]?).map (λe=>e.key)=some v) (λi h=>h.IsKeyIter it d i es.size ep/\h.get? d=some o) where
 sub:=λb hb=>by
  rw[aW.mp hb];exact aJ ..
 frame:=λ_ _ _ st f=>⟨st.1.at λx e=>f it (aJ ..) x e,f d (aO _<|aJ ..) o st.2⟩
 item:=λi s Q E lt st q=>RJ st.1 st.2 J lt λh' g c=>q _ h' s.toks (by rw[dG lt];rfl) ⟨g,c.extBut d o ne st.2⟩ λb x nb e=>c.extBut b x (λz=>nb<|aW.mpr z) e
 done:=λs Q E st q=>Lf U st.1 st.2 J (aP _) λh' k=>q h' s.toks λb x nb e=>k b x (λz=>nb<|aW.mpr z) e
 self:=λ_ _ _ _ st q=>wpAny_pyIter_keyiter st.1 q
def U5{d:ak}{es:Array DictEntry}{o:Obj}(hs:(d == sysModules)=false)(hc:o.cls=.type "dict")(J:o.data=.dict es ep) :
  PySem.W.KdlSrc P w "dict" d d es.size (λi v=>(es[i]?).map (λe=>e.key)=some v) (λh=>h.get? d=some o) where
 type:=λ_ c=>⟨o,c,hc⟩
 there:=λ_ c=>⟨bh c,bh c⟩
 keep:=λ_ _ c j=>j d (.inl rfl) o c
 notList:=by decide
 notTuple:=by decide
 hint:=λ_ _ _ _ c f=>PySem.W.kdl_hint_dict ⟨o,c,hc⟩ f
 iter:=λ_ s g c=>⟨_,_,(λ_ _ f=>BH ⟨o,c,hc⟩ hs c J f),Mr g _ d (bD<|bh c) J,⟨⟨_,bA _ rfl,rfl,rfl⟩,aZ _ c⟩⟩
end
section
variable {X:Cx}
def W9{H:Hp}{s:aA}{d:ak}{kvs:List<|List Key×V}(I:Inv X pins σ H s)(J:H d=some (.dT kvs)) :
  ∃(ob:Obj) (es:Array DictEntry) (ep:Nat) (rs:ba),s.heap.get? d=some ob/\ob.cls=.type "dict" /\ ob.data=.dict es ep/\(d == sysModules)=false/\kvs.length<=sizeLine/\rs.length=kvs.length/\es.size=kvs.length /\
   (∀i:Nat,(es[i]?).map (λe:DictEntry=>e.key)=(rs[i]?).map Value.ref)/\∀(i:Nat) r p,rs[i]?=some r->kvs[i]?=some p->H r=some (.tup<|p.1.map kV):=by
 obtain⟨z,m,xs,c,t⟩:=Qd I.hok J;obtain⟨ob,es,ep,k,q,B,g,G,F⟩:=id t;obtain⟨j,C⟩:=kt_at c;have f:es.size=xs.length:=by have:=cH List.length g;simpa using this
 refine⟨ob,es,ep,xs.map λy=>y.2.1,k,q.1,B,m,z,by rw[aF,j],by rw[f,j],λi=>?_,λi r p e1 e2=>?_⟩
 ·rw[<- dg,g,aK,aK,eG,eG]
  cases xs[i]?<;>rfl
 ·obtain⟨y,h1,h2,h3,D⟩:=C i p e2;rw[aK,h1]at e1
  cases e1
  exact h3
def EL(hc:X.calm=true):kG X (.builtin "sorted") (λxs H Q=>∃(d:ak) (kvs:List<|List Key×V) (kss:List<|ae),xs=[.ref d]/\H d=some (.dT kvs)/\kvs.map (λp=>p.1)=kss.map (λks=>ks.map Sum.inl)/\(∀ks∈kss,ks≠[])/\Sx.RO kss.length /\
  ∀(rs:ba) l g,rs.length=kss.length->(∀(i:Nat) (r:ak) (ks:ae),rs[i]?=some r->kss[i]?=some ks->H r=some (.tup<|ks.map V.int))->H l=none->Sx.Cl g 0 kss.length->Sx.So (Sx.MV kss) g 0 kss.length ->
   Q (.ref l) (upd H l<|.lst<|((List.range kss.length).map λi=>rs.getD (g i) 0).map V.ref)):=by
 kcf_m;obtain⟨d,kvs,kss,rfl,T,B,f,K,q⟩:=h;mg_lt
 cases rx
 obtain⟨Z,es,ep,rs,G,U,Y,M,C,k,L,F,O⟩:=W9 I T;have t:kvs.length=kss.length:=by have:=cH List.length B;simpa using this
 have D:∀(i:Nat) (r:ak) (ks:ae),rs[i]?=some r->kss[i]?=some ks->H r=some (.tup<|ks.map V.int):=λi r ks e1 e2=>by
  have lt:i<kvs.length:=by rw[t];exact(aG.mp e2).1
  have h1:=O i r kvs[i] e1 (aH lt);have h2:(kvs.map λp=>p.1)[i]?=(kss.map λks=>ks.map Sum.inl)[i]?:=by rw[B]
  rw[aK,aK,e2,aH lt]at h2;have h3:kvs[i].1=ks.map Sum.inl:=a_ h2;rw[h3,bC]at h1;exact h1
 refine Calls.call_function_entry kind_sorted plain_sorted entry_sorted (args_sorted1 _) ?_;unfold Builtin.«sorted»;refine aI (m:=checkCount "sorted" 1 1 _)<|aV ?_;refine aI (PySem.W.kdu_collect (U5 M U Y) (show X.A.in1.handled=none from I.ok.hd hc) G (by rw[L];exact C) λh' J acc N c=>?_);have P:acc.toList=rs.map Value.ref:=by
  refine eT λj=>?_;rw[dg,aK,<- F j]
  cases e:acc[j]? with
  | some v=>exact(c.2 j v e).symm
  | none=>
   have:acc.size<=j:=Array.getElem?_eq_none_iff.mp e;rw[gT<|by rw[<- c.1];exact this];rfl
 rw[P];exact MI (s:=s) (I.kept (t':=J) N) K (by rw[k,t]) (by rw[k];exact C) (λi r ks e1 e2=>⟨nX.of<|D i r ks e1 e2,f ks<|aY e2⟩) λl g h1 h2 h3=>q rs l g (by rw[k,t]) D h1 h2 h3
end
section
variable {P:aj}{w:ah}{A:az}{E:af->aA->Prop}{s:aA}
def Mq:typeLookup (.type "list") "keys" = pure none:=am_miss_of_fast<|by kernel_rfl
theorem Na{a:ak}{o:Obj}{k:Nat}{Q:bb->aA->Prop}(U:s.heap.get? a=some o)(hc:o.cls=.type "list")(J:o.data=.seq xs k)(Z:o.dict=none)(hA:A.handled=none)
  (h:∀h' tk,(∀b ob,s.heap.get? b=some ob->h'.get? b=some ob)->Q none { s with heap:=h',toks:=tk }):wpAny (model P w) A (getAttr? (.ref a) "keys") Q E s:=by
 obtain⟨c,dct,q,p⟩:=o;simp only at hc J Z;subst hc J Z;obtain⟨B,g,d,tk,t⟩:=s;have m:∀j,(⟨B,g,d,j,t⟩:aA).TypeIs (.ref a) "list" := λ_=>⟨_,U,rfl⟩;have f1:=sub_AttributeError;have f3:=gg.lookup;have f4:=gg.bind<|.ref a;have f5:=am_list_getattr_none;unfold getAttr? getAttrBy? getAttrBy
 repeat (any_goals (first|assumption|exact m _|((with_reducible show wpAny _ _ (call (Value.builtin "list.__getattribute__") _ _) _ _ _);refine gz gg (m _) am_entry_list_getattribute (F.args_list_getattribute_2 _ _) (meets_getattribute_miss_list a xs k p "keys" _ Mq ⋯ (by size_fits)) ⟨U,hA,λh' j e f=>?_⟩)|wp_step))
 obtain⟨G,D,C⟩:=f.there
 skip
 unfold getattributeRaised
 repeat (any_goals (first|assumption|wp_step))
 exact h _ _ f.keeps
def Dj:entryFor table "dict.update.loop" = some Builtin.«dict.update.loop»:=entryFor_of_tree<|by kernel_rfl
def wH:plainId "dict.update.loop" = true:=by decide +kernel
abbrev SG (h:aq)(d I:ak)(its:ar)(ps:List<|Int×af):Prop:=∀(i:Nat) (v:af),its[i]?=some v->∃(b:ak) (p:Int×af) (t:Tok),v=.ref b/\b≠d/\b≠I/\ps[i]?=some p/\IsTup h b #[.int p.1 t,p.2]
def SG.mono{h h':aq}{d:ak}(x:SG h d I its ps)(k:∀b o,b≠d->b≠I->h.get? b=some o->h'.get? b=some o):SG h' d I its ps:=λi v hv=>by
 obtain⟨b,p,t,h1,h2,h3,c,o,g,f⟩:=x i v hv;exact⟨b,p,t,h1,h2,h3,c,o,k b o h2 h3 g,f⟩
abbrev Yb (ps:List<|Int×af):List (Key×af):=ps.foldl (λacc p=>stored acc (Sum.inl p.1) p.2) []
def PD(ps:List<|Int×af)(i:Nat)(p:Int×af)(h:ps[i]?=some p):Yb (ps.take<|i+1)=stored (Yb<|ps.take i) (Sum.inl p.1) p.2:=by
 unfold Yb;rw[b6,h,eU];rfl
theorem Lq:∀(ps:List<|Int×af) (acc:List<|Key×af),(ps.foldl (λacc p=>stored acc (Sum.inl p.1) p.2) acc).length<=acc.length+ps.length
 | [],acc=>aP _
 | p::ps,acc=>by
  have:=Lq ps<|stored acc (Sum.inl p.1) p.2;have h:(stored acc (Sum.inl p.1) p.2).length<=acc.length+1:=by
   unfold stored;split
   ·rw[aF];lia
   ·rw[bq];exact aP _
  rw[gp,bR]
  lia
def NG{R:Result->aA->Prop}{I l d:ak}{St:Nat->aq->Prop}{its:ar}{ps:List<|Int×af}(W:Walks P w A.in1 I [I,l] [I] its.length (λi v=>its[i]?=some v) St)(hdI:d≠I)(hdl:d≠l)(hl:ps.length=its.length)(hz:ps.length<=sizeLine) :
  ∀(k i:Nat) (s:aA),its.length-i=k->i<=its.length->St i s.heap->s.heap.DictOf (kh P w) d (Yb<|ps.take i)->SG s.heap d I its ps ->
   (∀h' tk,h'.DictOf (kh P w) d (Yb ps)->(∀b o,b≠d->b≠I->s.heap.get? b=some o->h'.get? b=some o)->R (.ok<|.ret .none) { s with heap:=h',toks:=tk }) ->
   codeAny (model P w) A (.builtin "dict.update.loop" ⟨[.ref d,.ref I,rawInt i,.none],[]⟩) R s:=by
 intro k
 induction k with
 | zero=>
  intro i s hk hi g G hP M;have L:i=its.length:=()
  subst L;refine iF Dj ?_;rw[fS wH _]
  skip
  refine aI (W.done s _ _ g λh' tk j=>?_)
  skip
  refine aI (aV<|aV<|M h' tk ?_ λb o _ h2 e=>j b o (by simpa using h2) e);rw[<- hl,b8]at G;obtain⟨o,es,ep,m,rest⟩:=G;exact⟨o,es,ep,j d o (by simpa using hdI) m,rest⟩
 | succ k Z=>
  intro i s hk hi g G hP M;have C:i<its.length:=()
  refine iF Dj ?_;rw[fS wH _]
  skip
  refine aI<|W.item i s _ _ C g λv h' tk hv D j=>?_;have N:SG h' d I its ps:=hP.mono λb o h1 h2 e=>j b o (by simpa using h2) e;obtain⟨b,p,t,rfl,hbd,hbI,hp,o,m,hc,n,hd⟩:=N i v hv;have U:h'.DictOf (kh P w) d (Yb<|ps.take i):=by
   obtain⟨o,es,ep,m,rest⟩:=G;exact⟨o,es,ep,j d o (by simpa using hdI) m,rest⟩
  have hT:Shared.TypeIs { s with heap:=h',toks:=tk } (.ref b) "tuple" := ⟨o,m,hc⟩;have f:∀(A:az) (E:af->aA->Prop) (Q:ar->aA->Prop),Q [.int p.1 t,p.2] { s with heap:=h',toks:=tk }->wpAny (model P w) A (Builtin.Dict.pairItems<|.ref b) Q E { s with heap:=h',toks:=tk }:=λA E Q q=>by
   unfold Builtin.Dict.pairItems;refine aI<|jh hT ?_;rw[aR ⋯];refine aI<|gJ m hd<|aV q
  have B:(Yb<|ps.take i).length<=sizeLine:=by
   refine bI (Lq (ps.take i) []) ?_;rw[cu,fJ]
   lia
  refine aI (dR<|aI<|wpAny_tryCatch<|f _ _ _ ?_)
  skip
  refine dR (wpAny_dictSet_pairs (hsz:=B) (knd:=kh P w) (k:=Sum.inl p.1) (s:={ s with heap:=h',toks:=tk }) (show Value.isInt p.1 (.int p.1 t)=true by simp[Value.isInt]) U λh2 O hs=>?_);refine aV ⟨plainId_quiet wH _,?_⟩;have c:∀b o,b≠d->b≠I->s.heap.get? b=some o->h2.get? b=some o:=λb o h3 F e=>by rw[hs.2 b h3];exact j b o (by simpa using F) e
  refine Z (i+1) _ () C (W.frame _ _ _ D λb hb o e=>?_) (by rw[PD ps i p hp];exact O) (hP.mono c) λh3 V T J=>M h3 V T λb o F Y e=>J b o F Y<|c b o F Y e;have K:b≠d:=by
   intro z;subst z
   rcases bw.mp hb with z|z
   ·exact hdI z
   ·exact hdl<|by simpa using z
  skip
  rw[hs.2 b K];exact e
theorem CB{H:Hp}{X:Cx}(I:Inv X pins σ H s):∀(rs:ba) (ps:List<|Int×V),rs.length=ps.length->(∀(i:Nat) (r:ak) (q:Int×V),rs[i]?=some r->ps[i]?=some q->nX X.K H r [.int q.1,q.2]) ->
  ∃qs:List<|Int×af,KV ps qs/\∀(i:Nat) (r:ak),rs[i]?=some r->∃q t,qs[i]?=some q/\IsTup s.heap r #[.int q.1 t,q.2]
 | [],[],_,_=>⟨[],.nil,λi r h=>by simp at h⟩
 | [],_::_,h,_=>nomatch h
 | _::_,[],h,_=>nomatch h
 | r::rs,p::ps,hl,hh=>by
  obtain⟨qs,h1,h2⟩:=CB I rs ps (by simpa using hl) λi r q e1 e2=>hh (i+1) r q (by simpa using e1) (by simpa using e2);obtain⟨d,g,k,_⟩:=I.tuple<|hh 0 r p rfl rfl;obtain⟨f,c,rfl,r1,r2⟩:=vals2 g;obtain⟨t,rfl⟩:∃t,f=Value.int p.1 t:=r1;refine⟨(p.1,c)::qs,.cons ⟨rfl,r2⟩ h1,λi j e=>?_⟩
  cases i with
  | zero=>cases e;exact⟨(p.1,c),t,rfl,k⟩
  | succ i=>exact h2 i j<|by simpa using e
abbrev ptP (ps:List<|Int×V):List (Key×V):=ps.foldl (λacc p=>putK acc (Sum.inl p.1) p.2) []
def aa1:∀{ps:List<|Int×V}{qs:List<|Int×af},KV ps qs->∀{as:List<|Key×V}{bs:List<|Key×af},KV as bs->KV (ps.foldl (λacc p=>putK acc (Sum.inl p.1) p.2) as) (qs.foldl (λacc p=>stored acc (Sum.inl p.1) p.2) bs):=by
 intro ps qs h;unfold KV at h
 induction h with
 | nil=>exact λh=>h
 | @cons p q ps qs h t c=>
  intro as bs h2;rw[gp,gp];obtain⟨e,r⟩:=h;rw[e];exact c<|h2.put _ r
theorem KJ:∀(ps:List<|Int×V) (acc:List<|Key×V),(ps.foldl (λacc p=>putK acc (Sum.inl p.1) p.2) acc).length<=acc.length+ps.length
 | [],acc=>aP _
 | p::ps,acc=>by
  have:=KJ ps<|putK acc (Sum.inl p.1) p.2;have:=rX acc (Sum.inl p.1) p.2;rw[gp,bR]
  lia
end
section
variable {X:Cx}
def HK(hc:X.calm=true):kG X (.type "dict") (λxs H Q=>∃(p:ak) (rs:ba) (ps:List<|Int×V),xs=[.ref p]/\qf X.K H p (rs.map V.ref)/\rs.length=ps.length /\
  (∀(i:Nat) (r:ak) (q:Int×V),rs[i]?=some r->ps[i]?=some q->nX X.K H r [.int q.1,q.2])/\∀l,H l=none->Q (.ref l) (upd H l<|.dK<|ptP ps)):=by
 kcf_m;obtain⟨p,rs,ps,rfl,hq,m,hT,q⟩:=h;mg_lt
 cases rx
 obtain⟨its,rv,pl,hz⟩:=I.list hq;have ei:=C2 rv;subst ei;rw[aF]at hz;obtain⟨P,kv,tp⟩:=CB I rs ps m hT;have ql:ps.length=P.length:=kv.length;obtain⟨o,n,O,j,G,hd⟩:=pl;have Y:p<s.heap.objs.size:=bh O;refine callType_codes (Q₁:=λB g=>B=.ref s.heap.objs.size/\g={ s with heap:=s.heap.push { cls:=.type "dict",data:=.dict #[]}}) F.kt_called_dict (F.kt_typeCall_dict_1 _) F.entry_dict_init (kt_code_dict_new _ ⟨rfl,rfl⟩) ?_;rintro B g ⟨rfl,rfl⟩;have c:(s.heap.push { cls:=.type "dict",data:=.dict #[]}).DictOf (kh X.prog X.w) s.heap.objs.size []:=Heap.DictOf.new s.heap;have f:(s.heap.push { cls:=.type "dict",data:=.dict #[]}).get? p=some o:=aZ _ O;have J:Shared.TypeIs { s with heap:=s.heap.push { cls:=.type "dict",data:=.dict #[]}} (.ref p) "list" := ⟨o,f,j⟩;refine⟨c.typeIs,F.args_dict_init_2 _ _,?_⟩;unfold Builtin.«dict.__init__»;refine aI ?_;unfold Builtin.Dict.selfAndRest;refine aI (wpAny_notOrdered_dict c.typeIs ?_)
 skip
 refine aV ?_;show wpAny _ _ (Builtin.Dict.updateFrom "dict.__init__" s.heap.objs.size (.ref p) [] .none) _ _ _;unfold Builtin.Dict.updateFrom;refine aI<|jh J ?_;rw[aR ⋯];refine aI<|Na f j hd G (show X.A.in1.in1.handled=none from I.ok.hd hc) λh' U k=>?_;rw[aR<|by rfl];refine aI<|iu ?_;have C:h'.IsList p (rs.map Value.ref).toArray:=⟨o,k p o f,j,n,hd⟩;refine aI<|iX (s:={ s with heap:=h',toks:=U }) C ?_;refine aV ⟨plainId_quiet wH _,?_⟩;have sz:s.heap.objs.size<h'.objs.size:=bh<|k _ _<|bA _ rfl;have W:Walks X.prog X.w X.A.in1.in1 h'.objs.size [h'.objs.size,p] [h'.objs.size] (rs.map Value.ref).length (λi v=>(rs.map Value.ref)[i]?=some v) (λi h=>h.IsListIter h'.objs.size p i/\h.IsList p (rs.map Value.ref).toArray):=by
  have W:=Walks.list (prog:=X.prog) (w:=X.w) (A:=X.A.in1.in1) (I.ok.hd hc) h'.objs.size p (bD<|bh<|k p o f) (rs.map Value.ref).toArray;rw[bf]at W;dsimp[fM]at W;exact W
 refine NG (d:=s.heap.objs.size) (its:=rs.map Value.ref) (ps:=P) W (bD sz) (Ne.symm<|bD Y) (by rw[aF];lia) () (rs.map Value.ref).length 0 _ () (bW _)
  ⟨⟨_,bA _ rfl,rfl,rfl⟩,C.push _⟩ ?_ (λi v hv=>?_) λh2 D Z hs=>⟨rfl,.ref s.heap.objs.size,_,I.laid (t':=D) (o:=.dK<|ptP ps) (λb ob N=>?_) (aP _) ?_,rfl,q _<|I.hok.fresh<|aP _⟩
 ·obtain⟨o,es,ep,e,rest⟩:=c;exact⟨o,es,ep,aZ _<|k _ _ e,rest⟩
 ·rw[aK]at hv;obtain⟨r,T,rfl⟩:=aQ.mp hv;obtain⟨q,t,h1,o2,h2,h3⟩:=tp i r T;have L:=bh h2;exact⟨r,q,t,rfl,bD L,bD<|jf L sz,h1,o2,aZ _<|k _ _<|aZ _ h2,h3⟩
 ·have M:=bh N;exact hs b ob (bD M) (bD<|jf M sz) (aZ _<|k _ _<|aZ _ N)
 ·refine HA (bI (KJ ps [])<|by rw[fJ];lia) ?_ (aa1 kv .nil) Z;exact cB.mpr<|Ne.symm<|bD I.big
abbrev U4 (ns:ae):Sx.Ord where
 lt i j:=decide (ns.getD i 0<ns.getD j 0)
 Ry i:=bH (by omega)
 tr i j k h1 h2:=bg (by have:=bE h1;have:=bE h2;omega)
 neg i j k h:=by
  have:=bE h;by_cases c:ns.getD i 0<ns.getD j 0
  ·exact .inl (bg c)
  ·exact .inr<|bg<|by omega
theorem LN:∀{vs:ar}{ns:ae},IntsAre vs ns->vs.length=ns.length/\∀i,i<vs.length->∃t,vs.getD i .none=.int (ns.getD i 0) t
 | _,_,.nil=>⟨rfl,λi h=>absurd h<|fK _⟩
 | _,_,.cons n t h=>by
  obtain⟨h1,h2⟩:=LN h;refine⟨cH (·+1) h1,λi c=>?_⟩
  cases i with
  | zero=>exact⟨t,rfl⟩
  | succ i=>exact h2 i<|by simpa using c
theorem BU{f:Nat->Int}{h:Nat->af}:∀(l:ag),(∀i∈l,∃t,h i=.int (f i) t)->Vals (l.map λi=>V.int<|f i) (l.map h)
 | [],_=>.nil
 | i::l,e=>.cons (e i<|aJ ..)<|BU l λj c=>e j<|aO _ c
def HN{s:aA}{H:Hp}{Q:VK}{h':aq}{tk:Nat}{vs:ar}{ns:ae}(I1:Inv X pins σ H { s with heap:=h',toks:=tk })(J:Sx.RO ns.length)(hi:IntsAre vs ns)(U:vs.length<=sizeLine)
  (q:∀l g,H l=none->Sx.Cl g 0 ns.length->Sx.So (U4 ns) g 0 ns.length->Q (.ref l) (upd H l<|.lst<|(List.range ns.length).map λi=>V.int<|ns.getD (g i) 0)) :
  wpAny (model X.prog X.w) X.A.in1 (do
   let l <- newList vs
   let _ <- holding [l] (call (Value.builtin "list.sort") [l] [])
   ret l) (λfin s'=>∃v,fin=Fin.done (Flow.ret v)/\EP X pins σ Q v s') X.xe { s with heap:=h',toks:=tk }:=by
 obtain⟨B,c⟩:=LN hi;refine aI<|wpAny_newList ?_;have d:(h'.push<|seqObj "list" vs.toArray 0).get? h'.objs.size=some (seqObj "list" vs.toArray 0):=bA _ rfl
 skip
 refine aI (dR<|dh slot_list_sort ⟨_,d,rfl⟩ entry_list_sort (Sx.Dh (o:=U4 ns) (kd:=oneType') d U (by rw[B];exact J) (λh2 Q' f=>?_) (λh2 i j m D F Q' f=>?_) λg hc hs=>⟨_,rfl,?_⟩)<|args_list_sort _)
 ·obtain⟨a,b,r,rfl⟩:∃a b r,vs=a::b::r:=by
   cases vs with
   | nil=>simp at h2
   | cons a vs=>cases vs with
    | nil=>simp at h2
    | cons b r=>exact⟨a,b,r,rfl⟩
  exact wpAny_of_eq (keyKind_ints hi) f
 ·obtain⟨t,e1⟩:=c i m;obtain⟨u,e2⟩:=c j D;show wpAny _ _ (keyLt' oneType' (vs.getD i .none)<|vs.getD j .none) Q' F _;rw[e1,e2,keyLt'_oneType];exact Sx.JV true f
 ·rw[B]at hc hs ⊢;obtain⟨e,C⟩:=sortedHeap_at (out:=((List.range ns.length).map λi=>vs.getD (g i) .none).toArray) d;have old:∀b k,h'.get? b=some k->(sortedHeap (h'.push<|seqObj "list" vs.toArray 0) h'.objs.size vs ((List.range ns.length).map λi=>vs.getD (g i) .none).toArray).get? b=some k:=λb k p=>by
   rw[sortedHeap_old (bD<|bh p)<|by rw[dX];exact fO<|bh p];exact aZ _ p
  refine aV ⟨_,rfl,.ref h'.objs.size,_,I1.laid (t':=tk) (o:=.lst<|(List.range ns.length).map λi=>V.int<|ns.getD (g i) 0) old (aP _) ?_,rfl,q _ g (I1.hok.fresh<|aP _) hc hs⟩;refine⟨by rw[aF,b_];omega,(List.range ns.length).map λi=>vs.getD (g i) .none,e,BU _ λi hi=>c _ (by have:=(hc i (bW _)<|c7.mp hi).2;omega),C⟩
def MD{P:aj}{w:ah}{vs:List<|Key×af}:∀{acc:ar}{ns:ae},vs.map (·.1)=ns.map Sum.inl->acc.length=vs.length->(∀(j:Nat) v,acc[j]?=some v->∃k x,vs[j]?=some (k,x)/\(kh P w).is k v=true)->IntsAre acc ns:=by
 intro acc ns c d h
 induction acc generalizing vs ns with
 | nil=>cases vs with
  | nil=>cases ns with
   | nil=>exact .nil
   | cons=>cases c
  | cons=>cases d
 | cons a acc f=>cases vs with
  | nil=>cases d
  | cons v vs=>cases ns with
   | nil=>cases c
   | cons n ns=>
    rw[bF,bF,List.cons.injEq]at c;obtain⟨k,x,e1,e2⟩:=h 0 a rfl
    cases e1
    obtain⟨e3,e4⟩:=c;have e3:k=Sum.inl n:=e3;subst e3;obtain⟨t,rfl⟩:=Value.isInt_shape (k:=n) (v:=a) e2;exact .cons n t<|f e4 (by simpa using d) λj v e=>h (j+1) v<|by simpa using e
def Eb(hc:X.calm=true):kG X (.builtin "sorted") (λxs H Q=>∃(d:ak) (kvs:List<|Key×V) (ns:ae),xs=[.ref d]/\H d=some (.dK kvs)/\kvs.map (λp=>p.1)=ns.map Sum.inl/\Sx.RO ns.length /\
  ∀l g,H l=none->Sx.Cl g 0 ns.length->Sx.So (U4 ns) g 0 ns.length->Q (.ref l) (upd H l<|.lst<|(List.range ns.length).map λi=>V.int<|ns.getD (g i) 0)):=by
 kcf_m;obtain⟨d,kvs,ns,rfl,t,B,G,q⟩:=h;mg_lt
 cases rx
 obtain⟨z,hd,k,f,C⟩:=Lp I.hok t;obtain⟨ep,D⟩:=C.dictAt;have M:kvs.length=k.length:=f.length;have K:k.map (·.1)=kvs.map (·.1):=by
  clear B z C D M t;unfold KV at f
  induction f with
  | nil=>rfl
  | cons h _ J=>rw[bF,bF,J,h.1]
 refine Calls.call_function_entry kind_sorted plain_sorted entry_sorted (args_sorted1 _) ?_;unfold Builtin.«sorted»;refine aI (m:=checkCount "sorted" 1 1 _)<|aV ?_;refine aI<|PySem.W.kdu_collect (PySem.W.kdl_dict hd) (show X.A.in1.handled=none from I.ok.hd hc) D () λh' F acc L c=>?_;have al:acc.toList.length=k.length:=by rw[dZ];exact c.1
 exact HN (s:=s) (I.kept (t':=F) L) G (MD (P:=X.prog) (w:=X.w) (K.trans B) al λj v e=>c.2 j v<|by rw[dg]at e;exact e) () q
end
end L2
namespace Am
open PySem PySem.Spec PyProof.Rows L2
abbrev U9:ab->Option (List<|Int×A)
 | []=>some []
 | .tup [.int k,x]::r=>(U9 r).map λps=>(k,x)::ps
 | _=>none
abbrev VN (ps:List<|Int×A):List (Int×A):=ps.foldl (λacc p=>sO acc p.1 p.2) []
section
variable {K:au}{ρ:ba}{H:Hp}
def To{x:A}(r:AVs K ρ H [x,y] vs):∃v w,vs=[v,w]/\AV K ρ H x v/\AV K ρ H y w:=by
 cases r with
 | cons h t=>cases t with
  | cons h' c=>cases c;exact⟨_,_,rfl,h,h'⟩
def OU{x:A}(e:U9 (x::xs)=some ps):∃k y ps',x=.tup [.int k,y]/\U9 xs=some ps'/\ps=(k,y)::ps':=by
 unfold U9 at e;split at e
 ·rename_i e2;cases e2
 ·rename_i k y r e2
  cases e2
  obtain⟨ps',h1,h2⟩:=aQ.mp e;exact⟨_,_,_,rfl,h1,h2.symm⟩
 ·cases e
def ace:∀{xs:ab}{vs:List V}{ps:List<|Int×A},AVs K ρ H xs vs->U9 xs=some ps ->
  ∃(rs:ba) (qs:List<|Int×V),vs=rs.map V.ref/\rs.length=qs.length/\(∀(i:Nat) (r:ak) (q:Int×V),rs[i]?=some r->qs[i]?=some q->nX K H r [.int q.1,q.2]) /\
   ∀as bs,DI K ρ H as bs->DI K ρ H (ps.foldl (λacc p=>sO acc p.1 p.2) as) (qs.foldl (λacc p=>putK acc (Sum.inl p.1) p.2) bs):=by
 intro xs
 induction xs with
 | nil=>intro vs ps r e;cases r;cases e;exact⟨[],[],rfl,rfl,λi r q h=>by simp at h,λas bs h=>h⟩
 | cons x xs c=>
  intro vs ps r e;obtain⟨k,y,m,rfl,e1,rfl⟩:=OU e
  cases r with
  | cons h t=>
   obtain⟨rs,qs,rfl,f,g,j⟩:=c t e1
   cases h with
   | @tup a _ us h r=>
    obtain⟨v,w,rfl,h1,h2⟩:=To r
    cases h1
    refine⟨a::rs,(k,w)::qs,rfl,by rw[bR,bR,f],λi r q e1 e2=>?_,λas bs d=>j _ _<|d.put h2 k⟩
    cases i with
    | zero=>cases e1;cases e2;exact nX.of h
    | succ i=>exact g i r q (by simpa using e1)<|by simpa using e2
end
section
variable {X:Cx}
abbrev DQ (x:A)(S:jB):R A:=match x with
 | .ref n=>opt (jA S n) λxs=>opt (U9 xs) λps=>.ok (.ref S.length) (S++[.nQ<|VN ps])
 | _=>.no
def Lc(hc:X.calm=true):kG X (.type "dict") (rN X<|f1 DQ):=kG.imp (HK hc) λvs H Q h0=>by
 kpc_g;clear h0
 cases hv with
 | ref k=>
  rename_i p n;ksr_p;obtain⟨ps,hb,h⟩:=jI h;obtain⟨us,h1,r⟩:=R.lst k<|jP hn;obtain⟨g,f,rfl,d,m,j⟩:=ace r hb;refine⟨p,g,f,rfl,qf.of h1,d,m,λl c=>?_⟩;obtain⟨ex,q,d⟩:=R.aa3 (xs:=VN ps) (vs:=ptP f) c<|j [] [] trivial;exact h _ _ _ ex q<|.ref d
 | _=>exact h.elim
def Tv{ns:ae}{g:Nat->Nat}(c:Sx.Cl g 0 ns.length)(J:Sx.So (U4 ns) g 0 ns.length):(List.range ns.length).map (λi=>ns.getD (g i) 0)=sortI ns:=by
 refine UP ?_ ?_ (By ns)
 ·refine List.Perm.trans ?_ (sortI_perm ns).symm;have p:=xA (N:=ns.length) (g:=g) (λi k=>(c i (bW _) k).2) λi j d f z=>by
   have:=J i j (bW _) d f;rw[z]at this;exact this.Ry
  have:=p.map λi=>ns.getD i 0;rw[bC,range_getD]at this;exact this
 ·rw[dH];intro i j k f d;rw[aF,b_]at k f;rw[dP,dP,eF,eF];have:=dJ (J i j (bW _) d f).ge
  lia
@[irreducible] noncomputable def big:Nat:=2 ^ 4096
theorem z_:big=2 ^ 4096:=by unfold big;rfl
def Hh{i:Int}(h:i.natAbs<big):Builtin.Int.intBits i<=2 ^ 20:=by
 rw[z_]at h;exact bI (intBits_le h) ⋯
abbrev Gx (a b:A)(S:jB):R A:=match a,b with
 | .int i,.int j=>gd (i.natAbs<big/\j.natAbs<big) (.ok (.int<|i * j) S)
 | _,_=>.no
def Qo:pL X (binaryOp .Mult) (r2 X Gx):=λpins s σ H x y v u Q I rx ry h9=>by
 w_up
 cases va with
 | int i=>cases vb with
  | int j=>
   obtain⟨⟨h1,h2⟩,h⟩:=j4 h;obtain⟨t,rfl⟩:∃t,v=Value.int i t:=rx;obtain⟨c,rfl⟩:∃t,u=Value.int j t:=ry;exact mul_int ⟨.int _,H,I.tok _,⟨_,rfl⟩,h _ _ _ .refl R<|.int _⟩<|IntMulOk.of_bits (Hh h1)<|Hh h2
  | _=>exact h.elim
 | _=>exact h.elim
end
def K_:bootBuiltins "dict" = some (.type "dict"):=by decide +kernel
abbrev kA (p:Int×Int):A:=.ktu [.int p.1,.int p.2]
abbrev O3 (K:au):af->Option (Int×Int)
 | .ref b=>match K.lookup b with
  | some ⟨.type "tuple",none,.seq its _,_⟩=>match its.toList with
   | [.int i _,.int j _]=>some (i,j)
   | _=>none
  | _=>none
 | _=>none
abbrev IX (K:au):ar->Option (List<|Int×Int)
 | []=>some []
 | v::vs=>(O3 K v).bind λp=>(IX K vs).map λps=>p::ps
abbrev klP (K:au)(a:ak):Option (List<|Int×Int):=match K.lookup a with
 | some ⟨.type "list",none,.seq its _,_⟩=>if its.size<=sizeLine then IX K its.toList else none
 | _=>none
def OA{K:au}{v:af}{p:Int×Int}(h:O3 K v=some p):∃b,v=.ref b/\KTp K b [.int p.1,.int p.2]:=by
 unfold O3 at h;split at h
 ·rename_i b;refine⟨b,rfl,?_⟩;split at h
  ·rename_i c n d e;split at h
   ·rename_i i t j u e2
    cases h
    refine⟨_,c,n,e,rfl,rfl,rfl,?_,?_⟩
    ·rw[<- dZ,e2];show 2<=sizeLine;decide
    ·rw[e2];exact .cons ⟨t,rfl⟩<|.cons ⟨u,rfl⟩ .nil
   ·cases h
  ·cases h
 ·cases h
def MW{K:au}{H:Hp}:∀{vs:ar}{ps:List<|Int×Int},IX K vs=some ps->∃us:List V,Vals us vs/\AVs K ρ H (ps.map kA) us:=by
 intro vs
 induction vs with
 | nil=>intro ps h;cases h;exact⟨[],.nil,.nil⟩
 | cons v vs c=>
  intro ps h;obtain⟨p,h1,h⟩:=cy.mp h;obtain⟨g,h2,rfl⟩:=aQ.mp h;obtain⟨us,h3,d⟩:=c h2;obtain⟨b,rfl,f⟩:=OA h1;exact⟨.ref b::us,.cons rfl h3,.cons (.ktu f<|.cons (.int _)<|.cons (.int _) .nil) d⟩
def YT{K:au}{H:Hp}{a:ak}{ps:List<|Int×Int}(h:klP K a=some ps):AV K ρ H (.frz<|ps.map kA) (.ref a):=by
 unfold klP at h;split at h
 ·rename_i c n f e;split at h
  ·rename_i d;obtain⟨us,h1,h2⟩:=MW (ρ:=ρ) (H:=H) h;exact .frz (.inr ⟨_,c,n,e,rfl,rfl,rfl,d,h1⟩) h2
  ·cases h
 ·cases h
def Pr{X:Cx}{x:Str}{a:ak}{ps:List<|Int×Int}(J:X.mg x=some (.ref a))(U:klP X.K a=some ps)(hg:Gl X x<|>ε)(Z:(x == ("__debug__" : Str))=false<|>δ):AE X (.Name x pos) (eC<|.frz<|ps.map kA):=
 PE.imp (U8 (v:=.ref a) hg J rfl Z) λσ H Q h9=>by
  z_go;exact h ρ H _ .refl R<|YT U
section
abbrev keA (p:ae×A):A:=.tup<|p.1.map .int
theorem Ke{K:au}{H:Hp}:∀{kvs:List<|ae×A}{ks:List<|List Key×V},DV K ρ H kvs ks->ks.map (λp=>p.1)=(kvs.map Prod.fst).map (λks=>ks.map Sum.inl)
 | [],[],_=>rfl
 | a::kvs,b::ks,⟨z,t⟩=>by
  have:=Ke t;show b.1::ks.map _=a.1.map Sum.inl::_;rw[this,z.1]
end
end Am
namespace L2
open PySem PySem.Spec PyProof.Rows
section
variable {X:Cx}{pins:bj}{σ:St}{H:Hp}{s:aA}{a:ak}{xs:List (ny×ak×af)}
def WN{r:ak}{x:ae}(I:Inv X pins σ H s)(h:H r=some (.tup<|x.map V.int)):TK s.heap x r:=by
 obtain⟨_,c,d,o,h1,h2,_,n,h3⟩:=(show kI _ _ H s.heap r (.tup<|x.map V.int)from I.hok r _ h);exact⟨o,c.toArray,n,h1,h2,h3,by simpa using intsAre_of d⟩
def DB{b:ak}{k:ny}(I:Inv X pins σ H s)(h:tX H b k):wU s.heap k b:=by
 obtain⟨r1,r2,h1,h2,h3⟩:=h;obtain⟨_,c,f,o,e1,e2,_,n,e3⟩:=(show kI _ _ H s.heap b (.tup [.ref r1,.ref r2])from I.hok b _ h1);obtain⟨j,m,rfl,g,d⟩:=vals2 f
 cases g
 cases d
 exact⟨o,n,r1,r2,e1,e2,e3,WN I h2,WN I h3⟩
def Ww(I:Inv X pins σ H s)(e:H a=some (.ext<|vZ a xs))(J:∀x∈xs,tX H x.2.1 x.1):(a == sysModules)=false/\xs.length<=sizeLine/\s.heap.DictOfH (A2 X.prog X.w) a xs:=by
 obtain⟨⟨h1,h2,o,es,ep,h3,c,f,d,j⟩,_⟩:=(show kI _ _ H s.heap a (.ext<|vZ a xs)from I.hok a _ e);exact⟨h1,h2,o,es,ep,h3,c,f,d,λx g=>DB I<|J x g,j⟩
def RZ{P:aj}{w:ah}{H':Hp}{h':aq}(h1:(a == sysModules)=false)(h2:xs.length<=sizeLine)(J:h'.DictOfH (A2 P w) a xs):kI P w H' h' a (.ext<|vZ a xs):=by
 obtain⟨o,es,ep,h3,c,f,d,_,j⟩:=J;refine⟨⟨h1,h2,o,es,ep,h3,c,f,d,j⟩,⟨o,h3⟩,λt B m k=>?_⟩;obtain⟨p,g,o,es,ep,h3,q⟩:=m;exact⟨p,g,o,es,ep,k o h3,q⟩
structure DPg (H:Hp)(a b:ak)(xs:List (ny×ak×af))(k:ny):Prop where
 d:H a=some (.ext<|vZ a xs)
 ks:∀x∈xs,tX H x.2.1 x.1
 k:tX H b k
def FL{xs:List<|ny×ak×af}{k:ny}{b:ak}:(storedH xs k b u).length<=xs.length+1:=by
 unfold storedH;split
 ·rw[aF];lia
 ·rw[bq];exact aP _
def ZY(J:X.A.units+32<cLine):Ho X (λo i v H Q=>∃a b xs k,o=.ref a/\i=.ref b/\DPg H a b xs k/\xs.length<sizeLine/\∀u,RelV v u->Q (upd H a<|.ext<|vZ a<|storedH xs k b u)):=by
 intro pins s σ H o i v C iv u Q I f p t h;obtain⟨a,b,xs,k,rfl,rfl,g,m,q⟩:=h
 cases f
 cases p
 obtain⟨h1,h2,B⟩:=Ww I g.d g.ks;refine wpAny_setItem_heap (hsz:=h2) (show X.A.in1.units+16<cLine by simp;omega) (DB I g.k) B λh' c hs=>⟨_,?_,q u t⟩;have j:∃q,h'.get? a=some q:=let⟨q,_,_,hq,_⟩:=c;⟨q,hq⟩
 exact ye I (by rw[g.d];exact True.intro) hs j<|RZ h1 (bI FL m) c
abbrev YE:TE:=λ_ H Q=>∀p,H p=none->Q (.ref p) (upd H p<|.ext<|vZ p [])
def Od:PE X (.Dict [] [] pos) YE:=λpins s σ H Q I h=>
 wpAny_Dict_empty ⟨.ref s.heap.objs.size,_,I.laid (a:=s.heap.objs.size) (o:=.ext<|vZ s.heap.objs.size []) (t':=s.toks) (λ_ _ q=>aZ _ q) (aP _)
  (RZ (cB.mpr<|Ne.symm<|bD I.big) (bW _) ⟨_,#[],0,bA _ rfl,⟨rfl,rfl,rfl⟩,rfl,rfl,(nofun),cT⟩),rfl,h _<|I.hok.fresh<|aP _⟩
end
end L2
namespace Am
open PySem PySem.Spec PyProof.Rows L2
abbrev pS (S:jB)(n:Nat):Option (List<|ny×A):=match S[n]? with
 | some (.vQ xs)=>some xs
 | _=>none
def qi{n:Nat}(h:pS S n=some xs):S[n]?=some (.vQ xs):=by
 unfold pS at h;split at h
 ·rename_i e;cases h;exact e
 ·cases h
def A4{S:jB}{n:Nat}(h:S[n]?=some (.vQ xs)):pS S n=some xs:=by
 unfold pS;rw[h]
abbrev qp (kvs:List<|ny×A)(k:ny):Option A:=(kvs.find? λkv=>decide<|kv.1=k).map (·.2)
abbrev zl (kvs:List<|ny×A)(k:ny)(v:A):List (ny×A):=
 if (qp kvs k).isSome=true then kvs.map (λkv=>if kv.1=k then(kv.1,v)else kv)else kvs++[(k,v)]
abbrev EU (x:A):Option ny:=match x with
 | .tup [.tup xs,.tup ys]=>(A.ints xs).bind λd=>(A.ints ys).map λc=>(d,c)
 | _=>none
section
variable {K:au}{ρ:ba}{H:Hp}
def MT{p:ny×A}{r:List<|ny×A}{k:ny}(e:p.1=k):qp (p::r) k=some p.2:=by simp[qp,b5,e]
def Mg{p:ny×A}{r:List<|ny×A}{k:ny}(e:¬p.1=k):qp (p::r) k=qp r k:=by simp[qp,b5,e]
theorem DP.look:∀{kvs:List<|ny×A}{ks:List<|ny×ak×af}(k:ny),DP K ρ H kvs ks->(qp kvs k).isSome=(atKey ks k).isSome/\∀x,qp kvs k=some x->∃p v,atKey ks k=some p/\RelV v p.2/\AV K ρ H x v
 | [],[],k,_=>⟨rfl,λx h=>nomatch h⟩
 | p::r,q::r',k,⟨⟨e,_,v,rv,a⟩,t⟩=>by
  by_cases c:p.1=k
  ·have d:q.1=k:=by rw[e,c]
   have b:atKey (q::r') k=some q.2:=by simp[atKey,b5,d]
   rw[MT c,b];exact⟨rfl,λx h=>by cases h;exact⟨_,v,rfl,rv,a⟩⟩
  ·have d:¬q.1=k:=λz=>c<|e.symm.trans z;have b:atKey (q::r') k=atKey r' k:=by simp[atKey,b5,d]
   rw[Mg c,b];exact DP.look k t
theorem DP.repl{x:A}{v:V}(h:AV K ρ H x v)(J:RelV v u)(k:ny):∀{kvs:List<|ny×A}{ks:List<|ny×ak×af},DP K ρ H kvs ks->DP K ρ H (kvs.map λkv=>if kv.1=k then(kv.1,x)else kv) (ks.map<|putAt k u)
 | [],[],_=>trivial
 | p::r,q::r',⟨⟨e,ka,z⟩,t⟩=>by
  refine⟨?_,DP.repl h J k t⟩;dsimp only;unfold putAt;by_cases c:p.1=k
  ·rw[aR c,aR<|by rw[e,c]];exact⟨e,ka,v,J,h⟩
  ·rw[aN c,aN λz=>c<|e.symm.trans z];exact⟨e,ka,z⟩
theorem DP.snoc{x:A}{v:V}{b:ak}(h:AV K ρ H x v)(J:RelV v u)(k:ny)(U:tX H b k):∀{kvs:List<|ny×A}{ks:List<|ny×ak×af},DP K ρ H kvs ks->DP K ρ H (kvs++[(k,x)]) (ks++[(k,b,u)])
 | [],[],_=>⟨⟨rfl,U,v,J,h⟩,trivial⟩
 | p::r,q::r',⟨a,t⟩=>⟨a,DP.snoc h J k U t⟩
def DP.put{x:A}{v:V}{b:ak}(h:AV K ρ H x v)(J:RelV v u)(k:ny)(U:tX H b k){ks:List<|ny×ak×af}(d:DP K ρ H kvs ks):DP K ρ H (zl kvs k x) (storedH ks k b u):=by
 unfold zl storedH;rw[<- (d.look k).1];by_cases c:(qp kvs k).isSome=true
 ·rw[aR c,aR c];exact DP.repl h J k d
 ·rw[aN c,aN c];exact DP.snoc h J k U d
def DP.length:∀{kvs:List<|ny×A}{ks:List<|ny×ak×af},DP K ρ H kvs ks->kvs.length=ks.length
 | [],[],_=>rfl
 | _::_,_::_,⟨_,t⟩=>cH (·+1) t.length
def DP.keys:∀{kvs:List<|ny×A}{ks:List<|ny×ak×af},DP K ρ H kvs ks->∀x∈ks,tX H x.2.1 x.1
 | [],[],_,x,h=>nomatch h
 | _::_,q::_,⟨⟨_,ka,_⟩,t⟩,x,h=>by
  rcases bw.mp h with z|z
  ·rw[z];exact ka
  ·exact t.keys x z
def Rel.vQ{n:Nat}{a:ak}(R:Rel K ρ H S)(ha:ρ[n]?=some a)(hS:S[n]?=some (.vQ xs)):∃vs,H a=some (.ext<|vZ a vs)/\DP K ρ H xs vs:=R.at n a _ ha hS
def Rel.ado{S:jB}{p:ak}(R:Rel K ρ H S)(J:H p=none):Ext ρ (ρ++[p]) H (upd H p<|.ext<|vZ p [])/\Rel K (ρ++[p]) (upd H p<|.ext<|vZ p []) (S++[.vQ []])/\(ρ++[p])[S.length]?=some p:=by
 have ex:Ext ρ (ρ++[p]) H (upd H p<|.ext<|vZ p []):=⟨⟨dO _ _,λa u _ h=>by rw[jK<|jR h J];exact h⟩,λa u h _=>by rw[jK<|jR h J];exact h,λa h=>by
  rcases bJ.mp h with z|z
  ·exact .inl z
  ·have e:a=p:=by simpa using z
   rw[e];exact .inr J⟩
 have g:p∉ρ:=R.CY J;have c:(ρ++[p])[S.length]?=some p:=by rw[<- R.len];simp
 refine⟨ex,⟨by simp[R.len],?_,?_⟩,c⟩
 ·rw[bN];cb_eq;have:b=p:=by simpa using hb
  exact g<|by rw[<- this,<- e];exact ha
 ·intro n a o h1 h2;by_cases hn:n<S.length
  ·rw[bu<|by rw[R.len];exact hn]at h1;rw[bu hn]at h2;have na:a≠p:=λz=>g (by rw[<- z];exact aY h1);have:=R.at n a o h1 h2
   cases o with
   | lst ys=>obtain⟨d,e,q⟩:=this;exact⟨d,by rw[jK na];exact e,q.ext ex⟩
   | dct _|nQ _|dks _|vQ _=>obtain⟨d,e,q⟩:=this;exact⟨d,by rw[jK na];exact e,q.ext ex⟩
   | dcf _|dkf _=>obtain⟨f,d,e,q⟩:=this;exact⟨f,d,by rw[jK na];exact e,q.ext ex⟩
   | ins _ _=>obtain⟨f,j,e⟩:=this;exact⟨f,j,by rw[jK na];exact e⟩
  ·have e:n=S.length:=by
    have:=(aG.mp h2).1;simp at this
    lia
   subst e;rw[c]at h1
   cases h1
   simp at h2;subst h2;exact⟨[],j6,trivial⟩
def Rel.zl{S:jB}{n:Nat}{a:ak}(R:Rel K ρ H S)(ha:ρ[n]?=some a)(hS:S[n]?=some (.vQ xs))(r:DP K ρ H ys ws):Ext ρ ρ H (upd H a<|.ext<|vZ a ws)/\Rel K ρ (upd H a<|.ext<|vZ a ws) (S.set n<|.vQ ys):=by
 obtain⟨k,e,_⟩:=R.at n a _ ha hS;have ex:Ext ρ ρ H (upd H a<|.ext<|vZ a ws):=⟨⟨dN _,λb u i h=>by
  have:b≠a:=by
   intro z;subst z;rw[e]at h;cases h;exact i
  rw[jK this];exact h⟩,λb u h n=>by
  rw[jK λz=>n<|by rw[z];exact aY ha];exact h,λ_ h=>.inl h⟩
 refine⟨ex,by rw[cz];exact R.len,R.nd,λm b o h1 h2=>?_⟩;by_cases f:m=n
 ·subst f;rw[ha]at h1;cases h1;rw[bK (aG.mp hS).1]at h2
  cases h2
  exact⟨ws,j6,r.ext ex⟩
 ·rw[bG<|Ne.symm f]at h2;have nb:b≠a:=λz=>by
   subst z;obtain⟨t,e1⟩:=aG.mp ha;obtain⟨p,e2⟩:=aG.mp h1;exact f<|(cI R.nd).mp<|e2.trans e1.symm
  have:=R.at m b o h1 h2
  cases o with
  | lst ys=>obtain⟨c,d,q⟩:=this;exact⟨c,by rw[jK nb];exact d,q.ext ex⟩
  | dct _|nQ _|dks _|vQ _=>obtain⟨c,d,q⟩:=this;exact⟨c,by rw[jK nb];exact d,q.ext ex⟩
  | dcf _|dkf _=>obtain⟨g,c,d,q⟩:=this;exact⟨g,c,by rw[jK nb];exact d,q.ext ex⟩
  | ins _ _=>obtain⟨g,j,d⟩:=this;exact⟨g,j,by rw[jK nb];exact d⟩
def Lk{x:A}{v:V}{k:ny}(a:AV K ρ H x v)(h:EU x=some k):∃b,v=.ref b/\tX H b k:=by
 unfold EU at h;split at h
 ·rename_i xs ys;obtain⟨B,h1,h⟩:=cy.mp h;obtain⟨t,h2,e⟩:=aQ.mp h;subst e
  cases a with
  | @tup b _ p hb r=>
   obtain⟨C,q,rfl,d,g⟩:=Ja r
   cases d with
   | @tup c1 _ j c r1=>
    cases g with
    | @tup c2 _ f m r2=>
     have e1:=yc r1 h1;have e2:=yc r2 h2;subst e1 e2;exact⟨b,rfl,c1,c2,hb,c,m⟩
 ·cases h
end
section
variable {X:Cx}{pos:Pos}{a:aC}
abbrev FT (o i v:A)(S:jB):R Unit:=match o with
 | .ref n=>opt (pS S n) λc=>opt (EU i) λk=>gd (c.length<sizeLine) (.ok Unit.unit<|S.set n<|.vQ<|zl c k v)
 | _=>.no
abbrev adD (X:Cx):HQ:=λo i v H Q=>∃ρ S f c d,Rel X.K ρ H S/\AV X.K ρ H f o/\AV X.K ρ H c i/\AV X.K ρ H d v/\(FT f c d S).post (λ_ g=>∀ρ' H',Ext ρ ρ' H H'->Rel X.K ρ' H' g->Q H') (XE X ρ H)
def Tu(U:X.A.units+64<cLine):Ho X (adD X):=λpins s σ H o i v t iv u Q I j D F h9=>by
 obtain⟨ρ,S,M,L,J,R,h1,h2,h3,h⟩:=h9
 cases h1 with
 | @ref p n f=>
  obtain⟨g,hn,h⟩:=jI h;obtain⟨k,C,h⟩:=jI h;obtain⟨m,h⟩:=j4 h;obtain⟨ks,e,d⟩:=R.vQ f<|qi hn;obtain⟨q,rfl,c⟩:=Lk h2 C;refine ZY (by omega) pins s σ H _ _ v t iv u Q I j D F ⟨p,q,ks,k,rfl,rfl,⟨e,d.keys,c⟩,by rw[<- d.length];exact m,λK B=>?_⟩;obtain⟨ex,G⟩:=R.zl f (qi hn)<|d.put h3 B k c;exact h _ _ ex G
 | _=>exact h.elim
abbrev VH (co J:Ex):Tg:=λa τ S=>(co τ S).bind λo S1=>(J τ S1).bind λi S2=>(FT o i a S2).bind λ_ S3=>.ok τ S3
def JQ(U:X.A.units+64<cLine){co J:Ex}(Z:AE X o co)(hi:AE X i J)
  (ha:(∀v,assign (.Subscript o i pos) X.env v=(do
   let ov <- holding [v] (eval o X.env)
   let iv <- holding [v,ov] (eval i X.env)
   standAt pos
   holding [v,ov,iv] (setItem ov iv v)
   release [v,ov,iv] []))<|>ζ):AG X (.Subscript o i pos) (VH co J):=PG.imp (Em Z hi (Tu U) ha) λv σ H Q h9=>by
 obtain⟨ρ,S,τ,a,R,r,va,h⟩:=h9;fin2;gp_on;kpf_c
abbrev IU:Ex:=λ_ S=>.ok (.ref S.length)<|S++[.vQ []]
def PN:AE X (.Dict [] [] pos) IU:=PE.imp Od λσ H Q ⟨ρ,S,τ,R,r,h⟩ p d=>by
 obtain⟨ex,f,c⟩:=R.ado d;exact h _ _ _ ex f<|.ref c
end
section
variable {α:Type}
theorem JN:∀{l:List<|ae×α},(l.map Prod.fst).Nodup->∀a∈l,∀b∈l,a.1=b.1->a=b
 | [],_,_,h,_,_,_=>nomatch h
 | x::l,nd,a,ha,b,hb,e=>by
  obtain⟨h1,h2⟩:=bZ.mp nd
  rcases bw.mp ha with g|d
  ·rcases bw.mp hb with f|c
   ·rw[g,f]
   ·subst g;exact absurd (e ▸ e_ c) h1
  ·rcases bw.mp hb with f|c
   ·subst f;exact absurd (e ▸ e_ d) h1
   ·exact JN h2 a d b c e
end
end Am
namespace L2
open PySem PySem.Spec PyProof.Rows
section
variable {X:Cx}
def Zc{H:Hp}{s:aA}{d:ak}{kvs:List<|List Key×V}(I:Inv X pins σ H s)(J:Rd H d<|.dT kvs) :
  ∃(ob:Obj) (es:Array DictEntry) (ep:Nat) (rs:ba),s.heap.get? d=some ob/\ob.cls=.type "dict" /\ ob.data=.dict es ep/\(d == sysModules)=false/\kvs.length<=sizeLine/\rs.length=kvs.length/\es.size=kvs.length /\
   (∀i:Nat,(es[i]?).map (λe:DictEntry=>e.key)=(rs[i]?).map Value.ref)/\∀(i:Nat) r p,rs[i]?=some r->kvs[i]?=some p->H r=some (.tup<|p.1.map kV):=by
 obtain⟨z,m,xs,c,t⟩:=zP I.hok J;obtain⟨ob,es,ep,k,q,B,g,G,F⟩:=id t;obtain⟨j,C⟩:=kt_at c;have f:es.size=xs.length:=by have:=cH List.length g;simpa using this
 refine⟨ob,es,ep,xs.map λy=>y.2.1,k,q.1,B,m,z,by rw[aF,j],by rw[f,j],λi=>?_,λi r p e1 e2=>?_⟩
 ·rw[<- dg,g,aK,aK,eG,eG]
  cases xs[i]?<;>rfl
 ·obtain⟨y,h1,h2,h3,D⟩:=C i p e2;rw[aK,h1]at e1
  cases e1
  exact h3
end
end L2
namespace Am
open PySem PySem.Spec PyProof.Rows L2
section
variable {X:Cx}{pos:Pos}{a b:aC}
abbrev lz (S:jB)(n:Nat):Option (List<|ae×A):=match S[n]? with
 | some (.dct kvs)=>some kvs
 | some (.dcf kvs)=>some kvs
 | _=>none
def DA{K:au}{H:Hp}{n:Nat}{p:ak}(R:Rel K ρ H S)(J:ρ[n]?=some p)(hn:lz S n=some kvs):∃ks,Rd H p (.dT ks)/\DV K ρ H kvs ks:=by
 unfold lz at hn;split at hn
 ·rename_i h
  cases hn
  obtain⟨ks,e,d⟩:=R.at n p _ J h;exact⟨ks,.inl e,d⟩
 ·rename_i h
  cases hn
  obtain⟨o,ks,e,d⟩:=R.at n p _ J h;exact⟨ks,.inr ⟨o,e⟩,d⟩
 ·cases hn
def GJ{H:Hp}{p q:ak}{n:Nat}{ns:ae}(R:Rel X.K ρ H S)(U:ρ[n]?=some p)(hn:lz S n=some kvs)(J:H q=some (.tup vs))(r:AVs X.K ρ H xs vs)(hi:A.ints xs=some ns) :
  ∃ks,DV X.K ρ H kvs ks/\uM H p (.ref q) (pU ks<|ns.map Sum.inl):=by
 obtain⟨ks,e,d⟩:=DA R U hn;have z:=yc r hi;subst z;rw[<- zZ]at J;exact⟨ks,d,.inr ⟨ks,ns.map Sum.inl,q,e,rfl,J,rfl⟩⟩
abbrev zV (x y:A)(S:jB):R A:=match x,y with
 | .ref n,.tup xs=>opt (lz S n) λc=>opt (A.ints xs) λd=>opt (kH c d) λv=>.ok v S
 | _,_=>.no
def aaB(J:X.A.units+64<cLine):SI X (r2 X zV):=λc f pins s σ H x y v u Q I rx ry ⟨ρ,S,a,b,R,va,vb,h⟩ hs=>by
 cases va with
 | @ref p n B=>
  cases vb with
  | @tup q xs F m r=>
   obtain⟨j,hn,h⟩:=jI h;obtain⟨t,C,h⟩:=jI h;obtain⟨z,D,h⟩:=jI h;obtain⟨ks,d,g⟩:=GJ R B hn m r C;obtain⟨w,hw,k⟩:=(d.look t).2 z D;rw[hw]at g;exact Az () c f pins s σ H _ _ v u Q I rx ry ⟨p,w,rfl,g,h _ _ _ .refl R k⟩ hs
  | _=>exact h.elim
 | _=>exact h.elim
def za(Z:X.A.units+64<cLine){J U:Ex}(ha:AE X a J)(hb:AE X b U)(hs:wO b<|>θ):AE X (.Subscript a b pos) (jH zV J U):=PE.imp (GL (aaB Z) ha hb hs) λσ H Q h=>sy h
end
section
variable {X:Cx}
abbrev okK (J:List<|ae):Bool:=J.all (λks=>!ks.isEmpty) && decide (J.length<64)
def Yd{J:List<|ae}(h:∀k∈J,k≠[])(h2:J.length<64):okK J=true:=by
 unfold okK;rw[bg h2,Bool.and_true];exact di.mpr λk c=>by
  cases k with
  | nil=>exact absurd rfl (h _ c)
  | cons _ _=>rfl
def VO{H:Hp}{S:jB}{kvs:List<|ae×A}{ks:List<|List Key×V}{Q:VK}(R:Rel X.K ρ H S)(J:DV X.K ρ H kvs ks)(h:(gd (okK (kvs.map Prod.fst)=true)<|Am.R.ok (A.ref S.length)<|S++[O.lst<|(n8<|kvs.map Prod.fst).map λks=>.tup<|ks.map .int]).post (Cs X ρ H Q)<|XE X ρ H) :
  ks.map (λp=>p.1)=(kvs.map Prod.fst).map (λks=>ks.map Sum.inl)/\(∀k∈kvs.map Prod.fst,k≠[])/\Sx.RO (kvs.map Prod.fst).length /\
  ∀(rs:ba) l g,rs.length=(kvs.map Prod.fst).length->(∀(i:Nat) (r:ak) (ks:ae),rs[i]?=some r->(kvs.map Prod.fst)[i]?=some ks->H r=some (.tup<|ks.map V.int))->H l=none->Sx.Cl g 0 (kvs.map Prod.fst).length->Sx.So (Sx.MV<|kvs.map Prod.fst) g 0 (kvs.map Prod.fst).length ->
   Q (.ref l) (upd H l<|.lst<|((List.range (kvs.map Prod.fst).length).map λi=>rs.getD (g i) 0).map V.ref):=by
 obtain⟨hb,h⟩:=j4 h;unfold okK at hb;rw[cJ]at hb;refine⟨Ke J,λk j z=>?_,Sx.abH<|bE hb.2,λrs l g q f c hc hs=>?_⟩
 ·have:=di.mp hb.1 k j;rw[z]at this
  cases this
 have d:AVs X.K ρ H ((n8<|kvs.map Prod.fst).map λks=>.tup<|ks.map .int) (((List.range (kvs.map Prod.fst).length).map λi=>rs.getD (g i) 0).map V.ref):=by
  rw[<- ZE hc hs,bC,bC];refine Jf λi m=>?_;have lt:=(hc i (bW _)<|c7.mp m).2;have e1:rs[g i]?=some (rs.getD (g i) 0):=by rw[aL,aH ()];rfl
  have e2:(kvs.map Prod.fst)[g i]?=some ((kvs.map Prod.fst).getD (g i) []):=by rw[aL,aH lt];rfl
  exact .tup (f _ _ _ e1 e2)<|tZ _
 exact qU R d .refl h l c
abbrev Aq (x:A)(S:jB):R A:=match x with
 | .ref n=>opt (jV S n) λc=>gd (okK (c.map Prod.fst)=true) (.ok (.ref S.length)<|S++[.lst<|(n8<|c.map Prod.fst).map λks=>.tup<|ks.map .int])
 | _=>.no
def QO(hc:X.calm=true):kG X (.builtin "sorted") (rN X<|f1 Aq):=kG.imp (EL hc) λm H Q h0=>by
 kpc_g;clear h0
 cases hv with
 | ref k=>
  rename_i p n;obtain⟨f,hn,h⟩:=jI h;obtain⟨ks,g,j⟩:=R.dct k<|lN hn;obtain⟨a,b,c,d⟩:=VO R j h;exact⟨p,ks,f.map Prod.fst,rfl,g,a,b,c,d⟩
 | _=>exact h.elim
abbrev yK (x:A)(S:jB):R A:=match x with
 | .ref n=>opt (kc S n) λc=>gd (c.length<64) (.ok (.ref S.length)<|S++[.lst<|(sortI<|c.map Prod.fst).map .int])
 | _=>.no
def Oi(hc:X.calm=true):kG X (.builtin "sorted") (rN X<|f1 yK):=kG.imp (Eb hc) λt H Q h0=>by
 kpc_g;clear h0
 cases hv with
 | ref q=>
  rename_i p n;obtain⟨c,hn,h⟩:=jI h;obtain⟨f,h⟩:=j4 h;obtain⟨ks,k,m⟩:=R.nQ q<|mD hn;refine⟨p,ks,c.map Prod.fst,rfl,k,by rw[m.keys,bC];rfl,Sx.abH<|by rw[aF];exact f,λl g d hc hs=>?_⟩;have j:AVs X.K ρ H ((sortI<|c.map Prod.fst).map .int) ((List.range (c.map Prod.fst).length).map λi=>V.int<|(c.map Prod.fst).getD (g i) 0):=by
   rw[<- Tv hc hs,bC];exact Jf λi _=>.int _
  exact qU R j .refl h l d
 | _=>exact h.elim
end
end Am
namespace L2
open PySem PySem.Spec PyProof.Rows
section
variable {X:Cx}{o e:aC}{es:List aC}{to:TE}{t:TA}{name:Str}{apos cpos:Pos}{T id:String}{r:V->List V->Hp->VK->Prop}
abbrev tBG (ty:V->Hp->Prop)(r:V->List V->Hp->VK->Prop)(to:TE)(t:TA):TE:=λσ H Q=>to σ H λx H1=>ty x H1/\t σ H1 λxs H2=>r x xs H2 Q
def V5{ty:V->Hp->Prop}(hT:∀{pins:bj}{σ:St}{H:Hp}{s:aA}{x:V}{v:af},Inv X pins σ H s->RelV x v->ty x H->s.TypeIs v T/\∀a,v=.ref a->∃ob,s.heap.get? a=some ob/\ob.dict=none)
  (pa:PlainAttrs T) (slot:Slot T name id) (hty:typeOf (.builtin id)=pure (.type "method_descriptor")) (hm:Fy X id r) (ho:PE X o to) (ha:PA X (e::es) t)
  (U:attributeBase o name X.env (eval o X.env)=eval o X.env<|>ε)
  (hfew:(((backTo cpos<|starEach (e::es) X.env).all (λx=>!x.1) && (backToKw cpos<|keywordEach [] X.env).all (λx=>x.1.isSome)
   && decide ((e::es).length+([]:List Keyword).length+(if ([]:List Keyword).isEmpty then 0 else 1)<30))=true)<|>ε)
  (Z:(apos.endLine == cpos.line)=true<|>ε) (hs:starEach (e::es) X.env=(false,eval e X.env)::starEach es X.env<|>ε) (J:((backTo cpos<|starEach es X.env).any (·.1)=false)<|>ε) :
  PE X (.Call (.Attribute o name apos) (e::es) [] cpos) (tBG ty r to t):=by
 kt_k;refine gI U hfew Z rfl<|nA (ho pins s σ H _ I h) λv k h9=>?_;obtain⟨x,H1,I1,r1,c,m⟩:=h9;obtain⟨h1,h2⟩:=hT I1 r1 c;refine⟨T,id,pa,slot,hty,h1,h2,?_⟩;have d:=ha cpos pins k σ H1 _ I1 m;rw[hs]at d ⊢;refine fC (by show(false || (backTo cpos<|starEach es X.env).any (·.1))=false;rw[J]<;>rfl)<|fQ ?_;refine nA d λus p h9=>?_;obtain⟨j,H2,f,r2,g⟩:=h9;exact hm pins p σ H2 x j v us Q f r1 r2 g
abbrev tyP (x:V)(H:Hp):Prop:=∃a xs,x=.ref a/\H a=some (.ext<|vZ a xs)
def Zs{H:Hp}{s:aA}{x:V}{v:af}(I:Inv X pins σ H s)(r:RelV x v)(h:tyP x H):s.TypeIs v "dict" /\ ∀a,v=.ref a->∃ob,s.heap.get? a=some ob/\ob.dict=none:=by
 obtain⟨a,xs,rfl,e⟩:=h
 cases r
 obtain⟨⟨h1,h2,o,es,ep,h3,c,_⟩,_⟩:=(show kI _ _ H s.heap a (.ext<|vZ a xs)from I.hok a _ e);exact⟨⟨o,h3,c.1⟩,λb z=>by cases z;exact⟨o,h3,c.2.1⟩⟩
def abF(J:X.A.units+32<cLine):Fy X "dict.get" (λx as H Q=>∃a b xs k y,x=.ref a/\as=[.ref b,y]/\DPg H a b xs k/\(∀p,atKey xs k=some p->∃v,RelV v p.2/\Q v H)/\(atKey xs k=none->Q y H)):=by
 intro pins s σ H x as v us Q I rx B h;obtain⟨a,b,xs,k,y,rfl,rfl,g,C,f⟩:=h
 cases rx
 obtain⟨t,m,rfl,r1,r2⟩:=vals2 B
 cases(show t=Value.ref b from r1)
 obtain⟨h1,h2,c⟩:=Ww I g.d g.ks;refine ji bP c.typeIs fG (fj _ _ _) (gG (A2 X.prog X.w) a b h1 m) ⟨show X.A.in1.units+16<cLine by simp;lia,k,xs,DB I g.k,c,?_⟩
 cases e:atKey xs k with
 | none=>exact⟨y,H,I.tok _,r2,f e⟩
 | some p=>
  obtain⟨z,j,q⟩:=C p e;exact⟨z,H,I.tok _,j,q⟩
end
end L2
namespace Am
open PySem PySem.Spec PyProof.Rows L2
section
variable {X:Cx}
abbrev dq? (a:A)(S:jB):Option Unit:=match a with
 | .ref n=>(pS S n).map λ_=>Unit.unit
 | _=>none
abbrev YU (f:A->ab->jB->R A)(co:Ex)(d:qu):Ex:=λτ S=>(co τ S).bind λx S1=>opt (dq? x S1) λ_=>(d τ S1).bind λas S2=>f x as S2
def Vw{f:A->ab->jB->R A}{co:Ex}{d:qu}:YU f co d τ S=(co τ S).bind λx S1=>opt (dq? x S1) λ_=>(d τ S1).bind λas S2=>f x as S2:=rfl
def dq?_ty{K:au}{H:Hp}{x:A}{v:V}(R:Rel K ρ H S)(a:AV K ρ H x v)(e:dq? x S=some u):tyP v H:=by
 cases a with
 | @ref p n h=>
  obtain⟨xs,c,_⟩:=aQ.mp e;obtain⟨d,h1,_⟩:=R.vQ h<|qi c;exact⟨p,d,rfl,h1⟩
 | _=>cases e
abbrev C4 (o:A)(as:ab)(S:jB):R A:=match o,as with
 | .ref n,[x,y]=>opt (pS S n) λc=>opt (EU x) λk=>.ok ((qp c k).getD y) S
 | _,_=>.no
def HG{x:A}{P:A->jB->Prop}{E:Str->jB->Prop}(h:(C4 x as S).post P E):∃n w y kvs k,x=.ref n/\as=[w,y]/\pS S n=some kvs/\EU w=some k/\P ((qp kvs k).getD y) S:=by
 unfold C4 at h;split at h
 ·obtain⟨kvs,h1,h⟩:=jI h;obtain⟨k,h2,h⟩:=jI h;exact⟨_,_,_,kvs,k,rfl,rfl,h1,h2,h⟩
 ·exact h.elim
def Xa(U:X.A.units+64<cLine):Fy X "dict.get" (rM X C4):=λpins s σ H x M v us Q I rx D h9=>by
 kln_w;obtain⟨n,w,y,c,k,G,has,hn,B,hP⟩:=HG h;subst G has;obtain⟨N,t,rfl,L,J⟩:=Ja va
 cases vo with
 | @ref p _ K=>
  obtain⟨ks,e,d⟩:=R.vQ K<|qi hn;obtain⟨q,rfl,m⟩:=Lk L B;obtain⟨f,F⟩:=d.look k;refine abF () pins s σ H _ _ v us Q I rx D ⟨p,q,ks,k,t,rfl,rfl,⟨e,d.keys,m⟩,λO e2=>?_,λe2=>?_⟩
  ·cases e1:qp c k with
   | none=>rw[e1,e2]at f;cases f
   | some g=>
    obtain⟨p2,v2,e3,j,C⟩:=F g e1;rw[e2]at e3
    cases e3
    rw[e1]at hP;exact⟨v2,j,hP _ _ _ .refl R C⟩
  ·cases e1:qp c k with
   | none=>rw[e1]at hP;exact hP _ _ _ .refl R J
   | some g=>rw[e1,e2]at f;cases f
def Zf{e:aC}{id:String}{apos cpos:Pos}{f:A->ab->jB->R A}{co:Ex}{d:qu}(slot:Slot "dict" name id)(hty:typeOf (.builtin id)=pure (.type "method_descriptor"))(hm:Fy X id<|rM X f)(ho:AE X o co)(ha:AL X (e::es) d)
  (U:attributeBase o name X.env (eval o X.env)=eval o X.env<|>ε)
  (hfew:(((backTo cpos<|starEach (e::es) X.env).all (λx=>!x.1) && (backToKw cpos<|keywordEach [] X.env).all (λx=>x.1.isSome)
   && decide ((e::es).length+([]:List Keyword).length+(if ([]:List Keyword).isEmpty then 0 else 1)<30))=true)<|>ε)
  (Z:(apos.endLine == cpos.line)=true<|>ε) (hs:starEach (e::es) X.env=(false,eval e X.env)::starEach es X.env<|>ε) (J:((backTo cpos<|starEach es X.env).any (·.1)=false)<|>ε) :
  AE X (.Call (.Attribute o name apos) (e::es) [] cpos) (YU f co d):=PE.imp (V5 Zs fq slot hty hm ho ha U hfew Z hs J) λσ H Q h9=>by
 z_go;kd_p;obtain⟨xs,c,h1⟩:=jI h1;refine⟨dq?_ty R1 v1 c,ρ1,S1,τ,R1,r.ext e1,jE (jL h1) e1 λas S2 h2 ρ2 H2 g e2 R2 v2=>?_⟩;gn_on
end
end Am
namespace L2
open PySem PySem.Spec PyProof.Rows
section
variable {X:Cx}
abbrev Itw (d:ak)(o:Obj)(u:HO)(xs:List V):It:=
 ⟨λi H=>(∃x,xs[i]?=some x)/\H d=some (.frz o u),λi H x H'=>H'=H/\xs[i]?=some x,λi H=>i=xs.length/\H d=some (.frz o u)⟩
def ID{P:aj}{w:ah}{K:au}(d it:ak){o:Obj}{es:Array DictEntry}{xs:List V}(hd:o.data=.dict es ep)(J:es.size=xs.length)
  (U:∀(i:Nat) (x:V) (lt:i<es.size),xs[i]?=some x->RelV x es[i].key):Turn P w K tg (Itw d o u xs) [it] it (λi h=>h.IsKeyIter it d i es.size ep) where
 mem:=aJ ..
 obj:=λi h st b hb=>by
  have:b=it:=by simpa using hb
  subst this;obtain⟨p,h1,h2,h3⟩:=st;exact⟨p,h1,λv z=>by rw[h3]at z;cases z⟩
 keep:=λi h h' st k=>st.at λx e=>k it (aJ ..) x e
 item:=by
  x_go;subst hP hw hK;obtain⟨⟨a,ha⟩,g⟩:=hg;have j:s.heap.get? d=some o:=(show kI _ _ H s.heap d (.frz o u)from I.hok d _ g).1;have lt:i<es.size:=by rw[J];exact(aG.mp ha).1
  have t:=U i a lt ha;obtain⟨f0,f1,f2,f3,f4,f5⟩:=hf it<|aJ ..;refine RJ st j hd lt λh' f B=>?_;have I1:Inv X pins σ H { s with heap:=h' }:=I.turned (t':=s.toks) (λb x hb e=>B.extBut b x hb e) f0 f1 f3 f4 f5;obtain⟨D,e,c,C⟩:=id f;exact⟨_,rfl,G8 (s:={ s with heap:=h' }) e c C ⋯ ⟨a,H,I1,t,⟨rfl,ha⟩,f,λb hb=>(hf b hb).1⟩⟩
 done:=by
  x_go;subst hP hw hK;obtain⟨F,g⟩:=hg;have j:s.heap.get? d=some o:=(show kI _ _ H s.heap d (.frz o u)from I.hok d _ g).1;obtain⟨f0,f1,f2,f3,f4,f5⟩:=hf it<|aJ ..;exact Lf (I.ok.hd hc) st j hd () λh' m=>⟨rfl,I.turned (t':=s.toks) (λb x hb e=>m b x hb e) f0 f1 f3 f4 f5⟩
 self:=λ_ _ _ _ _ st q=>wpAny_pyIter_keyiter st q
abbrev aaT (H:Hp):HO->List V->Prop
 | .dT c,xs=>∃d:ba,xs=d.map V.ref/\d.length=c.length/\∀(i:Nat) r p,d[i]?=some r->c[i]?=some p->H r=some (.tup<|p.1.map kV)
 | .dK c,xs=>xs=c.map λp=>kV p.1
 | _,_=>False
abbrev Zv (to:TE):TI:=λσ H R=>to σ H λx H1=>∃d u,x=.ref d/\((∃c,u=.dT c)\/∃c,u=.dK c)/\Rd H1 d u/\∀(o:Obj) (xs:List V),(∀o',H1 d=some (.frz o' u)->o'=o)->aaT H1 u xs->R (Itw d o u xs) (upd H1 d<|.frz o u)
def pairs_at{P:aj}{w:ah}(h:Pairs (kh P w) es vs):∀(i:Nat) (e:DictEntry) (p:Key×af),es[i]?=some e->vs[i]?=some p->RelV (kV p.1) e.key:=by
 induction h with
 | nil=>intro i e p h1;cases h1
 | cons h1 h2 h3 f=>
  intro i e p d c
  cases i with
  | zero=>
   cases d
   cases c
   rcases lG h1 with⟨j,t,e1,e2⟩|⟨y,t,e1,e2⟩
   ·rw[e1,e2];exact⟨t,rfl⟩
   ·rw[e1,e2];exact⟨t,rfl⟩
  | succ i=>exact f i e p d c
def Uh{kvs:List<|Key×V}{vs:List<|Key×af}(J:KV kvs vs):vs.map (·.1)=kvs.map (·.1):=by
 unfold KV at J
 induction J with
 | nil=>rfl
 | cons h _ c=>rw[bF,bF,c,h.1]
def Sv{H:Hp}{d:ak}(h:H d=some u):upd H d u=H:=by
 funext b
 by_cases e:b=d
 ·subst e;rw[j6,h]
 ·rw[jK e]
def aaq{H:Hp}{s:aA}{d:ak}(I:Inv X pins σ H s)(Z:(∃kvs,u=.dT kvs)\/∃kvs,u=.dK kvs)(U:Rd H d u) :
  ∃(ob:Obj) (es:Array DictEntry) (ep:Nat) (xs:List V),s.heap.get? d=some ob/\ob.cls=.type "dict" /\ ob.data=.dict es ep/\(d == sysModules)=false/\es.size=xs.length/\(∀(i:Nat) (x:V) (lt:i<es.size),xs[i]?=some x->RelV x es[i].key)/\aaT H u xs:=by
 rcases Z with⟨kvs,rfl⟩|⟨kvs,rfl⟩
 ·obtain⟨ob,es,ep,B,g,m,q,J,k,t,G,F,K⟩:=Zc I U;refine⟨ob,es,ep,B.map V.ref,g,m,q,J,by rw[aF,G,t],λi x lt f=>?_,B,rfl,t,K⟩;rw[aK]at f;obtain⟨r,D,rfl⟩:=aQ.mp f;have:=F i;rw[dG lt,D]at this;exact a_ this
 ·obtain⟨z,L,c,j,P⟩:=yi I.hok U;obtain⟨ob,es,ep,g,m,q,_,k,_⟩:=id P;have C:=Uh j;have N:c.length=kvs.length:=by have:=cH List.length C;simpa using this
  have M:es.size=c.length:=by have:=k.length;simpa using this
  refine⟨ob,es,ep,kvs.map (λp:Key×V=>kV p.1),g,m.1,q,L,by rw[aF,M,N],λi x lt f=>?_,rfl⟩;rw[aK]at f;obtain⟨p,O,rfl⟩:=aQ.mp f;have hv:i<c.length:=()
  have e1:=pairs_at k i es[i] c[i] (by rw[dg];exact dG lt) (aH hv);have e2:(c.map (·.1))[i]?=(kvs.map (·.1))[i]?:=by rw[C]
  rw[aK,aK,O,aH hv]at e2;have e3:c[i].1=p.1:=a_ e2;rw[<- e3];exact e1
def Uk{P:aj}{w:ah}{H H':Hp}{h h':aq}{d:ak}(U:(∃kvs,u=.dT kvs)\/∃kvs,u=.dK kvs)(hn:∀b ys,H b=some (.tup ys)->H' b=some (.tup ys))(J:∀b o,h.get? b=some o->h'.get? b=some o)(ok:kI P w H h d u):kI P w H' h' d u:=by
 rcases U with⟨kvs,rfl⟩|⟨kvs,rfl⟩
 ·obtain⟨z,f,xs,c,j,es,ep,k,g⟩:=ok;exact⟨z,f,xs,KT.keeps c hn,j,es,ep,J _ _ k,g⟩
 ·obtain⟨z,f,m,c,j,es,ep,k,g⟩:=ok;exact⟨z,f,m,c,j,es,ep,J _ _ k,g⟩
def Mn{H:Hp}{s:aA}{d:ak}{ob:Obj}(I:Inv X pins σ H s)(U:(∃kvs,u=.dT kvs)\/∃kvs,u=.dK kvs)(J:Rd H d u)(Z:s.heap.get? d=some ob):Inv X pins σ (upd H d<|.frz ob u) s:=by
 rcases J with J|⟨o',J⟩
 ·have c:∀b ys,H b=some (.tup ys)->upd H d (.frz ob u) b=some (.tup ys):=λb ys f=>by
   rw[jK<|WX f J λz=>by rcases U with⟨_,rfl⟩|⟨_,rfl⟩<;>exact nomatch z];exact f
  exact ye (h':=s.heap) (t':=s.toks) (ob:=.frz ob u) I (by rw[J];rcases U with⟨_,rfl⟩|⟨_,rfl⟩<;>exact True.intro) ⟨rfl,λ_ _=>rfl⟩ ⟨ob,Z⟩ ⟨Z,Uk U c (λ_ _ z=>z)<|I.hok d _ J⟩
 ·have:=(show kI _ _ H s.heap d (.frz o' u)from I.hok d _ J).1;rw[Z]at this;have g:=(a_ this);subst g;rw[Sv J];exact I
def GZ{e:aC}{to:TE}(U:PE X e to):PI X tg e (Zv to):=by
 intro pins s σ H R I h;refine nA (U pins s σ H _ I h) λv c h9=>?_;obtain⟨x,H1,I1,r1,d,u,ex,k,m,J⟩:=h9;subst ex
 cases r1
 obtain⟨j,es,ep,xs,f,L,q,D,C,B,F⟩:=aaq I1 k m;refine BH ⟨_,f,L⟩ D f q ?_;have p:∀b o,c.heap.get? b=some o->(c.heap.push { cls:=.type "dict_keyiterator",data:=.fields #[.ref d,.int 0 0,.int es.size 0,.int ep 0]}).get? b=some o:=λb o g=>aZ _ g;have t:Inv X pins σ H1 { c with heap:=c.heap.push { cls:=.type "dict_keyiterator",data:=.fields #[.ref d,.int 0 0,.int es.size 0,.int ep 0]}}:=I1.kept (t':=c.toks) p;have K:∀o',H1 d=some (.frz o' u)->o'=j:=λo' z=>by
  have:=(show kI _ _ H1 c.heap d (.frz o' u)from I1.hok d _ z).1;rw[f]at this;exact(a_ this).symm
 have G:=Mn t k m<|p _ _ f;refine⟨c.heap.objs.size,[c.heap.objs.size],_,Itw d j u xs,_,rfl,G,ID d _ q C B,⟨_,bA _ rfl,rfl,rfl⟩,λb hb=>?_,J j xs K F⟩;have g:b=c.heap.objs.size:=by simpa using hb
 subst g;refine I1.Co (aP _) ?_;rw[jK<|Ne.symm<|bD<|bh f];exact I1.hok.fresh<|aP _
def W_(J:X.A.units<cLine):pL X (compareOp .NotEq) (λx y H Q=>∃a b kvs,x=.ref a/\y=.ref b/\Rd H a (.dK kvs)/\H b=some (.dK [])/\Q (.bl<|!kvs.isEmpty) H):=by
 kj_on;obtain⟨a,b,kvs,rfl,rfl,t,k,q⟩:=h
 cases rx
 cases ry
 obtain⟨z,B,j,c,C⟩:=yi I.hok t;obtain⟨F,g,m,d,f⟩:=Lp I.hok k
 cases d
 have D:kvs.length=j.length:=c.length;refine PySem.W.keq_ne (r:=true) B g C f J (λe=>?_) ⟨.bl<|!kvs.isEmpty,H,I,?_,q⟩
 ·rw[iC e];exact .nil
 ·cases kvs with
  | nil=>cases c;exact rfl
  | cons p r=>cases c;exact rfl
def XS{H:Hp}{s:aA}{x:V}{v:af}(I:Inv X pins σ H s)(r:RelV x v)(h:∃a,x=.ref a/\IsD H a):s.TypeIs v "dict" /\ ∀a,v=.ref a->∃ob,s.heap.get? a=some ob/\ob.dict=none:=by
 obtain⟨a,rfl,d⟩:=h
 cases r
 obtain⟨h1,h2,_⟩:=Y_ I d;exact⟨h1,h2⟩
end
end L2
namespace Am
open PySem PySem.Spec PyProof.Rows L2
abbrev j_ (S:jB)(n:Nat):Option (List<|Int×A):=match S[n]? with
 | some (.nQ kvs)=>some kvs
 | some (.dkf kvs)=>some kvs
 | _=>none
section
variable {K:au}{ρ:ba}{H:Hp}{S:jB}
def yl{n:Nat}{p:ak}(R:Rel K ρ H S)(J:ρ[n]?=some p)(hn:j_ S n=some kvs):∃ks,Rd H p (.dK ks)/\DI K ρ H kvs ks:=by
 unfold j_ at hn;split at hn
 ·rename_i h
  cases hn
  obtain⟨ks,e,d⟩:=R.at n p _ J h;exact⟨ks,.inl e,d⟩
 ·rename_i h
  cases hn
  obtain⟨o,ks,e,d⟩:=R.at n p _ J h;exact⟨ks,.inr ⟨o,e⟩,d⟩
 ·cases hn
def Rel.stl{n:Nat}{a:ak}{ob:Obj}(R:Rel K ρ H S)(ha:ρ[n]?=some a)(hn:n<S.length)(J:Rd H a u)(U:¬Imm u)(fr:∀o',H a=some (.frz o' u)->o'=ob)(new:∀(H':Hp),Ext ρ ρ H H'->H' a=some (.frz ob u)->OR K ρ H' a o') :
  Ext ρ ρ H (upd H a<|.frz ob u)/\Rel K ρ (upd H a<|.frz ob u) (S.set n o'):=by
 have ex:Ext ρ ρ H (upd H a<|.frz ob u):=by
  rcases J with J|⟨o',J⟩
  ·exact⟨⟨dN _,λb j i h=>by
    have:b≠a:=by
     intro z;subst z;rw[J]at h;cases h;exact U i
    rw[jK this];exact h⟩,λb j h nb=>by
    rw[jK λz=>nb<|by rw[z];exact aY ha];exact h,λ_ h=>.inl h⟩
  ·have g:=fr o' J;subst g;rw[Sv J];exact .refl
 refine⟨ex,by rw[cz];exact R.len,R.nd,λm b o h1 h2=>?_⟩;by_cases U:m=n
 ·subst U;rw[ha]at h1;cases h1;rw[bK hn]at h2
  cases h2
  exact new _ ex j6
 ·rw[bG<|Ne.symm U]at h2;have nb:b≠a:=λz=>by
   subst z;obtain⟨t,e1⟩:=aG.mp ha;obtain⟨p,e2⟩:=aG.mp h1;exact U<|(cI R.nd).mp<|e2.trans e1.symm
  have:=R.at m b o h1 h2
  cases o with
  | lst ys=>obtain⟨c,d,q⟩:=this;exact⟨c,by rw[jK nb];exact d,q.ext ex⟩
  | dct _|nQ _|dks _|vQ _=>obtain⟨c,d,q⟩:=this;exact⟨c,by rw[jK nb];exact d,q.ext ex⟩
  | dcf _|dkf _=>obtain⟨f,c,d,q⟩:=this;exact⟨f,c,by rw[jK nb];exact d,q.ext ex⟩
  | ins _ _=>obtain⟨f,k,d⟩:=this;exact⟨f,k,by rw[jK nb];exact d⟩
def AD{n:Nat}(h:j_ S n=some kvs):n<S.length:=by
 rcases gP n S.length with z|z
 ·exact z
 ·unfold j_ at h;rw[cF z]at h;cases h
def NX{n:Nat}(h:lz S n=some kvs):n<S.length:=by
 rcases gP n S.length with z|z
 ·exact z
 ·unfold lz at h;rw[cF z]at h;cases h
end
section
variable {X:Cx}{pos:Pos}{a b:aC}
abbrev Cj (x y:A)(S:jB):R A:=match x,y with
 | .ref n,.int k=>opt (j_ S n) λc=>opt (lD c k) λv=>.ok v S
 | _,_=>.no
def MZ{x:A}{P:A->jB->Prop}{E:Str->jB->Prop}(h:(Cj x y S).post P E):∃n k kvs v,x=.ref n/\y=.int k/\j_ S n=some kvs/\lD kvs k=some v/\P v S:=by
 unfold Cj at h;split at h
 ·obtain⟨kvs,h1,h⟩:=jI h;obtain⟨v,h2,h⟩:=jI h;exact⟨_,_,kvs,v,rfl,rfl,h1,h2,h⟩
 ·exact h.elim
def aaQ(J:X.A.units+64<cLine):SI X (r2 X Cj):=λc f pins s σ H x y v u Q I rx ry ⟨ρ,S,a,b,R,va,vb,h⟩ hs=>by
 obtain⟨n,k,j,z,ha,hb,hn,t,hP⟩:=MZ h;subst ha hb
 cases vb
 cases va with
 | @ref p _ q=>
  obtain⟨ks,e,d⟩:=yl R q hn;obtain⟨w,hw,m⟩:=(d.look k).2 z t;have g:uM H p (kV<|Sum.inl k) (pU ks<|Sum.inl k):=.inl ⟨ks,Sum.inl k,e,rfl,rfl⟩;rw[hw]at g;exact Az () c f pins s σ H _ _ v u Q I rx ry ⟨p,w,rfl,g,hP _ _ _ .refl R m⟩ hs
def EW(Z:X.A.units+64<cLine){J U:Ex}(ha:AE X a J)(hb:AE X b U)(hs:wO b<|>θ):AE X (.Subscript a b pos) (jH Cj J U):=PE.imp (GL (aaQ Z) ha hb hs) λσ H Q h=>sy h
abbrev dr? (a:A)(S:jB):Option Unit:=match a with
 | .ref n=>if ((j_ S n).isSome || (lz S n).isSome)=true then some Unit.unit else none
 | _=>none
abbrev yf (f:A->ab->jB->R A)(co:Ex)(d:qu):Ex:=λτ S=>(co τ S).bind λx S1=>opt (dr? x S1) λ_=>(d τ S1).bind λas S2=>f x as S2
def z0{f:A->ab->jB->R A}{co:Ex}{d:qu}:yf f co d τ S=(co τ S).bind λx S1=>opt (dr? x S1) λ_=>(d τ S1).bind λas S2=>f x as S2:=rfl
def dr?_ty{K:au}{H:Hp}{x:A}{v:V}(R:Rel K ρ H S)(a:AV K ρ H x v)(e:dr? x S=some u):∃a,v=.ref a/\IsD H a:=by
 cases a with
 | @ref p n h=>
  refine⟨p,rfl,?_⟩
  cases h1:j_ S n with
  | some c=>obtain⟨ks,e,_⟩:=yl R h h1;exact .inl ⟨ks,e⟩
  | none=>
   cases h2:lz S n with
   | some c=>obtain⟨ks,e,_⟩:=DA R h h2;exact .inr ⟨ks,e⟩
   | none=>
    have e:(if ((j_ S n).isSome || (lz S n).isSome)=true then some Unit.unit else none)=some u:=e;rw[h1,h2]at e;cases e
 | _=>cases e
def xE{e:aC}{id:String}{apos cpos:Pos}{f:A->ab->jB->R A}{co:Ex}{d:qu}(slot:Slot "dict" name id)(hty:typeOf (.builtin id)=pure (.type "method_descriptor"))(hm:Fy X id<|rM X f)(ho:AE X o co)(ha:AL X (e::es) d)
  (U:attributeBase o name X.env (eval o X.env)=eval o X.env<|>ε)
  (hfew:(((backTo cpos<|starEach (e::es) X.env).all (λx=>!x.1) && (backToKw cpos<|keywordEach [] X.env).all (λx=>x.1.isSome)
   && decide ((e::es).length+([]:List Keyword).length+(if ([]:List Keyword).isEmpty then 0 else 1)<30))=true)<|>ε)
  (Z:(apos.endLine == cpos.line)=true<|>ε) (hs:starEach (e::es) X.env=(false,eval e X.env)::starEach es X.env<|>ε) (J:((backTo cpos<|starEach es X.env).any (·.1)=false)<|>ε) :
  AE X (.Call (.Attribute o name apos) (e::es) [] cpos) (yf f co d):=PE.imp (V5 XS fq slot hty hm ho ha U hfew Z hs J) λσ H Q h9=>by
 z_go;kd_p;obtain⟨xs,c,h1⟩:=jI h1;refine⟨dr?_ty R1 v1 c,ρ1,S1,τ,R1,r.ext e1,jE (jL h1) e1 λas S2 h2 ρ2 H2 g e2 R2 v2=>?_⟩;gn_on
abbrev u7 (o:A)(as:ab)(S:jB):R A:=match o,as with
 | .ref n,[.int k,y]=>opt (j_ S n) λc=>.ok ((lD c k).getD y) S
 | _,_=>.no
def HU{x:A}{P:A->jB->Prop}{E:Str->jB->Prop}(h:(u7 x as S).post P E):∃n k y kvs,x=.ref n/\as=[.int k,y]/\j_ S n=some kvs/\P ((lD kvs k).getD y) S:=by
 unfold u7 at h;split at h
 ·obtain⟨kvs,h1,h⟩:=jI h;exact⟨_,_,_,kvs,rfl,rfl,h1,h⟩
 ·exact h.elim
def DX(U:X.A.units+64<cLine):Fy X "dict.get" (rM X u7):=λpins s σ H x J v us Q I rx m h9=>by
 kln_w;obtain⟨n,k,y,d,t,has,hn,hP⟩:=HU h;subst t has;obtain⟨O,L,rfl,G,C⟩:=Ja va
 cases G
 cases vo with
 | @ref p _ F=>
  obtain⟨ks,h1,B⟩:=yl R F hn
  cases rx
  obtain⟨M,K,rfl,r1,r2⟩:=vals2 m;refine Im () I (.inl ⟨ks,Sum.inl k,h1,rfl,rfl⟩) r1 r2 λN s' g c=>⟨_,H,g,c,hP _ _ _ .refl R ?_⟩;obtain⟨f,q⟩:=B.look k
  cases e1:lD d k with
  | none=>
   rw[e1]at f
   cases e2:pU ks (Sum.inl k:Key)with
   | none=>exact C
   | some _=>rw[e2]at f;cases f
  | some j=>
   obtain⟨v1,e2,D⟩:=q j e1;rw[e2];exact D
abbrev w6 (o:A)(as:ab)(S:jB):R A:=match o,as with
 | .ref n,[.tup xs,y]=>opt (lz S n) λc=>opt (A.ints xs) λk=>.ok ((kH c k).getD y) S
 | _,_=>.no
def HH{x:A}{P:A->jB->Prop}{E:Str->jB->Prop}(h:(w6 x as S).post P E):∃n xs y kvs k,x=.ref n/\as=[.tup xs,y]/\lz S n=some kvs/\A.ints xs=some k/\P ((kH kvs k).getD y) S:=by
 unfold w6 at h;split at h
 ·obtain⟨kvs,h1,h⟩:=jI h;obtain⟨k,h2,h⟩:=jI h;exact⟨_,_,_,kvs,k,rfl,rfl,h1,h2,h⟩
 ·exact h.elim
def IC(Z:X.A.units+64<cLine):Fy X "dict.get" (rM X w6):=λpins s σ H x O v us Q I rx B h9=>by
 kln_w;obtain⟨n,xs,y,d,k,D,has,hn,t,hP⟩:=HH h;subst D has;obtain⟨Y,T,rfl,N,J⟩:=Ja va
 cases N with
 | @tup q _ W C K=>
 cases vo with
 | @ref p _ M=>
  obtain⟨ks,F,g⟩:=GJ R M hn C K t
  cases rx
  obtain⟨U,P,rfl,r1,r2⟩:=vals2 B;refine Im () I g r1 r2 λV s' j c=>⟨_,H,j,c,hP _ _ _ .refl R ?_⟩;obtain⟨f,G⟩:=F.look k
  cases e1:kH d k with
  | none=>
   rw[e1]at f
   cases e2:pU ks (k.map Sum.inl)with
   | none=>exact J
   | some _=>rw[e2]at f;cases f
  | some m=>
   obtain⟨v1,e2,L⟩:=G m e1;rw[e2];exact L
abbrev adP (a:A)(S:jB):R Src:=match a with
 | .ref n=>opt (lz S n) λc=>.ok (o8<|c.map keA) (S.set n<|.dcf c)
 | _=>.no
abbrev MA (c:Ex):Ic:=λτ S=>(c τ S).bind λa S1=>adP a S1
def BG{e:aC}{c:Ex}(ha:AE X e c):AI X tg e (MA c):=λpins s σ H Q I h9=>by
 z_go;refine GZ ha pins s σ H Q I ⟨ρ,S,τ,R,r,jE (jL h) .refl λx S1 h1 ρ1 H1 v e1 R1 v1=>?_⟩
 cases v1 with
 | @ref p n t=>
  obtain⟨d,hn,h1⟩:=jI h1;obtain⟨ks,m,k⟩:=DA R1 t hn;refine⟨p,.dT ks,rfl,.inl ⟨ks,rfl⟩,m,λo xs L J=>?_⟩;obtain⟨f,rfl,pl,j⟩:=J;obtain⟨ex,R2⟩:=R1.stl (o':=.dcf d) t (NX hn) m (λz=>z) L λH' e K=>⟨o,ks,K,k.ext e⟩;have dl:=k.length;refine h1 ρ1 _ _ (e1.trans ex) R2 ⟨λi S2 H2 ρ2 y e2 R3 g=>?_,λS2 H2 ρ2 e2 R3 _=>⟨?_,e2.im _ _ trivial j6⟩⟩
  ·have g:(d.map keA)[i]?=some y:=g;rw[aK]at g;obtain⟨kv,N,rfl⟩:=aQ.mp g;obtain⟨q,D,O,P⟩:=WC k N;have B:i<f.length:=by rw[pl];exact(aG.mp D).1
   have e4:=j i f[i] q (aH B) D;have G:(f.map V.ref)[i]?=some (.ref f[i]):=by rw[aK,aH B];rfl
   refine⟨⟨⟨.ref f[i],G⟩,e2.im _ _ trivial j6⟩,λT H' M=>?_⟩;obtain⟨rfl,F⟩:=M;rw[G]at F
   cases F
   have C:H' f[i]=some (.tup<|q.1.map kV):=e2.im _ _ trivial<|ex.toExt0.im _ _ trivial e4;rw[O,zZ]at C;exact⟨.refl,R3,.tup C<|tZ _⟩
  ·show(d.map keA).length=(f.map V.ref).length;rw[aF,aF,dl,pl]
 | _=>exact h1.elim
abbrev ikA (p:Int×A):A:=.int p.1
abbrev adN (a:A)(S:jB):R Src:=match a with
 | .ref n=>opt (j_ S n) λc=>.ok (o8<|c.map ikA) (S.set n<|.dkf c)
 | _=>.no
abbrev ND (c:Ex):Ic:=λτ S=>(c τ S).bind λa S1=>adN a S1
theorem Wh{K:au}{H:Hp}:∀{kvs:List<|Int×A}{ks:List<|Key×V}{i:Nat}{p:Int×A},DI K ρ H kvs ks->kvs[i]?=some p->∃q,ks[i]?=some q/\q.1=Sum.inl p.1
 | [],[],_,_,_,h=>by cases h
 | a::kvs,b::ks,0,p,⟨z,_⟩,h=>by cases h;exact⟨b,rfl,z.1⟩
 | a::kvs,b::ks,i+1,p,⟨_,t⟩,h=>Wh (kvs:=kvs) (ks:=ks) (i:=i) t<|by simpa using h
def FD{e:aC}{c:Ex}(ha:AE X e c):AI X tg e (ND c):=λpins s σ H Q I h9=>by
 z_go;refine GZ ha pins s σ H Q I ⟨ρ,S,τ,R,r,jE (jL h) .refl λx S1 h1 ρ1 H1 v e1 R1 v1=>?_⟩
 cases v1 with
 | @ref p n m=>
  obtain⟨d,hn,h1⟩:=jI h1;obtain⟨ks,k,j⟩:=yl R1 m hn;refine⟨p,.dK ks,rfl,.inr ⟨ks,rfl⟩,k,λo xs D f=>?_⟩;obtain⟨ex,R2⟩:=R1.stl (o':=.dkf d) m (AD hn) k (λz=>z) D λH' e C=>⟨o,ks,C,j.ext e⟩;have dl:=j.length;have f:xs=ks.map λp=>kV p.1:=f;refine h1 ρ1 _ _ (e1.trans ex) R2 ⟨λi S2 H2 ρ2 y e2 R3 g=>?_,λS2 H2 ρ2 e2 R3 _=>⟨?_,e2.im _ _ trivial j6⟩⟩
  ·have g:(d.map ikA)[i]?=some y:=g;rw[aK]at g;obtain⟨kv,G,rfl⟩:=aQ.mp g;obtain⟨q,K,J⟩:=Wh j G;have B:xs[i]?=some (.int kv.1):=by rw[f,aK,K];show some (kV q.1)=_;rw[J];rfl
   refine⟨⟨⟨_,B⟩,e2.im _ _ trivial j6⟩,λL H' F=>?_⟩;obtain⟨rfl,t⟩:=F;rw[B]at t
   cases t
   exact⟨.refl,R3,.int _⟩
  ·show(d.map ikA).length=xs.length;rw[f,aF,aF,dl]
 | _=>exact h1.elim
abbrev Qa (x y:A)(S:jB):R A:=match x,y with
 | .ref n,.ref m=>opt (j_ S n) λc=>opt (kc S m) λd=>gd (d.isEmpty=true) (.ok (.bl<|!c.isEmpty) S)
 | _,_=>.no
def MS{x:A}{P:A->jB->Prop}{E:Str->jB->Prop}(h:(Qa x y S).post P E):∃n m kvs,x=.ref n/\y=.ref m/\j_ S n=some kvs/\kc S m=some []/\P (.bl<|!kvs.isEmpty) S:=by
 unfold Qa at h;split at h
 ·obtain⟨kvs,h1,h⟩:=jI h;obtain⟨c,h2,h⟩:=jI h;obtain⟨h3,h⟩:=j4 h;rw[List.isEmpty_iff.mp h3]at h2;exact⟨_,_,kvs,rfl,rfl,h1,h2,h⟩
 ·exact h.elim
def aa2(J:X.A.units+64<cLine):pL X (compareOp .NotEq) (r2 X Qa):=λpins s σ H x y v u Q I rx ry h9=>by
 w_up;obtain⟨n,m,c,ha,hb,hn,g,hP⟩:=MS h;subst ha hb
 cases va with
 | @ref p _ t=>
 cases vb with
 | @ref q _ j=>
  obtain⟨ks,h1,k⟩:=yl R t hn;obtain⟨f,h2,d⟩:=R.nQ j<|mD g;have e2:f=[]:=by
   have:=d.length;exact iC this.symm
  subst e2;have e3:c.isEmpty=ks.isEmpty:=by
   have:=k.length
   cases c<;>cases ks<;>first|rfl|(simp at this)
  rw[e3]at hP;exact W_ () pins s σ H _ _ v u Q I rx ry ⟨p,q,ks,rfl,rfl,h1,h2,hP _ _ _ .refl R<|.bl _⟩
def Rel.aaC{K:au}{H:Hp}{S:jB}{D:ak}(R:Rel K ρ H S)(J:H D=some (.dK us))(hn:D∉ρ)(r:DI K ρ H xs vs):Ext0 ρ (ρ++[D]) H (upd H D<|.dK vs)/\Rel K (ρ++[D]) (upd H D<|.dK vs) (S++[.nQ xs])/\(ρ++[D])[S.length]?=some D:=by
 have ex:Ext0 ρ (ρ++[D]) H (upd H D<|.dK vs):=⟨dO _ _,λb u i h=>by
  have:b≠D:=by
   intro z;subst z;rw[J]at h;cases h;exact i
  rw[jK this];exact h⟩
 have c:(ρ++[D])[S.length]?=some D:=by rw[<- R.len];simp
 refine⟨ex,⟨by simp[R.len],?_,λn a o h1 h2=>?_⟩,c⟩
 ·rw[bN];cb_eq;have:b=D:=by simpa using hb
  exact hn<|by rw[<- this,<- e];exact ha
 ·by_cases hs:n<S.length
  ·rw[bu<|by rw[R.len];exact hs]at h1;rw[bu hs]at h2;have na:a≠D:=λz=>hn (by rw[<- z];exact aY h1);have:=R.at n a o h1 h2
   cases o with
   | lst ys=>obtain⟨d,e,q⟩:=this;exact⟨d,by rw[jK na];exact e,AVs.l8 ex q⟩
   | dct _|nQ _|dks _|vQ _=>obtain⟨d,e,q⟩:=this;exact⟨d,by rw[jK na];exact e,q.l8 ex⟩
   | dcf _|dkf _=>obtain⟨f,d,e,q⟩:=this;exact⟨f,d,by rw[jK na];exact e,q.l8 ex⟩
   | ins _ _=>obtain⟨f,g,e⟩:=this;exact⟨f,g,by rw[jK na];exact e⟩
  ·have e:n=S.length:=by
    have:=(aG.mp h2).1;simp at this
    lia
   subst e;rw[c]at h1
   cases h1
   simp at h2;subst h2;exact⟨vs,j6,r.l8 ex⟩
abbrev ZR (J cv:Ex):Ex:=λτ S=>(J τ S).bind λk S1=>(cv τ S1).bind λv S2=>match k with
 | .int i=>.ok (.ref S2.length) (S2++[.nQ [(i,v)]])
 | _=>.no
abbrev VZ (J cv cl U:Ex):Ex:=λτ S=>(J τ S).bind λk S1=>(cv τ S1).bind λv S2=>(cl τ S2).bind λl S3=>(U τ S3).bind λw c=>match k,l with
 | .int i,.int j=>.ok (.ref c.length) (c++[.nQ<|sO [(i,v)] j w])
 | _,_=>.no
def Ve{J cv cl U:Ex}:VZ J cv cl U τ S=(J τ S).bind λk S1=>(cv τ S1).bind λv S2=>(cl τ S2).bind λl S3=>(U τ S3).bind λw S4=>match k,l with
 | .int i,.int j=>.ok (.ref S4.length) (S4++[.nQ<|sO [(i,v)] j w])
 | _,_=>.no:=rfl
def GV{H H2:Hp}{S:jB}{p:ak}{Q:VK}(J:H p=none)(e:Ext ρ ρ2 (upd H p<|.dK []) H2)(e0:Ext ρ ρ H<|upd H p<|.dK [])(U:p∉ρ)(R2:Rel X.K ρ2 H2 S)(r:DI X.K ρ2 H2 xs vs)
  (h:∀ρ' H' v,Ext ρ ρ' H H'->Rel X.K ρ' H' (S++[.nQ xs])->AV X.K ρ' H' (.ref S.length) v->Q v H'):H2 p=some (.dK [])/\Q (.ref p) (upd H2 p<|.dK vs):=by
 have d:H2 p=some (.dK []):=e.fr p _ j6 U;have f:p∉ρ2:=λk=>(e.nw p k).elim U λz=>by rw[j6]at z;cases z
 refine⟨d,?_⟩;obtain⟨e3,R3,j⟩:=R2.aaC d f r;refine h _ _ _ ⟨⟨(e0.trans e).pre.trans e3.pre,λc u i hc=>e3.im c u i<|(e0.trans e).im c u i hc⟩,λc u hc g=>?_,λc hc=>?_⟩ R3 (.ref j)
 ·rw[jK<|jR hc J];exact(e0.trans e).fr c u hc g
 ·rcases bJ.mp hc with z|z
  ·exact(e0.trans e).nw c z
  ·have:c=p:=by simpa using z
   rw[this];exact .inr J
def Xi{k v:aC}{J cv:Ex}(U:AE X k J)(hv:AE X v cv):AE X (.Dict [some k] [v] pos) (ZR J cv):=PE.imp (Kc (Bs U hv Js) rfl rfl (by simp)<|show 1<=15 by decide) λσ H Q ⟨ρ,S,τ,R,r,h⟩ p d=>by
 obtain⟨e0,f⟩:=R.im (u:=.dK []) d;have g:p∉ρ:=R.CY d;refine⟨ρ,S,τ,f,r.ext e0,jE (jL h) e0 λa S1 h1 ρ1 H1 x e1 R1 v1=>⟨ρ1,S1,τ,R1,(r.ext e0).ext e1,jE (jL h1) (e0.trans e1) λb S2 h2 ρ2 H2 y e2 R2 v2=>?_⟩⟩;have c:=e1.trans e2
 cases v1.ext e2 with
 | int i=>
  obtain⟨j,m⟩:=GV (xs:=[(i,b)]) (vs:=[(Sum.inl i,y)]) d c e0 g R2 ⟨⟨rfl,v2⟩,trivial⟩ h2;exact⟨j,[(Sum.inl i,y)],rfl,(show 1<=15 by decide),m⟩
 | _=>exact h2.elim
def YC{k v l w:aC}{U cv cl Z:Ex}(hk:AE X k U)(hv:AE X v cv)(hl:AE X l cl)(hw:AE X w Z):AE X (.Dict [some k,some l] [v,w] pos) (VZ U cv cl Z):=PE.imp (Kc (Bs hk hv<|Bs hl hw Js) rfl rfl (by simp)<|show 2<=15 by decide) λσ H Q ⟨ρ,S,τ,R,r,h⟩ p q=>by
 obtain⟨e0,C⟩:=R.im (u:=.dK []) q;have D:p∉ρ:=R.CY q;refine⟨ρ,S,τ,C,r.ext e0,jE (jL h) e0 λa S1 h1 ρ1 H1 x e1 R1 v1=>⟨ρ1,S1,τ,R1,(r.ext e0).ext e1,jE (jL h1) (e0.trans e1) λb S2 h2 ρ2 H2 y e2 R2 v2=>?_⟩⟩;have f:=e1.trans e2;refine⟨ρ2,S2,τ,R2,(r.ext e0).ext f,jE (jL h2) (e0.trans f) λc S3 h3 ρ3 H3 O e3 R3 B=>⟨ρ3,S3,τ,R3,((r.ext e0).ext f).ext e3,jE (jL h3) ((e0.trans f).trans e3) λd M m K N t e4 J L=>?_⟩⟩;have g:=e3.trans e4
 cases v1.ext (e2.trans g)with
 | int i=>
  cases B.ext e4 with
  | int j=>
   obtain⟨F,G⟩:=GV (xs:=sO [(i,b)] j d) (vs:=putK [(Sum.inl i,y)] (Sum.inl j) t) q (f.trans g) e0 D J (DI.put L j ⟨⟨rfl,v2.ext g⟩,trivial⟩) m;exact⟨F,[(Sum.inl i,y),(Sum.inl j,t)],rfl,(show 2<=15 by decide),G⟩
  | _=>exact m.elim
 | _=>exact m.elim
end
end Am
namespace K69
open PySem L2 Am
abbrev top (i:Nat):aE:=PySem.Challenge.pw_undercells_k69_number_tables.main.body.getD i<|.Pass ⟨0,0,0,0⟩
meta abbrev xB:aE:=top 5
meta abbrev xU:am:=["thing"]
meta abbrev xy:am:=["thing"]
abbrev xG:Sm:=
 lH (Mv (jZ (f2 A5)<|jy (jx 0)<|jy (eC<|.ty "int") jG)<|UT<|jZ (f2 A5)<|jy (jx 0)<|jy (eC<|.ty "bool") jG)
abbrev rH:ab->jB->R A:=kX xU xG
meta abbrev vt:aE:=top 6
meta abbrev v_:am:=["one", "other"]
meta abbrev vA:am:=["one", "other"]
abbrev vK:Sm:=
 vg (qh<|jH (s_ true) (jZ (f1 nL)<|jy (jx 0) jG)<|jZ (f1 nL)<|jy (jx 1) jG)
 (sNo)
 pO
abbrev qo:ab->jB->R A:=kX v_ vK
meta abbrev sD:aE:=top 7
meta abbrev sM:am:=["n", "thing"]
meta abbrev sL:am:=["n", "thing"]
abbrev sY:Sm:=
 lH (Mv (eFn rH<|jy (jx 1) jG)<|eCh aLe aLt (eC<|.int 1) (jx 1)<|jx 0)
abbrev n6:ab->jB->R A:=kX sM sY
meta abbrev oH:aE:=top 8
meta abbrev oF:am:=["order", "i", "j", "things"]
meta abbrev oB:am:=["order", "i", "j"]
abbrev oE:Sm:=
 jT (j7 (jZ (f1 xo)<|jy (jx 0) jG)<|jX 3)
 (jT (j7 (sQ<|jy (jH m_ (jx 3)<|jH aSub (jx 2)<|eC<|.int 1)<|jy (jH m_ (jx 3)<|jH aSub (jx 1)<|eC<|.int 1) jG)<|x_ 2<|pM (V6 (jx 3)<|jH aSub (jx 1)<|eC<|.int 1)<|pM (V6 (jx 3)<|jH aSub (jx 2)<|eC<|.int 1) xZ)
 (lH<|jZ (f1 zH)<|jy (jx 3) jG))
abbrev lI:ab->jB->R A:=kX oF oE
meta abbrev vL:aE:=top 9
meta abbrev we:am:=["order", "k"]
meta abbrev sj:am:=["order", "k"]
abbrev vY:Sm:=
 jT (vg (Hq<|u_<|eFn n6<|jy (jZ (f1 nL)<|jy (jx 0) jG)<|jy (jx 1) jG)
 (sNo)
 pO)
 (lH<|eFn lI<|jy (jx 0)<|jy (jx 1)<|jy (jH kZ (jx 1)<|eC<|.int 1) jG)
abbrev nH:ab->jB->R A:=kX we vY
meta abbrev Fq:aE:=top 10
meta abbrev E7:am:=["order"]
meta abbrev uz:am:=["order"]
abbrev EM:Sm:=
 lH (j8 [none,some 0] (nZ (eC<|.int 1)<|jZ (f1 nL)<|jy (jx 0) jG) (jX 0) (qh<|jH GB (jH m_ (jx 1)<|jH aSub (jx 0)<|eC<|.int 1)<|jH m_ (jx 1)<|jx 0)<|jx 0)
abbrev nu:ab->jB->R A:=kX E7 EM
meta abbrev qG:aE:=top 12
meta abbrev qE:am:=["numbers"]
meta abbrev oq:am:=["numbers"]
abbrev qH:Sm:=
 lH (j8 [none,some 0] (ly<|jZ (f1 yK)<|jy (jx 0) jG) (jX 0) (qh<|jH (s_ true) (jH BR (jx 1)<|jx 0)<|eC<|.int 0)<|sQ<|jy (jx 0)<|jy (jH BR (jx 1)<|jx 0) jG)
abbrev k9:ab->jB->R A:=kX qE qH
meta abbrev HD:aE:=top 13
meta abbrev Iq:am:=["one", "other", "numbers", "power", "number"]
meta abbrev Ib:am:=["one", "other"]
abbrev yy:Ic:=
 ly (jx 1)
abbrev GU:Sm:=
 j7 (jH kZ (GH w_ (jx 2)<|jy (jx 3)<|jy (eC<|.int 0) jG)<|jx 4) (GC (jx 2)<|jx 3)
abbrev Io:Sm:=
 jT (j7 (jZ (f1 DQ)<|jy (jx 0) jG)<|jX 2)
 (jT (ku yy (x_ 2<|pM (jX 3)<|pM (jX 4) xZ)
 GU)
 (lH<|eFn k9<|jy (jx 2) jG))
abbrev Bc:ab->jB->R A:=kX Iq Io
meta abbrev Fo:aE:=top 14
meta abbrev Ei:am:=["one", "other", "numbers", "power", "number", "high", "many"]
meta abbrev Av:am:=["one", "other"]
abbrev Nl:Ic:=
 ly (jx 1)
abbrev MM:Sm:=
 j7 (jH kZ (GH w_ (jx 2)<|jy (jH kZ (jx 3)<|jx 5)<|jy (eC<|.int 0) jG)<|jH Gx (jx 4)<|jx 6) (GC (jx 2)<|jH kZ (jx 3)<|jx 5)
abbrev Cz:Ic:=
 ly (jx 0)
abbrev CU:Sm:=
 ku Nl (x_ 2<|pM (jX 5)<|pM (jX 6) xZ)
 MM
abbrev DC:Sm:=
 jT (j7 uN<|jX 2)
 (jT (ku Cz (x_ 2<|pM (jX 3)<|pM (jX 4) xZ)
 CU)
 (lH<|eFn k9<|jy (jx 2) jG))
abbrev se:ab->jB->R A:=kX Ei DC
meta abbrev uy:aE:=top 17
meta abbrev ux:am:=["found", "order", "poly"]
meta abbrev pD:am:=["found", "order", "poly"]
abbrev uB:Sm:=
 j7 (eFn Bc<|jy (Zo ZN (jx 0)<|jy (jx 1)<|jy (pN jG) jG)<|jy (jx 2) jG) (Ca (jx 0)<|jx 1)
abbrev kF:ab->jB->R A:=kX ux uB
meta abbrev BD:aE:=top 18
meta abbrev AH:am:=["found"]
meta abbrev wz:am:=["found"]
abbrev Bq:Sm:=
 lH (j8 [none,some 0] (ly<|jZ (f1 Aq)<|jy (jx 0) jG) (jX 0) (u_<|jH zY (jx 1)<|jx 0)<|sQ<|jy (jx 0)<|jy (jH zY (jx 1)<|jx 0) jG)
abbrev pH:ab->jB->R A:=kX AH Bq
meta abbrev vV:aE:=top 19
meta abbrev wm:am:=["one", "other"]
meta abbrev vO:am:=["one", "other"]
abbrev ve:Sm:=
 vg (Hi (u_<|jx 0)<|u_<|jx 1)
 (mC<|eFn qo<|jy (jH m_ (jH m_ (jx 0)<|eC<|.int 0)<|eC<|.int 0)<|jy (jH m_ (jH m_ (jx 1)<|eC<|.int 0)<|eC<|.int 0) jG)
 pO
abbrev qt:ab->jB->R A:=kX wm ve
meta abbrev D8:aE:=top 20
meta abbrev ES:am:=["one", "other", "found", "order", "poly"]
meta abbrev DJ:am:=["one", "other"]
abbrev wQ:Ic:=
 ly (jH kZ (jx 0)<|jx 1)
abbrev wL:Sm:=
 mC (eFn kF<|jy (jx 2)<|jy (jx 3)<|jy (jx 4) jG)
abbrev DG:Sm:=
 jT (mC<|eFn qt<|jy (jx 0)<|jy (jx 1) jG)
 (jT (j7 wY<|jX 2)
 (jT (ku wQ (x_ 2<|pM (jX 3)<|pM (jX 4) xZ)
 wL)
 (lH<|eFn pH<|jy (jx 2) jG)))
abbrev u0:ab->jB->R A:=kX ES DG
meta abbrev Bx:aE:=top 21
meta abbrev BP:am:=["poly", "one", "found", "order", "many"]
meta abbrev BO:am:=["poly", "one"]
abbrev uZ:Ic:=
 ly (jx 1)
abbrev uO:Sm:=
 mC (eFn kF<|jy (jx 2)<|jy (jx 3)<|jy (eFn se<|jy (jx 0)<|jy (jx 4) jG) jG)
abbrev BE:Sm:=
 jT (j7 wY<|jX 2)
 (jT (ku uZ (x_ 2<|pM (jX 3)<|pM (jX 4) xZ)
 uO)
 (lH<|eFn pH<|jy (jx 2) jG))
abbrev qY:ab->jB->R A:=kX BP BE
meta abbrev sX:aE:=top 22
meta abbrev sC:am:=["one", "k", "found", "order", "poly"]
meta abbrev sR:am:=["one", "k"]
abbrev n9:Ic:=
 ly (jx 0)
abbrev mW:Sm:=
 jT (mC<|eFn kF<|jy (jx 2)<|jy (eFn nH<|jy (jx 3)<|jy (jx 1) jG)<|jy (jx 4) jG)
 (vg (qh<|jH (Hv false) (jx 1)<|eFn nu<|jy (jx 3) jG)
 (mC<|eFn kF<|jy (jx 2)<|jy (jx 3)<|jy (eFn se<|jy (jZ (f1 xo)<|jy (eC<|.frz<|[((-1:Int),(1:Int)),((1:Int),(-1:Int))].map kA) jG)<|jy (jx 4) jG) jG)
 pO)
abbrev sI:Sm:=
 jT (j7 wY<|jX 2)
 (jT (ku n9 (x_ 2<|pM (jX 3)<|pM (jX 4) xZ)
 mW)
 (lH<|eFn pH<|jy (jx 2) jG))
abbrev mY:ab->jB->R A:=kX sC sI
meta abbrev qx:aE:=top 24
meta abbrev qw:am:=["poly"]
meta abbrev n_:am:=["poly"]
abbrev qC:Sm:=
 lH (GH w_ (jZ (f1 DQ)<|jy (jx 0) jG)<|jy (eC<|.int 1)<|jy (eC<|.int 0) jG)
abbrev k8:ab->jB->R A:=kX qw qC
meta abbrev rJ:aE:=top 26
meta abbrev kW:am:=["order", "k", "known", "less", "told", "lower", "poly", "number"]
meta abbrev nI:am:=["order", "k", "known"]
abbrev p_ (Fs:ab->jB->R A):Ic:=
 ly (jx 3)
abbrev nO (Fs:ab->jB->R A):Sm:=
 jT (j7 (eFn k8<|jy (jx 6) jG)<|jX 7)
 (vg (Hi (qh<|jH (s_ true) (jx 7)<|eC<|.int 0)<|qh<|jH (Hv false) (jx 1)<|eFn nu<|jy (jx 5) jG)
 (j7 (eFn u0<|jy (jx 4)<|jy (eFn qY<|jy (pN<|jy (sQ<|jy (eC<|.int 0)<|jy (WS Cu<|jx 7) jG) jG)<|jy (eFn Fs<|jy (jx 5)<|jy (jx 2) jG) jG) jG)<|jX 4)
 pO)
abbrev kY (Fs:ab->jB->R A):Sm:=
 jT (j7 (eFn Fs<|jy (eFn nH<|jy (jx 0)<|jy (jx 1) jG)<|jy (jx 2) jG)<|jX 3)
 (jT (j7 (eFn u0<|jy (eFn mY<|jy (jx 3)<|jy (jx 1) jG)<|jy (eFn qY<|jy (pN<|jy (sQ<|jy (eC<|.int 1)<|jy (eC<|.int 1) jG) jG)<|jy (jx 3) jG) jG)<|jX 4)
 (jT (ku (p_ Fs) (x_ 2<|pM (jX 5)<|pM (jX 6) xZ)
 (nO Fs))
 (lH<|jx 4)))
meta abbrev qN:aE:=top 25
meta abbrev oV:am:=["order", "known", "ends"]
meta abbrev l9:am:=["order", "known"]
abbrev oZ (Fs:ab->jB->R A):Sm:=
 jT (vg (qh<|jH (HM true) (jx 0)<|jx 1)
 (jT (j7 (eFn nu<|jy (jx 0) jG)<|jX 2)
 (vg (u_<|jx 2)
 (j7 (eFn (kX kW<|kY Fs)<|jy (jx 0)<|jy (jH m_ (jx 2)<|eC<|.int 0)<|jy (jx 1) jG)<|Ca (jx 1)<|jx 0)
 (j7 (pN<|jy (sQ<|jy (jx 0)<|jy (pN<|jy (sQ<|jy (eC<|.int 0)<|jy (eC<|.int 1) jG) jG) jG) jG)<|Ca (jx 1)<|jx 0)))
 pO)
 (lH<|jH zY (jx 1)<|jx 0)
abbrev m8:Nat->ab->jB->R A
 | 0=>λ_ _=>.no
 | k+1=>kX oV<|oZ<|m8 k
abbrev uS:ab->jB->R A:=m8 8
meta abbrev sG:aE:=top 27
meta abbrev sH:am:=["orders", "known", "told", "upper", "lower", "poly", "number"]
meta abbrev sF:am:=["orders"]
abbrev qA:Ic:=
 ly (eFn uS<|jy (jx 3)<|jy (jx 1) jG)
abbrev qy:Sm:=
 jT (j7 (eFn k8<|jy (jx 5) jG)<|jX 6)
 (vg (qh<|jH (s_ true) (jx 6)<|eC<|.int 0)
 (jT (j7 (jx 6)<|VH (jx 2)<|sQ<|jy (jx 4)<|jy (jx 3) jG)
 (j7 (jx 6)<|VH (jx 2)<|sQ<|jy (jx 3)<|jy (jx 4) jG))
 pO)
abbrev qJ:Ic:=
 ly (jx 0)
abbrev oz:Sm:=
 ku qA (x_ 2<|pM (jX 4)<|pM (jX 5) xZ)
 qy
abbrev sJ:Sm:=
 jT (j7 wY<|jX 1)
 (jT (j7 (IU)<|jX 2)
 (jT (ku qJ (jX 3)
 oz)
 (lH<|jx 2)))
abbrev nY:ab->jB->R A:=kX sH sJ
meta abbrev wA:aE:=top 29
meta abbrev vp:am:=["k", "one", "other", "leads", "is_fall"]
meta abbrev wu:am:=["k", "one", "other", "leads"]
abbrev vC:Sm:=
 jT (j7 (jH (Hv false) (jx 0)<|eFn nu<|jy (jx 1) jG)<|jX 4)
 (jT (vg (qh<|jH (s_ false) (jx 1)<|jx 2)
 (lH<|eIf (u_<|jx 4) (eC<|.int 1)<|WS Cu<|eC<|.int 1)
 pO)
 (jT (vg (Z2 (u_<|jx 4)<|qh<|jH (Hv true) (jx 0)<|eFn nu<|jy (jx 2) jG)
 (lH<|eC<|.int 0)
 pO)
 (lH<|YU C4 (jx 3)<|jy (sQ<|jy (jx 1)<|jy (jx 2) jG)<|jy (eC<|.int 0) jG)))
abbrev kR:ab->jB->R A:=kX vp vC
meta abbrev qF:aE:=top 30
meta abbrev qv:am:=["hearth", "leads"]
meta abbrev qB:am:=["hearth"]
abbrev qI:Sm:=
 jT (j7 (eFn nY<|jy (jx 0) jG)<|jX 1)
 (lH<|j8 [none,some 0,some 1] (nZ (eC<|.int 1)<|jZ (f1 nL)<|jy (jH m_ (jx 0)<|eC<|.int 0) jG) (jX 0) nN<|j8 [none,some 0,some 2,some 1] (ly<|jx 1) (jX 0) nN<|j8 [none,some 1,some 0,some 2] (ly<|jx 3) (jX 0) nN<|eFn kR<|jy (jx 1)<|jy (jx 2)<|jy (jx 0)<|jy (jx 3) jG)
abbrev mT:ab->jB->R A:=kX qv qI
meta abbrev xx:aE:=top 32
meta abbrev xO:am:=["_law_script", "_law_k"]
meta abbrev xN:am:=["_law_script", "_law_k"]
abbrev xw:Sm:=
 jT (vg (qh<|jH aLt (jx 1)<|jZ (f1 nL)<|jy (jx 0) jG)
 (lH<|jH m_ (jx 0)<|jx 1)
 pO)
 (lH<|eC<|.int 0)
abbrev rB:ab->jB->R A:=kX xO xw
meta abbrev zA:aE:=top 33
meta abbrev ze:am:=["_law_cell_here", "_law_place", "_law_far"]
meta abbrev zm:am:=["_law_cell_here", "_law_place"]
abbrev zb:Sm:=
 jT (j7 (jZ (f1 ZO)<|jy (jx 0) jG)<|jX 2)
 (jT (vg (qh<|jH aLt (jx 2)<|jH Yk (eC<|.int 10)<|eC<|.int 18)
 (j7 (eC<|.int 0)<|jX 2)
 pO)
 (lH<|pN<|jy (jx 2)<|jy (jH DK (jH kZ (jH kZ (jH wR (jH DK (jx 0)<|eC<|.int 2147483647)<|eC<|.int 69621)<|jH wR (eC<|.int 7919)<|jx 1)<|eC<|.int 13)<|eC<|.int 2147483647) jG))
abbrev t9:ab->jB->R A:=kX ze zb
meta abbrev wC:aE:=top 34
meta abbrev wj:am:=["_law_bag_here"]
meta abbrev v8:am:=["_law_bag_here"]
abbrev vH:Sm:=
 jT (j7 (jH DK (jH kZ (jH wR (jH m_ (jx 0)<|eC<|.int 1)<|eC<|.int 48271)<|eC<|.int 11)<|eC<|.int 2147483647)<|V6 (jx 0)<|eC<|.int 1)
 (lH<|jH Kx (jH DK (jH wR (jH m_ (jx 0)<|eC<|.int 1)<|eC<|.int 16807)<|eC<|.int 2147483629)<|eC<|.int 8)
abbrev oN:ab->jB->R A:=kX wj vH
meta abbrev vh:aE:=top 35
meta abbrev sq:am:=["_law_bag_here", "_law_many", "_law_found", "_law_k"]
meta abbrev rZ:am:=["_law_bag_here", "_law_many"]
abbrev Cf:Ic:=
 t7 (eC<|.int 7)
abbrev Cd:Sm:=
 j7 (jH kZ (jH wR (jx 2)<|eC<|.int 268435399)<|eFn oN<|jy (jx 0) jG) (jX 2)
abbrev rV:Sm:=
 jT (vg (qh<|jH GB (jH m_ (jx 0)<|eC<|.int 0)<|eC<|.int 0)
 (jT (j7 (jH DK (jH m_ (jx 0)<|eC<|.int 0)<|jx 1)<|jX 2)
 (jT (j7 (jH Kx (jH m_ (jx 0)<|eC<|.int 0)<|jx 1)<|V6 (jx 0)<|eC<|.int 0)
 (lH<|jx 2)))
 pO)
 (jT (j7 (eFn oN<|jy (jx 0) jG)<|jX 2)
 (jT (vg (qh<|jH GB (jx 1)<|eC<|.int 1000)
 (ku Cf (jX 3)
 Cd)
 pO)
 (lH<|jH DK (jx 2)<|jx 1)))
abbrev lC:ab->jB->R A:=kX sq rV
meta abbrev vW:aE:=top 36
meta abbrev vR:am:=["_law_bag_here", "_law_n", "_law_left", "_law_found", "_law_k"]
meta abbrev vE:am:=["_law_bag_here", "_law_n"]
abbrev B6:Ic:=
 t7 (jx 1)
abbrev wZ:Sm:=
 mC (CI lV (jx 3)<|jy (CI IK (jx 2)<|jy (eFn lC<|jy (jx 0)<|jy (jZ (f1 nL)<|jy (jx 2) jG) jG) jG) jG)
abbrev wc:Sm:=
 jT (j7 (jZ (f1 xo)<|jy (jZ (f2 D3)<|jy (eC<|.int 1)<|jy (jH kZ (jx 1)<|eC<|.int 1) jG) jG)<|jX 2)
 (jT (j7 (pN jG)<|jX 3)
 (jT (ku B6 (jX 4)
 wZ)
 (lH<|jZ (f1 zH)<|jy (jx 3) jG)))
abbrev oO:ab->jB->R A:=kX vR wc
meta abbrev sP:aE:=top 37
meta abbrev sW:am:=["_law_order_here", "_law_k"]
meta abbrev qg:am:=["_law_order_here", "_law_k"]
abbrev sU:Sm:=
 lH (jZ (f1 zH)<|jy (j8 [none,some 1] (ly<|jx 0) (jX 0) nN<|yf u7 (VZ (jx 1) (jH kZ (jx 1)<|eC<|.int 1) (jH kZ (jx 1)<|eC<|.int 1)<|jx 1)<|jy (jx 0)<|jy (jx 0) jG) jG)
abbrev mh:ab->jB->R A:=kX sW sU
meta abbrev zc:aE:=top 38
meta abbrev yT:am:=["_law_found", "_law_order_here", "_law_poly", "_law_shift", "_law_many", "_law_here", "_law_power"]
meta abbrev wM:am:=["_law_found", "_law_order_here", "_law_poly", "_law_shift", "_law_many"]
abbrev vj:Ic:=
 ND (jx 2)
abbrev r9:Sm:=
 j7 (jH kZ (GH w_ (jx 5)<|jy (jH kZ (jx 6)<|jx 3)<|jy (eC<|.int 0) jG)<|jH Gx (jx 4)<|jH Cj (jx 2)<|jx 6) (GC (jx 5)<|jH kZ (jx 6)<|jx 3)
abbrev yZ:Sm:=
 jT (j7 (yf w6 (jx 0)<|jy (jx 1)<|jy uN jG)<|jX 5)
 (jT (ku vj (jX 6)
 r9)
 (j7 (jx 5)<|Ca (jx 0)<|jx 1))
abbrev mZ:ab->jB->R A:=kX yT yZ
meta abbrev nj:aE:=top 39
meta abbrev ng:am:=["_law_poly", "_law_kept_here", "_law_power"]
meta abbrev lO:am:=["_law_poly"]
abbrev mJ:Ic:=
 ND (jx 0)
abbrev mE:Sm:=
 vg (qh<|jH (s_ true) (jH Cj (jx 0)<|jx 2)<|eC<|.int 0)
 (j7 (jH Cj (jx 0)<|jx 2)<|GC (jx 1)<|jx 2)
 pO
abbrev m9:Sm:=
 jT (j7 uN<|jX 1)
 (jT (ku mJ (jX 2)
 mE)
 (lH<|jx 1))
abbrev kj:ab->jB->R A:=kX ng m9
meta abbrev uG:aE:=top 40
meta abbrev rE:am:=["_law_order_here", "_law_known", "_law_ways", "_law_made", "_law_k", "_law_base", "_law_one", "_law_down", "_law_lower", "_law_low", "_law_found", "_law_some"]
meta abbrev p7:am:=["_law_order_here", "_law_known"]
abbrev qR (Fs:ab->jB->R A):Ic:=
 MA (jx 8)
abbrev qP (Fs:ab->jB->R A):Sm:=
 mC (eFn mZ<|jy (jx 3)<|jy (jx 9)<|jy (jH zV (jx 8)<|jx 9)<|jy (eC<|.int 0)<|jy (jH aSub (eC<|.int 0)<|jH Cj (jH zV (jx 5)<|jx 6)<|eC<|.int 1) jG)
abbrev uR (Fs:ab->jB->R A):Ic:=
 MA (jx 5)
abbrev oS (Fs:ab->jB->R A):Sm:=
 jT (j7 (jH GB (Bf (jx 6)<|jy (jx 4) jG)<|Bf (jx 6)<|jy (jH kZ (jx 4)<|eC<|.int 1) jG)<|jX 7)
 (jT (mC<|eFn mZ<|jy (jx 3)<|jy (eFn mh<|jy (jx 6)<|jy (jx 4) jG)<|jy (jH zV (jx 5)<|jx 6)<|jy (eC<|.int 0)<|jy (eC<|.int 1) jG)
 (jT (mC<|eFn mZ<|jy (jx 3)<|jy (jx 6)<|jy (jH zV (jx 5)<|jx 6)<|jy (jH m_ (pN<|jy (eC<|.int 1)<|jy (WS Cu<|eC<|.int 1) jG)<|jZ (f1 CM)<|jy (jx 7) jG)<|jy (eC<|.int 1) jG)
 (vg (Hi (u_<|jx 7)<|qh<|jH (s_ true) (yf u7 (jH zV (jx 5)<|jx 6)<|jy (eC<|.int 1)<|jy (eC<|.int 0) jG)<|eC<|.int 0)
 (jT (j7 (eFn Fs<|jy (jx 6)<|jy (jx 1) jG)<|jX 8)
 (ku (qR Fs) (jX 9)
 (qP Fs)))
 pO)))
abbrev qT (Fs:ab->jB->R A):Ic:=
 MA (jx 3)
abbrev qS (Fs:ab->jB->R A):Sm:=
 jT (j7 (eFn kj<|jy (jH zV (jx 3)<|jx 6) jG)<|jX 11)
 (vg (qh<|jH Qa (jx 11) uN)
 (j7 (jx 11)<|Ca (jx 10)<|jx 6)
 pO)
abbrev rj (Fs:ab->jB->R A):Sm:=
 jT (vg (qh<|jH (HM false) (jx 0)<|jx 1)
 (lH<|jH zY (jx 1)<|jx 0)
 pO)
 (jT (j7 (j8 [none,some 0] (nZ (eC<|.int 1)<|jZ (f1 nL)<|jy (jx 0) jG) (jX 0) (qh<|jH GB (Bf (jx 1)<|jy (jx 0) jG)<|Bf (jx 1)<|jy (jH kZ (jx 0)<|eC<|.int 1) jG)<|jx 0)<|jX 2)
 (jT (j7 wY<|jX 3)
 (jT (vg (qh<|jH (s_ false) (jx 2)<|pN jG)
 (j7 (ZR (eC<|.int 0)<|eC<|.int 1)<|Ca (jx 3)<|jx 0)
 (jT (j7 (jH m_ (jx 2)<|WS Cu<|eC<|.int 1)<|jX 4)
 (jT (j7 (eFn Fs<|jy (eFn mh<|jy (jx 0)<|jy (jx 4) jG)<|jy (jx 1) jG)<|jX 5)
 (ku (uR Fs) (jX 6)
 (oS Fs)))))
 (jT (j7 wY<|jX 10)
 (jT (ku (qT Fs) (jX 6)
 (qS Fs))
 (jT (j7 (jx 10)<|Ca (jx 1)<|jx 0)
 (lH<|jx 10)))))))
abbrev mK:Nat->ab->jB->R A
 | 0=>λ_ _=>.no
 | k+1=>kX rE<|rj<|mK k
abbrev oG:ab->jB->R A:=mK 8
meta abbrev xq:aE:=top 41
meta abbrev uc:am:=["_law_one", "_law_other", "_law_known", "_law_found"]
meta abbrev xV:am:=["_law_one", "_law_other", "_law_known"]
abbrev uP:Sm:=
 jT (j7 (yf u7 (yf w6 (eFn oG<|jy (jx 1)<|jy (jx 2) jG)<|jy (jx 0)<|jy uN jG)<|jy (eC<|.int 1)<|jy (eC<|.int 0) jG)<|jX 3)
 (jT (vg (qh<|jH (s_ false) (jx 3)<|eC<|.int 0)
 (j7 (yf u7 (yf w6 (eFn oG<|jy (jx 0)<|jy (jx 2) jG)<|jy (jx 1)<|jy uN jG)<|jy (eC<|.int 1)<|jy (eC<|.int 0) jG)<|jX 3)
 pO)
 (lH<|jx 3))
abbrev p5:ab->jB->R A:=kX uc uP
meta abbrev vJ:aE:=top 42
meta abbrev vI:am:=["_law_order_here"]
meta abbrev v5:am:=["_law_order_here"]
abbrev vf:Sm:=
 lH (j8 [none,some 0] (nZ (eC<|.int 1)<|jZ (f1 nL)<|jy (jx 0) jG) (jX 0) (qh<|jH GB (jH m_ (jx 1)<|jH aSub (jx 0)<|eC<|.int 1)<|jH m_ (jx 1)<|jx 0)<|jx 0)
abbrev nB:ab->jB->R A:=kX vI vf
meta abbrev uQ:aE:=top 43
meta abbrev uF:am:=["_law_row_here", "_law_first", "_law_second", "_law_number", "_law_letter", "_law_at", "_law_spots"]
meta abbrev uW:am:=["_law_row_here"]
abbrev nK:Te:=
 qh (jH (IW true) (jx 4)<|eC .non)
abbrev o_:Sm:=
 jT (vg (qh<|jH (s_ false) (jx 5)<|jZ (f1 nL)<|jy (jx 1) jG)
 (jT (mC<|CI lV (jx 1)<|jy (pN jG) jG)
 (mC<|CI lV (jx 2)<|jy (pN jG) jG))
 pO)
 (jT (j7 (j8 [none,some 4,some 1,some 5] (t7<|jZ (f1 nL)<|jy (jH m_ (jx 1)<|jx 5) jG) (jX 0) (qh<|jH GB (jH m_ (jH m_ (jx 2)<|jx 3)<|jx 0)<|jx 1)<|jx 0)<|jX 6)
 (vg (qh<|jH (s_ false) (jx 6)<|pN jG)
 (jT (mC<|CI lV (jH m_ (jx 1)<|jx 5)<|jy (jx 4) jG)
 (jT (mC<|CI lV (jH m_ (jx 2)<|jx 5)<|jy (jH kZ (jx 3)<|eC<|.int 1) jG)
 (j7 (eC .non)<|jX 4)))
 (jT (j7 (sQ<|jy (jH m_ (jH m_ (jx 1)<|jx 5)<|jH m_ (jx 6)<|eC<|.int 0)<|jy (jx 4) jG)<|x_ 2<|pM (jX 4)<|pM (V6 (jH m_ (jx 1)<|jx 5)<|jH m_ (jx 6)<|eC<|.int 0) xZ)
 (j7 (jH kZ (jx 5)<|eC<|.int 1)<|jX 5))))
abbrev rf:Ic:=
 VL (jx 0)
abbrev rG:Sm:=
 jT (j7 (eC<|.int 0)<|jX 5)
 (nS nK
 o_ 1000000)
abbrev uw:Sm:=
 jT (j7 (pN jG)<|jX 1)
 (jT (j7 (pN jG)<|jX 2)
 (jT (ku rf (x_ 2<|pM (jX 3)<|pM (jX 4) xZ)
 rG)
 (lH<|sQ<|jy (jx 1)<|jy (jx 2) jG)))
abbrev kP:ab->jB->R A:=kX uF uw
meta abbrev zz:aE:=top 44
meta abbrev zu:am:=["_law_n", "_law_found", "_law_place", "_law_more", "_law_some"]
meta abbrev zC:am:=["_law_n"]
abbrev zQ:Ic:=
 ly (jx 1)
abbrev wg:Sm:=
 mC (CI Ft (jx 3)<|jy (j8 [none,some 4] (nZ (eC<|.int 1)<|jH kZ (jx 0)<|eC<|.int 1) (jX 0) (qh<|jH (Hv true) (jx 0)<|jx 1)<|jH kZ (jx 1)<|sQ<|jy (jx 0) jG) jG)
abbrev zM:Ic:=
 t7 (jx 0)
abbrev zN:Sm:=
 jT (j7 (pN jG)<|jX 3)
 (jT (ku zQ (jX 4)
 wg)
 (j7 (jx 3)<|jX 1))
abbrev zh:Sm:=
 jT (j7 (pN<|jy (sQ jG) jG)<|jX 1)
 (jT (ku zM (jX 2)
 zN)
 (lH<|jx 1))
abbrev qW:ab->jB->R A:=kX zu zh
meta abbrev vG:aE:=top 45
meta abbrev vF:am:=["_law_thing"]
meta abbrev vD:am:=["_law_thing"]
abbrev vM:Sm:=
 lH (Mv (jZ (f2 A5)<|jy (jx 0)<|jy (eC<|.ty "int") jG)<|UT<|jZ (f2 A5)<|jy (jx 0)<|jy (eC<|.ty "bool") jG)
abbrev nJ:ab->jB->R A:=kX vF vM
meta abbrev u5:aE:=top 46
meta abbrev uT:am:=["_law_order_here"]
meta abbrev uf:am:=["_law_order_here"]
abbrev uE:Sm:=
 lH (j8 [none,some 0] (ly<|eFn qW<|jy (jZ (f1 nL)<|jy (jx 0) jG) jG) (jX 0) (qh<|jH (s_ false) (jH m_ (eFn kP<|jy (jx 0) jG)<|eC<|.int 0)<|jH m_ (eFn kP<|jy (jx 1) jG)<|eC<|.int 0)<|jx 0)
abbrev pI:ab->jB->R A:=kX uT uE
meta abbrev zv:aE:=top 47
meta abbrev y_:am:=["_law_one", "_law_hearth_here", "_law_k", "_law_known", "_law_row_here", "_law_other"]
meta abbrev yV:am:=["_law_one", "_law_hearth_here", "_law_k", "_law_known"]
abbrev wk:Ic:=
 ly (jx 1)
abbrev r_:Sm:=
 vg (qh<|jH (Hv false) (jx 2)<|eFn nB<|jy (jx 0) jG)
 (mC<|CI lV (jx 4)<|jy (jZ (f1 CM)<|jy (jH (s_ false) (jx 5)<|jx 0) jG) jG)
 (vg (qh<|jH (s_ false) (jx 5)<|jx 0)
 (mC<|CI lV (jx 4)<|jy (WS Cu<|eC<|.int 1) jG)
 (vg (qh<|jH (Hv false) (jx 2)<|eFn nB<|jy (jx 5) jG)
 (mC<|CI lV (jx 4)<|jy (eFn p5<|jy (jx 0)<|jy (jx 5)<|jy (jx 3) jG) jG)
 (mC<|CI lV (jx 4)<|jy (eC<|.int 0) jG)))
abbrev zD:Sm:=
 jT (j7 (pN jG)<|jX 4)
 (jT (ku wk (jX 5)
 r_)
 (lH<|jx 4))
abbrev m5:ab->jB->R A:=kX y_ zD
meta abbrev pX:aE:=top 48
meta abbrev pZ:am:=["_law_found", "_law_due", "_law_table"]
meta abbrev p8:am:=["_law_found", "_law_due"]
abbrev oM:Ic:=
 ly (jx 0)
abbrev oA:Sm:=
 jT (vg (Z2 (Hq<|u_<|jZ (f2 A5)<|jy (jx 2)<|jy (eC<|.ty "list") jG)<|Hq<|u_<|jZ (f1 Ih)<|jy (j8 [none] (ly<|jx 2) (jX 0) nN<|jZ (f2 A5)<|jy (jx 0)<|jy (eC<|.ty "list") jG) jG)
 (lH<|eC<|.bl false)
 pO)
 (vg (Hq<|u_<|jZ (f1 Ih)<|jy (j8 [none] (ly<|jx 2) (jX 0) nN<|jZ (f1 Ih)<|jy (j8 [none] (ly<|jx 0) (jX 0) nN<|eFn nJ<|jy (jx 0) jG) jG) jG)
 (lH<|eC<|.bl false)
 pO)
abbrev pY:Sm:=
 jT (vg (Z2 (Hq<|u_<|jZ (f2 A5)<|jy (jx 0)<|jy (eC<|.ty "list") jG)<|qh<|jH (s_ true) (jx 0)<|jx 1)
 (lH<|eC<|.bl false)
 pO)
 (jT (ku oM (jX 2)
 oA)
 (lH<|eC<|.bl true))
abbrev mH:ab->jB->R A:=kX pZ pY
meta abbrev Sy:aE:=top 49
meta abbrev P5:am:=["_law_script", "_law_bag_here", "_law_hearth_here", "_law_known", "_law_due", "_law_handed", "_law_turn", "_law_found", "_law_k", "_law_table", "_law_i", "_law_row_here"]
meta abbrev Wo:am:=["_law_script"]
abbrev Dw:Ic:=
 Ef (jx 9)
abbrev Ej:Sm:=
 mC (CI lV (jx 11)<|jy (jH kZ (jH kZ (jH wR (eC<|.int 100)<|jx 8)<|jx 10)<|eC<|.int 2) jG)
abbrev DT:Ic:=
 Ef (jx 7)
abbrev Kq:Sm:=
 ku Dw (x_ 2<|pM (jX 10)<|pM (jX 11) xZ)
 Ej
abbrev EI:Ic:=
 Ef (jx 4)
abbrev D7:Sm:=
 jT (vg (qh<|jH (s_ true) (jH m_ (jx 7)<|jx 8)<|j8 [none,none,some 8] (Ef<|jx 9) (x_ 2<|pM (jX 0)<|pM (jX 1) xZ) nN<|jH kZ (jx 1)<|pN<|jy (jH kZ (jH kZ (jH wR (eC<|.int 100)<|jx 2)<|jx 0)<|eC<|.int 2) jG)
 (lH<|eC<|.bl false)
 pO)
 (mC<|CI lV (jH m_ (jx 7)<|jx 8)<|jy (pN jG) jG)
abbrev Et:Ic:=
 t7 (eC<|.int 2)
abbrev Ad:Sm:=
 jT (j7 (eFn mT<|jy (jx 5) jG)<|jX 7)
 (jT (vg (Z2 (Hq<|u_<|eFn mH<|jy (jx 7)<|jy (jx 4) jG)<|qh<|jH (s_ true) (jx 5)<|jx 2)
 (lH<|eC<|.bl false)
 pO)
 (jT (ku DT (x_ 2<|pM (jX 8)<|pM (jX 9) xZ)
 Kq)
 (jT (ku EI (x_ 2<|pM (jX 8)<|pM (jX 9) xZ)
 D7)
 (mC<|CI lV (jx 7)<|jy (pN jG) jG))))
abbrev NV:Sm:=
 jT (j7 (eFn t9<|jy (eFn rB<|jy (jx 0)<|jy (eC<|.int 0) jG)<|jy (eC<|.int 1) jG)<|jX 1)
 (jT (j7 (eFn pI<|jy (eFn oO<|jy (jx 1)<|jy (jH m_ (pN<|jy (eC<|.int 4)<|jy (eC<|.int 3)<|jy (eC<|.int 4)<|jy (eC<|.int 2)<|jy (eC<|.int 1)<|jy (eC<|.int 4) jG)<|eFn lC<|jy (jx 1)<|jy (eC<|.int 6) jG) jG) jG)<|jX 2)
 (jT (j7 wY<|jX 3)
 (jT (j7 (j8 [none,some 2,some 3] (nZ (eC<|.int 1)<|jZ (f1 nL)<|jy (jH m_ (jx 2)<|eC<|.int 0) jG) (jX 0) nN<|j8 [none,some 1,some 0,some 2] (ly<|jx 1) (jX 0) nN<|eFn m5<|jy (jx 0)<|jy (jx 1)<|jy (jx 2)<|jy (jx 3) jG)<|jX 4)
 (jT (j7 (jZ (f1 xo)<|jy (jx 2) jG)<|jX 5)
 (jT (ku Et (jX 6)
 Ad)
 (lH<|eC<|.bl true))))))
abbrev Cy:ab->jB->R A:=kX P5 NV
section
variable {P:aj}{w:ah}{K:au}{mg:Str->bb}{base:aq}{f:ak}{fd:FuncData}
def GW:FnScope xU xy (jN xB):=t_ rfl rfl rfl ∅
def GR(F:Fun K "is_whole" "is_whole" xB f fd)(J:mg "isinstance" = none)(U:mg "bool" = none)(Z:mg "int" = none):FnOk P w K mg base qj 1 f fd xy (qK K 1 rH):=uY (m:=xG) F GW λd B c s H E g=>
 jF (j3<|IV (j9 Bb J mq<|jz (jw 0)<|jz (BB Z Ek) jD)<|HB<|QL<|j9 Bb J mq<|jz (jw 0)<|jz (BB U JW) jD)
def Eh:FnScope v_ vA (jN vt):=t_ rfl rfl rfl ∅
def Dl(F:Fun K "need_pair" "need_pair" vt f fd)(J:mg "len" = none):FnOk P w K mg base qj 1 f fd vA (qK K 2 qo):=uY (m:=vK) F Eh λg B c s H E d=>
 jF (lY (kg (Fg d.units) (j9 tu J pT<|jz (jw 0) jD)<|j9 tu J pT<|jz (jw 1) jD)
 (jF<|Wb)
 kB)
def Bg:FnScope sM sL (jN sD):=t_ rfl rfl rfl ∅
def BJ(F:Fun K "is_exchange" "is_exchange" sD f fd)(J:nV P w K mg base 1 "is_whole" xy rH):FnOk P w K mg base qj 2 f fd sL (qK K 2 n6):=uY (m:=sY) F Bg λg B c s H E d=>
 jF (j3<|IV (Ci J d<|jw 1)<|HB<|aas adE (Y4 d.units) jJ (jw 1)<|jw 0)
def qM:FnScope oF oB (jN oH):=t_ rfl rfl rfl ∅
def wW(F:Fun K "exchanged_places" "exchanged_places" oH f fd)(J:mg "list" = none)(U:mg "tuple" = none):FnOk P w K mg base qj 1 f fd oB (qK K 3 lI):=uY (m:=oE) F qM λd B c s H E g=>
 jC (jY (i:=3) qM.nd<|mX (Dm rfl) J uL<|jz (jw 0) jD)
 (jC (nG (o9<|jz (kN (jw 3)<|jU A3 (jw 2) jJ)<|jz (kN (jw 3)<|jU A3 (jw 1) jJ) jD)<|oK rfl<|j0 (Bu (jw 3)<|jU A3 (jw 1) jJ)<|j0 (Bu (jw 3)<|jU A3 (jw 2) jJ) mQ)
 (jF<|j3<|mX (Er rfl) U BS<|jz (jw 3) jD))
def E6:FnScope we sj (jN vL):=t_ rfl rfl rfl ∅
def DR(F:Fun K "exchanged" "exchanged" vL f fd)(J:mg "len" = none)(U:nV P w K mg base 2 "is_exchange" sL n6)(Z:nV P w K mg base 1 "exchanged_places" oB lI):FnOk P w K mg base qj 3 f fd sj (qK K 2 nH):=uY (m:=vY) F E6 λg B c s H E d=>
 jC (lY (zE<|qb<|Hw U d (j9 tu J pT<|jz (jw 0) jD)<|jw 1)
 (jF<|Wb)
 kB)
 (jF<|j3<|fn3 Z d (jw 0) (jw 1)<|jU mF (jw 1) jJ)
def N9:FnScope E7 uz (jN Fq):=t_ rfl rfl rfl ∅
def OD(F:Fun K "falls" "falls" Fq f fd)(J:mg "range" = none)(U:mg "len" = none):FnOk P w K mg base qj 1 f fd uz (qK K 1 nu):=uY (m:=EM) F N9 λg B c s H E d=>
 jF (j3<|mO (N:=["k", "order"]) (cap:=[none,some 0]) rfl (pQ ["order"] rfl ∅ ∅ ∅ ∅ ∅ (bz.mpr ⟨by first|exact Or.inl rfl|exact Or.inr rfl,(nofun)⟩) ⟨rfl,by decide +kernel,trivial⟩) (qX J jJ<|j9 tu U pT<|jz (jw 0) jD) (λ_ _ _ _=>jO (i:=0) (show(["k", "order"]:am).Nodup by decide +kernel) rfl (Or.inl rfl)<|.inr rfl) (λ_ _ _ _=>rR<|kg (Hy d.units) (kN (jw 1)<|jU A3 (jw 0) jJ)<|kN (jw 1)<|jw 0) λ_ _ _ _=>jw 0)
def zk:FnScope qE oq (jN qG):=t_ rfl rfl rfl ∅
def yS(F:Fun K "as_polynomial" "as_polynomial" qG f fd)(J:mg "sorted" = none):FnOk P w K mg base qj 1 f fd oq (qK K 1 k9):=uY (m:=qH) F zk λg B d s H E c=>
 jF (j3<|mO (N:=["power", "numbers"]) (cap:=[none,some 0]) rfl (pQ ["numbers"] rfl ∅ ∅ ∅ ∅ ∅ (bz.mpr ⟨by first|exact Or.inl rfl|exact Or.inr rfl,(nofun)⟩) ⟨rfl,by decide +kernel,trivial⟩) (lZ<|j9 (Oi rfl) J CZ<|jz (jw 0) jD) (λ_ _ _ _=>jO (i:=0) (show(["power", "numbers"]:am).Nodup by decide +kernel) rfl (Or.inl rfl)<|.inr rfl) (λ_ _ _ _=>rR<|kg (Fg c.units) (ON c.units (jw 1)<|jw 0) jJ) λ_ _ _ _=>o9<|jz (jw 0)<|jz (ON c.units (jw 1)<|jw 0) jD)
def Ar:FnScope Iq Ib (jN HD):=t_ rfl rfl rfl ∅
def Tp(F:Fun K "plus" "plus" HD f fd)(J:mg "dict" = none)(U:nV P w K mg base 1 "as_polynomial" oq k9):FnOk P w K mg base qj 2 f fd Ib (qK K 2 Bc):=uY (m:=Io) F Ar λg B d s H E c=>
 jC (jY (i:=2) Ar.nd<|mX (Lc rfl) J K_<|jz (jw 0) jD)
 (jC (k_ bL rfl (lZ<|jw 1) (oK rfl<|j0 (jO (i:=3) Ar.nd)<|j0 (jO (i:=4) Ar.nd) mQ)
 (jF<|nG (jU mF (E5 bP b9 (DE c.units) (jw 2)<|jz (jw 3)<|jz jJ jD)<|jw 4)<|Aa c.units (jw 2)<|jw 3))
 (jF<|j3<|Ci U c<|jw 2))
def tH:FnScope Ei Av (jN Fo):=t_ rfl rfl rfl ∅
def Pw(F:Fun K "times" "times" Fo f fd)(J:nV P w K mg base 1 "as_polynomial" oq k9):FnOk P w K mg base qj 2 f fd Av (qK K 2 se):=uY (m:=DC) F tH λg B d s H E c=>
 jC (jY (i:=2) tH.nd tN)
 (jC (k_ bL rfl (lZ<|jw 0) (oK rfl<|j0 (jO (i:=3) tH.nd)<|j0 (jO (i:=4) tH.nd) mQ)
 (jF (k_ bL rfl (lZ<|jw 1) (oK rfl<|j0 (jO (i:=5) tH.nd)<|j0 (jO (i:=6) tH.nd) mQ)
 (jF<|nG (jU mF (E5 bP b9 (DE c.units) (jw 2)<|jz (jU mF (jw 3)<|jw 5)<|jz jJ jD)<|jU Qo (jw 4)<|jw 6)<|Aa c.units (jw 2)<|jU mF (jw 3)<|jw 5))))
 (jF<|j3<|Ci J c<|jw 2))
def Ce:FnScope ux pD (jN uy):=t_ rfl rfl rfl ∅
def B7(F:Fun K "put_before" "put_before" uy f fd)(J:nV P w K mg base 2 "plus" Ib Bc):FnOk P w K mg base qj 3 f fd pD (qK K 3 kF):=uY (m:=uB) F Ce λg B d s H E c=>
 jF (nG (Hw J c (Yp bP b9 (ab3 c.units) (jw 0)<|jz (jw 1)<|jz (mz jD) jD)<|jw 2)<|uX c.units (jw 0)<|jw 1)
def M1:FnScope AH wz (jN BD):=t_ rfl rfl rfl ∅
def MR(F:Fun K "as_sum" "as_sum" BD f fd)(J:mg "sorted" = none):FnOk P w K mg base qj 1 f fd wz (qK K 1 pH):=uY (m:=Bq) F M1 λg B c s H E d=>
 jF (j3<|mO (N:=["order", "found"]) (cap:=[none,some 0]) rfl (pQ ["found"] rfl ∅ ∅ ∅ ∅ ∅ (bz.mpr ⟨by first|exact Or.inl rfl|exact Or.inr rfl,(nofun)⟩) ⟨rfl,by decide +kernel,trivial⟩) (lZ<|j9 (QO rfl) J CZ<|jz (jw 0) jD) (λ_ _ _ _=>jO (i:=0) (show(["order", "found"]:am).Nodup by decide +kernel) rfl (Or.inl rfl)<|.inr rfl) (λ_ _ _ _=>rR<|qb<|EB d.units (jw 1)<|jw 0) λ_ _ _ _=>o9<|jz (jw 0)<|jz (EB d.units (jw 1)<|jw 0) jD)
def Ea:FnScope wm vO (jN vV):=t_ rfl rfl rfl ∅
def E1(F:Fun K "need_like" "need_like" vV f fd)(J:nV P w K mg base 1 "need_pair" vA qo):FnOk P w K mg base qj 2 f fd vO (qK K 2 qt):=uY (m:=ve) F Ea λg B c s H E d=>
 jF (lY (AW.at<|Hz (qb<|jw 0)<|EK<|qb<|jw 1)
 (jF<|kL<|Hw J d (kN (kN (jw 0) jJ) jJ)<|kN (kN (jw 1) jJ) jJ)
 kB)
def yd:FnScope ES DJ (jN D8):=t_ rfl rfl rfl ∅
def P8(F:Fun K "added" "added" D8 f fd)(J:nV P w K mg base 2 "need_like" vO qt)(U:nV P w K mg base 3 "put_before" pD kF)(Z:nV P w K mg base 1 "as_sum" wz pH):FnOk P w K mg base qj 4 f fd DJ (qK K 2 u0):=uY (m:=DG) F yd λg B d s H E c=>
 jC (kL<|Hw J c (jw 0)<|jw 1)
 (jC (jY (i:=2) yd.nd uI)
 (jC (k_ bL rfl (lZ<|jU mF (jw 0)<|jw 1) (oK rfl<|j0 (jO (i:=3) yd.nd)<|j0 (jO (i:=4) yd.nd) mQ)
 (jF<|kL<|fn3 U c (jw 2) (jw 3)<|jw 4))
 (jF<|j3<|Ci Z c<|jw 2)))
def wG:FnScope BP BO (jN Bx):=t_ rfl rfl rfl ∅
def M_(F:Fun K "scaled" "scaled" Bx f fd)(J:nV P w K mg base 3 "put_before" pD kF)(U:nV P w K mg base 2 "times" Av se)(Z:nV P w K mg base 1 "as_sum" wz pH):FnOk P w K mg base qj 4 f fd BO (qK K 2 qY):=uY (m:=BE) F wG λg B d s H E c=>
 jC (jY (i:=2) wG.nd uI)
 (jC (k_ bL rfl (lZ<|jw 1) (oK rfl<|j0 (jO (i:=3) wG.nd)<|j0 (jO (i:=4) wG.nd) mQ)
 (jF<|kL<|fn3 J c (jw 2) (jw 3)<|Hw U c (jw 0)<|jw 4))
 (jF<|j3<|Ci Z c<|jw 2))
def oY:FnScope sC sR (jN sX):=t_ rfl rfl rfl ∅
def AX(F:Fun K "by_exchange" "by_exchange" sX f fd)(Z:mg "list" = none)(J:∃a,mg "AT_A_FALL" = some (.ref a)/\klP K a=some [((-1:Int),(1:Int)),((1:Int),(-1:Int))])(U:nV P w K mg base 3 "put_before" pD kF)(abv:nV P w K mg base 3 "exchanged" sj nH)(aaf:nV P w K mg base 1 "falls" uz nu)(abo:nV P w K mg base 2 "times" Av se)(aam:nV P w K mg base 1 "as_sum" wz pH):FnOk P w K mg base qj 4 f fd sR (qK K 2 mY):=uY (m:=sI) F oY λg B d s H E c=>
 jC (jY (i:=2) oY.nd uI)
 (jC (k_ bL rfl (lZ<|jw 0) (oK rfl<|j0 (jO (i:=3) oY.nd)<|j0 (jO (i:=4) oY.nd) mQ)
 (jC (kL<|fn3 U c (jw 2) (Hw abv c (jw 3)<|jw 1)<|jw 4)
 (jF (lY (kg (Rz c.units) (jw 1)<|Ci aaf c<|jw 3)
 (jF<|kL<|fn3 U c (jw 2) (jw 3)<|Hw abo c (mX (Dm rfl) Z uL<|jz (Pr J.choose_spec.1 J.choose_spec.2) jD)<|jw 4)
 kB))))
 (jF<|j3<|Ci aam c<|jw 2))
def zo:FnScope qw n_ (jN qx):=t_ rfl rfl rfl ∅
def yP(F:Fun K "number_at_one" "number_at_one" qx f fd)(J:mg "dict" = none):FnOk P w K mg base qj 1 f fd n_ (qK K 1 k8):=uY (m:=qC) F zo λg B c s H E d=>
 jF (j3<|E5 bP b9 (DE d.units) (mX (Lc rfl) J K_<|jz (jw 0) jD)<|jz jJ<|jz jJ jD)
def lg:FnScope kW nI (jN rJ):=t_ rfl rfl rfl ∅
def zW{Fs:ab->jB->R A}(F:Fun K "kept_by_fall" "kept_by_fall" rJ f fd)(abv:nV P w K mg base 3 "exchanged" sj nH)(J:nV P w K mg base 4 "added" DJ u0)(U:nV P w K mg base 4 "scaled" BO qY)(acu:nV P w K mg base 4 "by_exchange" sR mY)(aby:nV P w K mg base 1 "number_at_one" n_ k8)(aaf:nV P w K mg base 1 "falls" uz nu)(Z:nV P w K mg base (5+2 * kr) "found_kept" l9 Fs):FnOk P w K mg base qj (5+2 * kr+1) f fd nI (qK K 3<|kX kW<|kY Fs):=uY (m:=kY Fs) F lg λg B d s H E c=>
 jC (jY (i:=3) lg.nd<|nv Z (c.mono ()) (jz (nv abv (c.mono ()) (jz (jw 0)<|jz (jw 1) jD)<|jM<|jM kC)<|jz (jw 2) jD)<|jM<|jM kC)
 (jC (jY (i:=4) lg.nd<|nv J (c.mono ()) (jz (nv acu (c.mono ()) (jz (jw 3)<|jz (jw 1) jD)<|jM<|jM kC)<|jz (nv U (c.mono ()) (jz (mz<|jz (o9<|jz jJ<|jz jJ jD) jD)<|jz (jw 3) jD)<|jM<|jM kC) jD)<|jM<|jM kC)
 (jC (k_ bL rfl (lZ<|jw 3) (oK rfl<|j0 (jO (i:=5) lg.nd)<|j0 (jO (i:=6) lg.nd) mQ)
 (jC (jY (i:=7) lg.nd<|nv aby (c.mono ()) (jz (jw 6) jD)<|jM kC)
 (jF (lY (AW.at<|Hz (kg (Fg c.units) (jw 7) jJ)<|EK<|kg (Rz c.units) (jw 1)<|nv aaf (c.mono ()) (jz (jw 5) jD)<|jM kC)
 (jF<|jY (i:=4) lg.nd<|nv J (c.mono ()) (jz (jw 4)<|jz (nv U (c.mono ()) (jz (mz<|jz (o9<|jz jJ<|jz (A8<|jw 7) jD) jD)<|jz (nv Z (c.mono ()) (jz (jw 5)<|jz (jw 2) jD)<|jM<|jM kC) jD)<|jM<|jM kC) jD)<|jM<|jM kC)
 kB))))
 (jF<|j3<|jw 4)))
def xm:FnScope oV l9 (jN qN):=t_ rfl rfl rfl ∅
def B9{Fs:ab->jB->R A}(F:Fun K "found_kept" "found_kept" qN f fd)(J:nV P w K mg base 1 "falls" uz nu)(U:nV P w K mg base (5+2 * kr+1) "kept_by_fall" nI<|kX kW<|kY Fs):FnOk P w K mg base qj (5+2 * kr+2) f fd l9 (qK K 2<|kX oV<|oZ Fs):=uY (m:=oZ Fs) F xm λg B d s H E c=>
 jC (lY (kg (SA c.units) (jw 0)<|jw 1)
 (jC (jY (i:=2) xm.nd<|nv J (c.mono ()) (jz (jw 0) jD)<|jM kC)
 (jF (lY (qb<|jw 2)
 (jF<|nG (nv U (c.mono ()) (jz (jw 0)<|jz (kN (jw 2) jJ)<|jz (jw 1) jD)<|jM<|jM<|jM kC)<|uX c.units (jw 1)<|jw 0)
 (jF<|nG (mz<|jz (o9<|jz (jw 0)<|jz (mz<|jz (o9<|jz jJ<|jz jJ jD) jD) jD) jD)<|uX c.units (jw 1)<|jw 0))))
 kB)
 (jF<|j3<|EB c.units (jw 1)<|jw 0)
theorem vU(F:Fun K "found_kept" "found_kept" qN f fd)(U:nV P w K mg base 1 "falls" uz nu)(J:∀{Fs:ab->jB->R A} {kr:Nat},nV P w K mg base (5+2 * kr) "found_kept" l9 Fs->nV P w K mg base (5+2 * kr+1) "kept_by_fall" nI (kX kW<|kY Fs))(Z:mg "found_kept" = some (.ref f))(hk:PySem.W.keepIn K (.ref f)=true)(hb:Binds K fd l9 []):∀kr,FnOk P w K mg base qj (5+2 * kr) f fd l9 (qK K 2<|m8 kr)
 | 0=>N2 rfl
 | kr+1=>B9 F U<|J ⟨f,fd,vU F U J Z hk hb kr,Z,hk,hb⟩
def lK:FnScope sH sF (jN sG):=t_ rfl rfl rfl ∅
def AJ(F:Fun K "leads_among" "leads_among" sG f fd)(J:nV P w K mg base 21 "found_kept" l9 uS)(U:nV P w K mg base 1 "number_at_one" n_ k8):FnOk P w K mg base qj 22 f fd sF (qK K 1 nY):=uY (m:=sJ) F lK λg B d s H E c=>
 jC (jY (i:=1) lK.nd uI)
 (jC (jY (i:=2) lK.nd<|PN)
 (jC (k_ bL rfl (lZ<|jw 0) (jO (i:=3) lK.nd)
 (jF (k_ bL rfl (lZ<|Hw J c (jw 3)<|jw 1) (oK rfl<|j0 (jO (i:=4) lK.nd)<|j0 (jO (i:=5) lK.nd) mQ)
 (jC (jY (i:=6) lK.nd<|Ci U c<|jw 5)
 (jF (lY (kg (Fg c.units) (jw 6) jJ)
 (jC (nG (jw 6)<|JQ c.units (jw 2)<|o9<|jz (jw 4)<|jz (jw 3) jD)
 (jF<|nG (jw 6)<|JQ c.units (jw 2)<|o9<|jz (jw 3)<|jz (jw 4) jD))
 kB))))))
 (jF<|j3<|jw 2)))
def yj:FnScope vp wu (jN wA):=t_ rfl rfl rfl ∅
def DM(F:Fun K "number_at" "number_at" wA f fd)(J:nV P w K mg base 1 "falls" uz nu):FnOk P w K mg base qj 2 f fd wu (qK K 4 kR):=uY (m:=vC) F yj λg B d s H E c=>
 jC (jY (i:=4) yj.nd<|HE (Rz c.units) (jw 0)<|Ci J c<|jw 1)
 (jC (lY (kg (F_ c.units) (jw 1)<|jw 2)
 (jF<|j3<|aaF (qb<|jw 4) jJ<|A8 jJ)
 kB)
 (jC (lY (AW.at<|LM (qb<|jw 4)<|E_<|kg (KH c.units) (jw 0)<|Ci J c<|jw 2)
 (jF<|j3 jJ)
 kB)
 (jF<|j3<|Zf bP b9 (Xa c.units) (jw 3)<|jz (o9<|jz (jw 1)<|jz (jw 2) jD)<|jz jJ jD)))
def tO:FnScope qv qB (jN qF):=t_ rfl rfl rfl ∅
def zG(F:Fun K "number_tables" "number_tables" qF f fd)(J:mg "range" = none)(U:mg "len" = none)(Z:nV P w K mg base 22 "leads_among" sF nY)(acy:nV P w K mg base 2 "number_at" wu kR):FnOk P w K mg base qj 23 f fd qB (qK K 1 mT):=uY (m:=qI) F tO λg B c s H E d=>
 jC (jY (i:=1) tO.nd<|Ci Z d<|jw 0)
 (jF<|j3<|mO (N:=["k", "hearth", "leads"]) (cap:=[none,some 0,some 1]) rfl (pQ ["hearth", "leads"] rfl ∅ ∅ ∅ ∅ ∅ (bz.mpr ⟨by first|exact Or.inl rfl|exact Or.inr rfl,(bz.mpr ⟨by first|exact Or.inl rfl|exact Or.inr rfl,(nofun)⟩)⟩) ⟨rfl,by decide +kernel,⟨rfl,by decide +kernel,trivial⟩⟩) (qX J jJ<|j9 tu U pT<|jz (kN (jw 0) jJ) jD) (λ_ _ _ _=>jO (i:=0) (show(["k", "hearth", "leads"]:am).Nodup by decide +kernel) rfl (Or.inr rfl)<|.inl rfl) (λ_ _ _ _=>qc) λ_ _ _ _=>mO (N:=["one", "k", "leads", "hearth"]) (cap:=[none,some 0,some 2,some 1]) rfl (pQ ["k", "leads", "hearth"] rfl ∅ ∅ ∅ ∅ ∅ (bz.mpr ⟨by first|exact Or.inl rfl|exact Or.inr rfl,(bz.mpr ⟨by first|exact Or.inl rfl|exact Or.inr rfl,(bz.mpr ⟨by first|exact Or.inl rfl|exact Or.inr rfl,(nofun)⟩)⟩)⟩) ⟨rfl,by decide +kernel,⟨rfl,by decide +kernel,⟨rfl,by decide +kernel,trivial⟩⟩⟩) (lZ<|jw 1) (λ_ _ _ _=>jO (i:=0) (show(["one", "k", "leads", "hearth"]:am).Nodup by decide +kernel) rfl (Or.inr rfl)<|.inl rfl) (λ_ _ _ _=>qc) λ_ _ _ _=>mO (N:=["other", "k", "one", "leads"]) (cap:=[none,some 1,some 0,some 2]) rfl (pQ ["k", "one", "leads"] rfl ∅ ∅ ∅ ∅ ∅ (bz.mpr ⟨by first|exact Or.inl rfl|exact Or.inr rfl,(bz.mpr ⟨by first|exact Or.inl rfl|exact Or.inr rfl,(bz.mpr ⟨by first|exact Or.inl rfl|exact Or.inr rfl,(nofun)⟩)⟩)⟩) ⟨rfl,by decide +kernel,⟨rfl,by decide +kernel,⟨rfl,by decide +kernel,trivial⟩⟩⟩) (lZ<|jw 3) (λ_ _ _ _=>jO (i:=0) (show(["other", "k", "one", "leads"]:am).Nodup by decide +kernel) rfl (Or.inl rfl)<|.inr rfl) (λ_ _ _ _=>qc) λ_ _ _ _=>fn4 acy d (jw 1) (jw 2) (jw 0)<|jw 3)
def G7:FnScope xO xN (jN xx):=t_ rfl rfl rfl ∅
def Gj(F:Fun K "_law_cell" "_law_cell" xx f fd)(J:mg "len" = none):FnOk P w K mg base qj 1 f fd xN (qK K 2 rB):=uY (m:=xw) F G7 λg B c s H E d=>
 jC (lY (kg (Y4 d.units) (jw 1)<|j9 tu J pT<|jz (jw 0) jD)
 (jF<|j3<|kN (jw 0)<|jw 1)
 kB)
 (jF<|j3 jJ)
def xC:FnScope ze zm (jN zA):=t_ rfl rfl rfl ∅
def Ij(F:Fun K "_law_bag" "_law_bag" zA f fd)(J:mg "abs" = none):FnOk P w K mg base qj 1 f fd zm (qK K 2 t9):=uY (m:=zb) F xC λg B c s H E d=>
 jC (jY (i:=2) xC.nd<|j9 abe J Xe<|jz (jw 0) jD)
 (jC (lY (kg (Y4 d.units) (jw 2)<|jU aaE jJ jJ)
 (jF<|jY (i:=2) xC.nd jJ)
 kB)
 (jF<|j3<|mz<|jz (jw 2)<|jz (jU C5 (jU mF (jU mF (jU BW (jU C5 (jw 0) jJ) jJ)<|jU BW jJ<|jw 1) jJ) jJ) jD))
def Fx:FnScope wj v8 (jN wC):=t_ rfl rfl rfl ∅
def Dy(F:Fun K "_law_mixed" "_law_mixed" wC f fd):FnOk P w K mg base qj 1 f fd v8 (qK K 1 oN):=uY (m:=vH) F Fx λd B c s H E g=>
 jC (nG (jU C5 (jU mF (jU BW (kN (jw 0) jJ) jJ) jJ) jJ)<|Bu (jw 0) jJ)
 (jF<|j3<|jU Q8 (jU C5 (jU BW (kN (jw 0) jJ) jJ) jJ) jJ)
def o5:FnScope sq rZ (jN vh):=t_ rfl rfl rfl ∅
def D9(F:Fun K "_law_digit" "_law_digit" vh f fd)(U:mg "range" = none)(J:nV P w K mg base 1 "_law_mixed" v8 oN):FnOk P w K mg base qj 2 f fd rZ (qK K 2 lC):=uY (m:=rV) F o5 λg B d s H E c=>
 jC (lY (kg (Hy c.units) (kN (jw 0) jJ) jJ)
 (jC (jY (i:=2) o5.nd<|jU C5 (kN (jw 0) jJ)<|jw 1)
 (jC (nG (jU Q8 (kN (jw 0) jJ)<|jw 1)<|Bu (jw 0) jJ)
 (jF<|j3<|jw 2)))
 kB)
 (jC (jY (i:=2) o5.nd<|Ci J c<|jw 0)
 (jC (lY (kg (Hy c.units) (jw 1) jJ)
 (jF (k_ bL rfl (tD U jJ) (jO (i:=3) o5.nd)
 (jF<|jY (i:=2) o5.nd<|jU mF (jU BW (jw 2) jJ)<|Ci J c<|jw 0)))
 kB)
 (jF<|j3<|jU C5 (jw 2)<|jw 1)))
def qQ:FnScope vR vE (jN vW):=t_ rfl rfl rfl ∅
def Fb(F:Fun K "_law_order" "_law_order" vW f fd)(U:mg "list" = none)(J:mg "range" = none)(Z:mg "len" = none)(aaj:mg "tuple" = none)(abC:nV P w K mg base 2 "_law_digit" rZ lC):FnOk P w K mg base qj 3 f fd vE (qK K 2 oO):=uY (m:=wc) F qQ λg B c s H E d=>
 jC (jY (i:=2) qQ.nd<|mX (Dm rfl) U uL<|jz (mX QH J Rf<|jz jJ<|jz (jU mF (jw 1) jJ) jD) jD)
 (jC (jY (i:=3) qQ.nd<|mz jD)
 (jC (k_ bL rfl (tD J<|jw 1) (jO (i:=4) qQ.nd)
 (jF<|kL<|sf bX bY mU (jw 3)<|jz (sf PySem.F.slot_list_pop PySem.F.type_list_pop Vn (jw 2)<|jz (Hw abC d (jw 0)<|j9 tu Z pT<|jz (jw 2) jD) jD) jD))
 (jF<|j3<|mX (Er rfl) aaj BS<|jz (jw 3) jD)))
def Bh:FnScope sW qg (jN sP):=t_ rfl rfl rfl ∅
def BA(F:Fun K "_law_swapped" "_law_swapped" sP f fd)(J:mg "tuple" = none):FnOk P w K mg base qj 1 f fd qg (qK K 2 mh):=uY (m:=sU) F Bh λg B c s H E d=>
 jF (j3<|mX (Er rfl) J BS<|jz (mO (N:=["_law_thing", "_law_k"]) (cap:=[none,some 1]) rfl (pQ ["_law_k"] rfl ∅ ∅ ∅ ∅ ∅ (bz.mpr ⟨by first|exact Or.inl rfl|exact Or.inr rfl,(nofun)⟩) ⟨rfl,by decide +kernel,trivial⟩) (lZ<|jw 0) (λ_ _ _ _=>jO (i:=0) (show(["_law_thing", "_law_k"]:am).Nodup by decide +kernel) rfl (Or.inl rfl)<|.inr rfl) (λ_ _ _ _=>qc) λ_ _ _ _=>xE bP b9 (DX d.units) (YC (jw 1) (jU mF (jw 1) jJ) (jU mF (jw 1) jJ)<|jw 1)<|jz (jw 0)<|jz (jw 0) jD) jD)
def xr:FnScope yT wM (jN zc):=t_ rfl rfl rfl ∅
def IQ(F:Fun K "_law_put" "_law_put" zc f fd):FnOk P w K mg base qj 1 f fd wM (qK K 5 mZ):=uY (m:=yZ) F xr λg B d s H E c=>
 jC (jY (i:=5) xr.nd<|xE bP b9 (IC c.units) (jw 0)<|jz (jw 1)<|jz tN jD)
 (jC (k_ bL rfl (FD<|jw 2) (jO (i:=6) xr.nd)
 (jF<|nG (jU mF (E5 bP b9 (DE c.units) (jw 5)<|jz (jU mF (jw 6)<|jw 3)<|jz jJ jD)<|jU Qo (jw 4)<|EW c.units (jw 2)<|jw 6)<|Aa c.units (jw 5)<|jU mF (jw 6)<|jw 3))
 (jF<|nG (jw 5)<|uX c.units (jw 0)<|jw 1))
def mP:FnScope ng lO (jN nj):=t_ rfl rfl rfl ∅
def ue(F:Fun K "_law_without_noughts" "_law_without_noughts" nj f fd):FnOk P w K mg base qj 1 f fd lO (qK K 1 kj):=uY (m:=m9) F mP λg B d s H E c=>
 jC (jY (i:=1) mP.nd tN)
 (jC (k_ bL rfl (FD<|jw 0) (jO (i:=2) mP.nd)
 (jF (lY (kg (Fg c.units) (EW c.units (jw 0)<|jw 2) jJ)
 (jF<|nG (EW c.units (jw 0)<|jw 2)<|Aa c.units (jw 1)<|jw 2)
 kB)))
 (jF<|j3<|jw 1))
def kK:FnScope rE p7 (jN uG):=t_ rfl rfl rfl ∅
def G0{Fs:ab->jB->R A}(F:Fun K "_law_kept" "_law_kept" uG f fd)(aad:mg "range" = none)(aab:mg "len" = none)(aag:mg "int" = none)(U:nV P w K mg base 1 "_law_swapped" qg mh)(J:nV P w K mg base 1 "_law_put" wM mZ)(abR:nV P w K mg base 1 "_law_without_noughts" lO kj)(Z:nV P w K mg base (2+kr) "_law_kept" p7 Fs):FnOk P w K mg base qj (2+kr+1) f fd p7 (qK K 2<|kX rE<|rj Fs):=uY (m:=rj Fs) F kK λg B d s H E c=>
 jC (lY (kg (abB c.units) (jw 0)<|jw 1)
 (jF<|j3<|EB c.units (jw 1)<|jw 0)
 kB)
 (jC (EZ (i:=2) (N:=["_law_k", "_law_order_here"]) (cap:=[none,some 0]) kK.nd rfl (pQ ["_law_order_here"] rfl ∅ ∅ ∅ ∅ ∅ (bz.mpr ⟨by first|exact Or.inl rfl|exact Or.inr rfl,(nofun)⟩) ⟨rfl,by decide +kernel,trivial⟩) (qX aad jJ<|j9 tu aab pT<|jz (jw 0) jD) (λ_ _ _ _=>jO (i:=0) (show(["_law_k", "_law_order_here"]:am).Nodup by decide +kernel) rfl (Or.inl rfl)<|.inr rfl) (λ_ _ _ _=>rR<|kg (Hy c.units) (D_ (jw 1)<|jz (jw 0) jD)<|D_ (jw 1)<|jz (jU mF (jw 0) jJ) jD) λ_ _ _ _=>jw 0)
 (jC (jY (i:=3) kK.nd uI)
 (jC (lY (kg (F_ c.units) (jw 2)<|mz jD)
 (jF<|nG (Xi jJ jJ)<|uX c.units (jw 3)<|jw 0)
 (jC (jY (i:=4) kK.nd<|kN (jw 2)<|A8 jJ)
 (jC (jY (i:=5) kK.nd<|nv Z (c.mono ()) (jz (nv U (c.mono ()) (jz (jw 0)<|jz (jw 4) jD)<|jM<|jM kC)<|jz (jw 1) jD)<|jM<|jM kC)
 (jF (k_ bL rfl (BG<|jw 5) (jO (i:=6) kK.nd)
 (jC (jY (i:=7) kK.nd<|HE (Hy c.units) (D_ (jw 6)<|jz (jw 4) jD)<|D_ (jw 6)<|jz (jU mF (jw 4) jJ) jD)
 (jC (kL<|nv J (c.mono ()) (jz (jw 3)<|jz (nv U (c.mono ()) (jz (jw 6)<|jz (jw 4) jD)<|jM<|jM kC)<|jz (za c.units (jw 5)<|jw 6)<|jz jJ<|jz jJ jD)<|jM<|jM<|jM<|jM<|jM kC)
 (jC (kL<|nv J (c.mono ()) (jz (jw 3)<|jz (jw 6)<|jz (za c.units (jw 5)<|jw 6)<|jz (kN (mz<|jz jJ<|jz (A8 jJ) jD)<|mX NC aag Ek<|jz (jw 7) jD)<|jz jJ jD)<|jM<|jM<|jM<|jM<|jM kC)
 (jF (lY (AW.at<|Hz (qb<|jw 7)<|EK<|kg (Fg c.units) (xE bP b9 (DX c.units) (za c.units (jw 5)<|jw 6)<|jz jJ<|jz jJ jD) jJ)
 (jC (jY (i:=8) kK.nd<|nv Z (c.mono ()) (jz (jw 6)<|jz (jw 1) jD)<|jM<|jM kC)
 (jF (k_ bL rfl (BG<|jw 8) (jO (i:=9) kK.nd)
 (jF<|kL<|nv J (c.mono ()) (jz (jw 3)<|jz (jw 9)<|jz (za c.units (jw 8)<|jw 9)<|jz jJ<|jz (jU A3 jJ<|EW c.units (za c.units (jw 5)<|jw 6) jJ) jD)<|jM<|jM<|jM<|jM<|jM kC))))
 kB))))))))))
 (jC (jY (i:=10) kK.nd uI)
 (jC (k_ bL rfl (BG<|jw 3) (jO (i:=6) kK.nd)
 (jC (jY (i:=11) kK.nd<|nv abR (c.mono ()) (jz (za c.units (jw 3)<|jw 6) jD)<|jM kC)
 (jF (lY (kg (aa2 c.units) (jw 11) tN)
 (jF<|nG (jw 11)<|uX c.units (jw 10)<|jw 6)
 kB))))
 (jC (nG (jw 10)<|uX c.units (jw 1)<|jw 0)
 (jF<|j3<|jw 10)))))))
theorem yb(F:Fun K "_law_kept" "_law_kept" uG f fd)(J:mg "range" = none)(U:mg "len" = none)(Z:mg "int" = none)(aa4:nV P w K mg base 1 "_law_swapped" qg mh)(aaX:nV P w K mg base 1 "_law_put" wM mZ)(abR:nV P w K mg base 1 "_law_without_noughts" lO kj)(hm:mg "_law_kept" = some (.ref f))(hk:PySem.W.keepIn K (.ref f)=true)(hb:Binds K fd p7 []):∀kr,FnOk P w K mg base qj (2+kr) f fd p7 (qK K 2<|mK kr)
 | 0=>N2 rfl
 | kr+1=>G0 F J U Z aa4 aaX abR ⟨f,fd,yb F J U Z aa4 aaX abR hm hk hb kr,hm,hk,hb⟩
def vB:FnScope uc xV (jN xq):=t_ rfl rfl rfl ∅
def FH(F:Fun K "_law_lead" "_law_lead" xq f fd)(J:nV P w K mg base 10 "_law_kept" p7 oG):FnOk P w K mg base qj 11 f fd xV (qK K 3 p5):=uY (m:=uP) F vB λg B d s H E c=>
 jC (jY (i:=3) vB.nd<|xE bP b9 (DX c.units) (xE bP b9 (IC c.units) (Hw J c (jw 1)<|jw 2)<|jz (jw 0)<|jz tN jD)<|jz jJ<|jz jJ jD)
 (jC (lY (kg (F_ c.units) (jw 3) jJ)
 (jF<|jY (i:=3) vB.nd<|xE bP b9 (DX c.units) (xE bP b9 (IC c.units) (Hw J c (jw 0)<|jw 2)<|jz (jw 1)<|jz tN jD)<|jz jJ<|jz jJ jD)
 kB)
 (jF<|j3<|jw 3))
def Ez:FnScope vI v5 (jN vJ):=t_ rfl rfl rfl ∅
def Fi(F:Fun K "_law_falls" "_law_falls" vJ f fd)(J:mg "range" = none)(U:mg "len" = none):FnOk P w K mg base qj 1 f fd v5 (qK K 1 nB):=uY (m:=vf) F Ez λg B c s H E d=>
 jF (j3<|mO (N:=["_law_k", "_law_order_here"]) (cap:=[none,some 0]) rfl (pQ ["_law_order_here"] rfl ∅ ∅ ∅ ∅ ∅ (bz.mpr ⟨by first|exact Or.inl rfl|exact Or.inr rfl,(nofun)⟩) ⟨rfl,by decide +kernel,trivial⟩) (qX J jJ<|j9 tu U pT<|jz (jw 0) jD) (λ_ _ _ _=>jO (i:=0) (show(["_law_k", "_law_order_here"]:am).Nodup by decide +kernel) rfl (Or.inl rfl)<|.inr rfl) (λ_ _ _ _=>rR<|kg (Hy d.units) (kN (jw 1)<|jU A3 (jw 0) jJ)<|kN (jw 1)<|jw 0) λ_ _ _ _=>jw 0)
def kD:FnScope uF uW (jN uQ):=t_ rfl rfl rfl ∅
def Cp(F:Fun K "_law_tables" "_law_tables" uQ f fd)(U:mg "enumerate" = none)(J:mg "len" = none)(Z:mg "range" = none):FnOk P w K mg base qj 1 f fd uW (qK K 1 kP):=uY (m:=uw) F kD λg B d s H E c=>
 jC (jY (i:=1) kD.nd<|mz jD)
 (jC (jY (i:=2) kD.nd<|mz jD)
 (jC (k_ bL rfl (YY U<|jw 0) (oK rfl<|j0 (jO (i:=3) kD.nd)<|j0 (jO (i:=4) kD.nd) mQ)
 (jC (jY (i:=5) kD.nd jJ)
 (jF (Se 1000000 bL (kg T9 (jw 4)<|RQ)
 (jC (lY (kg (F_ c.units) (jw 5)<|j9 tu J pT<|jz (jw 1) jD)
 (jC (kL<|sf bX bY mU (jw 1)<|jz (mz jD) jD)
 (jF<|kL<|sf bX bY mU (jw 2)<|jz (mz jD) jD))
 kB)
 (jC (EZ (i:=6) (N:=["_law_k", "_law_letter", "_law_first", "_law_at"]) (cap:=[none,some 4,some 1,some 5]) kD.nd rfl (pQ ["_law_letter", "_law_first", "_law_at"] rfl ∅ ∅ ∅ ∅ ∅ (bz.mpr ⟨by first|exact Or.inl rfl|exact Or.inr rfl,(bz.mpr ⟨by first|exact Or.inl rfl|exact Or.inr rfl,(bz.mpr ⟨by first|exact Or.inl rfl|exact Or.inr rfl,(nofun)⟩)⟩)⟩) ⟨rfl,by decide +kernel,⟨rfl,by decide +kernel,⟨rfl,by decide +kernel,trivial⟩⟩⟩) (tD Z<|j9 tu J pT<|jz (kN (jw 1)<|jw 5) jD) (λ_ _ _ _=>jO (i:=0) (show(["_law_k", "_law_letter", "_law_first", "_law_at"]:am).Nodup by decide +kernel) rfl (Or.inl rfl)<|.inr rfl) (λ_ _ _ _=>rR<|kg (Hy c.units) (kN (kN (jw 2)<|jw 3)<|jw 0)<|jw 1) λ_ _ _ _=>jw 0)
 (jF (lY (kg (F_ c.units) (jw 6)<|mz jD)
 (jC (kL<|sf bX bY mU (kN (jw 1)<|jw 5)<|jz (jw 4) jD)
 (jC (kL<|sf bX bY mU (kN (jw 2)<|jw 5)<|jz (jU mF (jw 3) jJ) jD)
 (jF<|jY (i:=4) kD.nd<|RQ)))
 (jC (nG (o9<|jz (kN (kN (jw 1)<|jw 5)<|kN (jw 6) jJ)<|jz (jw 4) jD)<|oK rfl<|j0 (jO (i:=4) kD.nd)<|j0 (Bu (kN (jw 1)<|jw 5)<|kN (jw 6) jJ) mQ)
 (jF<|jY (i:=5) kD.nd<|jU mF (jw 5) jJ))))))))))
 (jF<|j3<|o9<|jz (jw 1)<|jz (jw 2) jD)))
def qa:FnScope zu zC (jN zz):=t_ rfl rfl rfl ∅
def IG(F:Fun K "_law_all" "_law_all" zz f fd)(J:mg "range" = none):FnOk P w K mg base qj 1 f fd zC (qK K 1 qW):=uY (m:=zh) F qa λg B c s H E d=>
 jC (jY (i:=1) qa.nd<|mz<|jz (o9 jD) jD)
 (jC (k_ bL rfl (tD J<|jw 0) (jO (i:=2) qa.nd)
 (jC (jY (i:=3) qa.nd<|mz jD)
 (jC (k_ bL rfl (lZ<|jw 1) (jO (i:=4) qa.nd)
 (jF<|kL<|sf PySem.F.slot_list_extend PySem.F.type_list_extend OW (jw 3)<|jz (mO (N:=["_law_thing", "_law_some"]) (cap:=[none,some 4]) rfl (pQ ["_law_some"] rfl ∅ ∅ ∅ ∅ ∅ (bz.mpr ⟨by first|exact Or.inl rfl|exact Or.inr rfl,(nofun)⟩) ⟨rfl,by decide +kernel,trivial⟩) (qX J jJ<|jU mF (jw 0) jJ) (λ_ _ _ _=>jO (i:=0) (show(["_law_thing", "_law_some"]:am).Nodup by decide +kernel) rfl (Or.inl rfl)<|.inr rfl) (λ_ _ _ _=>rR<|kg (KH d.units) (jw 0)<|jw 1) λ_ _ _ _=>jU mF (jw 1)<|o9<|jz (jw 0) jD) jD))
 (jF<|jY (i:=1) qa.nd<|jw 3))))
 (jF<|j3<|jw 1))
def E8:FnScope vF vD (jN vG):=t_ rfl rfl rfl ∅
def EH(F:Fun K "_law_whole" "_law_whole" vG f fd)(J:mg "isinstance" = none)(U:mg "bool" = none)(Z:mg "int" = none):FnOk P w K mg base qj 1 f fd vD (qK K 1 nJ):=uY (m:=vM) F E8 λd B c s H E g=>
 jF (j3<|IV (j9 Bb J mq<|jz (jw 0)<|jz (BB Z Ek) jD)<|HB<|QL<|j9 Bb J mq<|jz (jw 0)<|jz (BB U JW) jD)
def Cm:FnScope uT uf (jN u5):=t_ rfl rfl rfl ∅
def Cc(F:Fun K "_law_hearth" "_law_hearth" u5 f fd)(U:mg "len" = none)(Z:nV P w K mg base 1 "_law_all" zC qW)(J:nV P w K mg base 1 "_law_tables" uW kP):FnOk P w K mg base qj 2 f fd uf (qK K 1 pI):=uY (m:=uE) F Cm λg B d s H E c=>
 jF (j3<|mO (N:=["_law_one", "_law_order_here"]) (cap:=[none,some 0]) rfl (pQ ["_law_order_here"] rfl ∅ ∅ ∅ ∅ ∅ (bz.mpr ⟨by first|exact Or.inl rfl|exact Or.inr rfl,(nofun)⟩) ⟨rfl,by decide +kernel,trivial⟩) (lZ<|Ci Z c<|j9 tu U pT<|jz (jw 0) jD) (λ_ _ _ _=>jO (i:=0) (show(["_law_one", "_law_order_here"]:am).Nodup by decide +kernel) rfl (Or.inl rfl)<|.inr rfl) (λ_ _ _ _=>rR<|kg (F_ c.units) (kN (Ci J c<|jw 0) jJ)<|kN (Ci J c<|jw 1) jJ) λ_ _ _ _=>jw 0)
def xF:FnScope y_ yV (jN zv):=t_ rfl rfl rfl ∅
def HP(F:Fun K "_law_row" "_law_row" zv f fd)(U:mg "int" = none)(J:nV P w K mg base 1 "_law_falls" v5 nB)(Z:nV P w K mg base 11 "_law_lead" xV p5):FnOk P w K mg base qj 12 f fd yV (qK K 4 m5):=uY (m:=zD) F xF λg B d s H E c=>
 jC (jY (i:=4) xF.nd<|mz jD)
 (jC (k_ bL rfl (lZ<|jw 1) (jO (i:=5) xF.nd)
 (jF (lY (kg (Rz c.units) (jw 2)<|Ci J c<|jw 0)
 (jF<|kL<|sf bX bY mU (jw 4)<|jz (mX NC U Ek<|jz (HE (F_ c.units) (jw 5)<|jw 0) jD) jD)
 (jF (lY (kg (F_ c.units) (jw 5)<|jw 0)
 (jF<|kL<|sf bX bY mU (jw 4)<|jz (A8 jJ) jD)
 (jF (lY (kg (Rz c.units) (jw 2)<|Ci J c<|jw 5)
 (jF<|kL<|sf bX bY mU (jw 4)<|jz (fn3 Z c (jw 0) (jw 5)<|jw 3) jD)
 (jF<|kL<|sf bX bY mU (jw 4)<|jz jJ jD))))))))
 (jF<|j3<|jw 4))
def r8:FnScope pZ p8 (jN pX):=t_ rfl rfl rfl ∅
def yo(F:Fun K "_law_are_tables" "_law_are_tables" pX f fd)(J:mg "isinstance" = none)(U:mg "list" = none)(Z:mg "all" = none)(acC:nV P w K mg base 1 "_law_whole" vD nJ):FnOk P w K mg base qj 2 f fd p8 (qK K 2 mH):=uY (m:=pY) F r8 λg B c s H E d=>
 jC (lY (AW.at<|LM (zE<|qb<|j9 Bb J mq<|jz (jw 0)<|jz (BB U uL) jD)<|E_<|kg (Fg d.units) (jw 0)<|jw 1)
 (jF<|j3 B3)
 kB)
 (jC (k_ bL rfl (lZ<|jw 0) (jO (i:=2) r8.nd)
 (jC (lY (AW.at<|LM (zE<|qb<|j9 Bb J mq<|jz (jw 2)<|jz (BB U uL) jD)<|E_<|zE<|qb<|j9 (PR rfl) Z HL<|jz (mO (N:=["_law_row_here"]) (cap:=[none]) rfl (pQ [] rfl ∅ ∅ ∅ ∅ ∅ (nofun) trivial) (lZ<|jw 2) (λ_ _ _ _=>jO (i:=0) (show(["_law_row_here"]:am).Nodup by decide +kernel) rfl (Or.inl rfl)<|.inr rfl) (λ_ _ _ _=>qc) λ_ _ _ _=>j9 Bb J mq<|jz (jw 0)<|jz (BB U uL) jD) jD)
 (jF<|j3 B3)
 kB)
 (jF (lY (zE<|qb<|j9 (PR rfl) Z HL<|jz (mO (N:=["_law_row_here"]) (cap:=[none]) rfl (pQ [] rfl ∅ ∅ ∅ ∅ ∅ (nofun) trivial) (lZ<|jw 2) (λ_ _ _ _=>jO (i:=0) (show(["_law_row_here"]:am).Nodup by decide +kernel) rfl (Or.inl rfl)<|.inr rfl) (λ_ _ _ _=>qc) λ_ _ _ _=>j9 (PR rfl) Z HL<|jz (mO (N:=["_law_number"]) (cap:=[none]) rfl (pQ [] rfl ∅ ∅ ∅ ∅ ∅ (nofun) trivial) (lZ<|jw 0) (λ_ _ _ _=>jO (i:=0) (show(["_law_number"]:am).Nodup by decide +kernel) rfl (Or.inl rfl)<|.inr rfl) (λ_ _ _ _=>qc) λ_ _ _ _=>Ci acC d<|jw 0) jD) jD)
 (jF<|j3 B3)
 kB))))
 (jF<|j3 B3))
def pC:FnScope P5 Wo (jN Sy):=t_ rfl rfl rfl ∅
set_option smartUnfolding false in
theorem ZQ(F:Fun K "law" "law" Sy f fd)(U:mg "range" = none)(Z:mg "len" = none)(aae:mg "list" = none)(J:mg "enumerate" = none)(acD:nV P w K mg base 1 "_law_bag" zm t9)(acE:nV P w K mg base 1 "_law_cell" xN rB)(acF:nV P w K mg base 2 "_law_hearth" uf pI)(acG:nV P w K mg base 3 "_law_order" vE oO)(abC:nV P w K mg base 2 "_law_digit" rZ lC)(acH:nV P w K mg base 12 "_law_row" yV m5)(acI:nV P w K mg base 23 "number_tables" qB mT)(acN:nV P w K mg base 2 "_law_are_tables" p8 mH):FnOk P w K mg base qj 24 f fd Wo (qK K 1 Cy):=uY (m:=NV) F pC λg B d s H E c=>
 jC (jY (i:=1) pC.nd<|Hw acD c (Hw acE c (jw 0) jJ) jJ)
 (jC (jY (i:=2) pC.nd<|Ci acF c<|Hw acG c (jw 1)<|kN (mz<|jz jJ<|jz jJ<|jz jJ<|jz jJ<|jz jJ<|jz jJ jD)<|Hw abC c (jw 1) jJ)
 (jC (jY (i:=3) pC.nd uI)
 (jC (EZ (i:=4) (N:=["_law_k", "_law_hearth_here", "_law_known"]) (cap:=[none,some 2,some 3]) pC.nd rfl (pQ ["_law_hearth_here", "_law_known"] rfl ∅ ∅ ∅ ∅ ∅ (bz.mpr ⟨by first|exact Or.inl rfl|exact Or.inr rfl,(bz.mpr ⟨by first|exact Or.inl rfl|exact Or.inr rfl,(nofun)⟩)⟩) ⟨rfl,by decide +kernel,⟨rfl,by decide +kernel,trivial⟩⟩) (qX U jJ<|j9 tu Z pT<|jz (kN (jw 2) jJ) jD) (λ_ _ _ _=>jO (i:=0) (show(["_law_k", "_law_hearth_here", "_law_known"]:am).Nodup by decide +kernel) rfl (Or.inr rfl)<|.inl rfl) (λ_ _ _ _=>qc) λ_ _ _ _=>mO (N:=["_law_one", "_law_hearth_here", "_law_k", "_law_known"]) (cap:=[none,some 1,some 0,some 2]) rfl (pQ ["_law_hearth_here", "_law_k", "_law_known"] rfl ∅ ∅ ∅ ∅ ∅ (bz.mpr ⟨by first|exact Or.inl rfl|exact Or.inr rfl,(bz.mpr ⟨by first|exact Or.inl rfl|exact Or.inr rfl,(bz.mpr ⟨by first|exact Or.inl rfl|exact Or.inr rfl,(nofun)⟩)⟩)⟩) ⟨rfl,by decide +kernel,⟨rfl,by decide +kernel,⟨rfl,by decide +kernel,trivial⟩⟩⟩) (lZ<|jw 1) (λ_ _ _ _=>jO (i:=0) (show(["_law_one", "_law_hearth_here", "_law_k", "_law_known"]:am).Nodup by decide +kernel) rfl (Or.inl rfl)<|.inr rfl) (λ_ _ _ _=>qc) λ_ _ _ _=>fn4 acH c (jw 0) (jw 1) (jw 2)<|jw 3)
 (jC (jY (i:=5) pC.nd<|mX (Dm rfl) aae uL<|jz (jw 2) jD)
 (jC (k_ bL rfl (tD U jJ) (jO (i:=6) pC.nd)
 (jC (jY (i:=7) pC.nd<|Ci acI c<|jw 5)
 (jC (lY (AW.at<|LM (zE<|qb<|Hw acN c (jw 7)<|jw 4)<|E_<|kg (Fg c.units) (jw 5)<|jw 2)
 (jF<|j3 B3)
 kB)
 (jC (k_ bL rfl (EA J<|jw 7) (oK rfl<|j0 (jO (i:=8) pC.nd)<|j0 (jO (i:=9) pC.nd) mQ)
 (jF (k_ bL rfl (EA J<|jw 9) (oK rfl<|j0 (jO (i:=10) pC.nd)<|j0 (jO (i:=11) pC.nd) mQ)
 (jF<|kL<|sf bX bY mU (jw 11)<|jz (jU mF (jU mF (jU BW jJ<|jw 8)<|jw 10) jJ) jD))))
 (jC (k_ bL rfl (EA J<|jw 4) (oK rfl<|j0 (jO (i:=8) pC.nd)<|j0 (jO (i:=9) pC.nd) mQ)
 (jC (lY (kg (Fg c.units) (kN (jw 7)<|jw 8)<|mO (N:=["_law_i", "_law_row_here", "_law_k"]) (cap:=[none,none,some 8]) rfl (pQ ["_law_k"] rfl ∅ ∅ ∅ ∅ ∅ (bz.mpr ⟨by first|exact Or.inl rfl|exact Or.inr rfl,(nofun)⟩) ⟨rfl,by decide +kernel,trivial⟩) (EA J<|jw 9) (λ_ _ _ _=>oK rfl<|j0 (jO (i:=0) (show(["_law_i", "_law_row_here", "_law_k"]:am).Nodup by decide +kernel) rfl (Or.inl rfl)<|.inr rfl)<|j0 (jO (i:=1) (show(["_law_i", "_law_row_here", "_law_k"]:am).Nodup by decide +kernel) rfl (Or.inl rfl)<|.inr rfl) mQ) (λ_ _ _ _=>qc) λ_ _ _ _=>jU mF (jw 1)<|mz<|jz (jU mF (jU mF (jU BW jJ<|jw 2)<|jw 0) jJ) jD)
 (jF<|j3 B3)
 kB)
 (jF<|kL<|sf bX bY mU (kN (jw 7)<|jw 8)<|jz (mz jD) jD)))
 (jF<|kL<|sf bX bY mU (jw 7)<|jz (mz jD) jD))))))
 (jF<|j3 B3))))))
end
end K69
namespace Po
open Am
meta abbrev Pl:=List<|Int×Int
abbrev val (d:Pl)(k:Int):Int:=((d.find? λp=>decide<|p.1=k).map (·.2)).getD 0
abbrev has (d:Pl)(k:Int):Bool:=d.any λp=>decide<|p.1=k
abbrev put (d:Pl)(k v:Int):Pl:=if has d k=true then d.map (λp=>if p.1=k then(p.1,v)else p)else d++[(k,v)]
abbrev acc (d:Pl)(k v:Int):Pl:=put d k<|val d k+v
abbrev cf:Pl->Int->Int
 | [],_=>0
 | p::l,k=>(if p.1=k then p.2 else 0)+cf l k
def oQ{p:Int×Int}{d:Pl}{k:Int}:val (p::d) k=if p.1=k then p.2 else val d k:=by
 unfold val;rw[b5];by_cases h:p.1=k
 ·rw[bg h,aR h];rfl
 ·rw[bH h,aN h]
def AK{p:Int×Int}{d:Pl}{k:Int}:has (p::d) k=(decide (p.1=k) || has d k):=rfl
def uh{d:Pl}{k:Int}:has d k=true ↔ k∈d.map Prod.fst:=by
 unfold has;rw[f6,aX];constructor
 ·rintro⟨p,h1,h2⟩;exact⟨p,h1,bE h2⟩
 ·rintro⟨p,h1,h2⟩;exact⟨p,h1,bg h2⟩
def IY{d:Pl}{k:Int}(h:has d k=false):val d k=0:=by
 induction d with
 | nil=>rfl
 | cons p d c=>
  rw[AK,iD]at h;rw[oQ,aN<|dJ h.1,c h.2]
def Ul{d:Pl}{k v j:Int}(h:has d k=false):val (d++[(k,v)]) j=if j=k then v else val d j:=by
 induction d with
 | nil=>
  show val [(k,v)] j=_;rw[oQ];by_cases c:k=j
  ·rw[aR c,aR c.symm]
  ·rw[aN c,aN λz=>c z.symm]
 | cons p d f=>
  rw[AK,iD]at h;have:=dJ h.1;rw[i_,oQ,oQ,f h.2];by_cases c:p.1=j
  ·rw[aR c,aR c,aN λz=>this<|c.trans z]
  ·rw[aN c,aN c]
def Td{d:Pl}{k v j:Int}:val (d.map λp=>if p.1=k then(p.1,v)else p) j=if j=k/\has d k=true then v else val d j:=by
 induction d with
 | nil=>
  rw[aN λz=>by cases z.2];rfl
 | cons p d f=>
  rw[bF,oQ,oQ,f,AK];by_cases c:p.1=k
  ·rw[aR c,bg c,Bool.true_or];by_cases e:j=k
   ·rw[aR<|show p.1=j by lia,aR ⟨e,rfl⟩]
   ·rw[aN<|show ¬p.1=j by lia,aN λz=>e z.1,aN λz=>e z.1,aN<|show ¬p.1=j by lia]
  ·rw[aN c,bH c,gc];by_cases e:p.1=j
   ·rw[aR e,aR e,aN λz=>c<|e.trans z.1]
   ·rw[aN e,aN e]
def Vr{d:Pl}{k v j:Int}:val (put d k v) j=if j=k then v else val d j:=by
 unfold put
 cases h:has d k with
 | true=>
  rw[aR rfl,Td,h];by_cases c:j=k
  ·rw[aR ⟨c,rfl⟩,aR c]
  ·rw[aN λz=>c z.1,aN c]
 | false=>rw[aN<|by simp,Ul h]
def UK{d:Pl}{k v j:Int}:val (acc d k v) j=val d j+if k=j then v else 0:=by
 unfold acc;rw[Vr];by_cases c:j=k
 ·subst c;rw[aR rfl,aR rfl]
 ·rw[aN c,aN λz=>c z.symm,c9]
def GG{d:Pl}{k v:Int}:(put d k v).map Prod.fst=if has d k=true then d.map Prod.fst else d.map Prod.fst++[k]:=by
 unfold put;split
 ·rw[bC];apply cg;intro p _;show(if p.1=k then(p.1,v)else p).1=p.1;split<;>rfl
 ·rw[bB];rfl
def YK{d:Pl}{k v:Int}(h:(d.map Prod.fst).Nodup):((put d k v).map Prod.fst).Nodup:=by
 rw[GG];split
 ·exact h
 ·rename_i c;rw[bN];refine⟨h,c5 _ _,λa ha b hb z=>c ?_⟩;rw[aW]at hb;rw[uh,<- hb,<- z];exact ha
def VE{d:Pl}{k v:Int}:(put d k v).length<=d.length+1:=by
 unfold put;split
 ·rw[aF];lia
 ·rw[bq];exact aP _
abbrev Bd (c:Nat)(d:Pl):Prop:=∀p∈d,p.2.natAbs<=c
theorem Bd.val{c:Nat}{d:Pl}(h:Bd c d)(k:Int):(val d k).natAbs<=c:=by
 induction d with
 | nil=>exact bW _
 | cons p d f=>
  rw[oQ];split
  ·exact h p (aJ ..)
  ·exact f λq g=>h q<|aO _ g
abbrev pP (d ps:Pl):Pl:=ps.foldl (λd p=>acc d p.1 p.2) d
def Ra(d:Pl):pP d []=d:=rfl
def yD(d ps J:Pl):pP d (ps++J)=pP (pP d ps) J:=by unfold pP;rw[eU]
def v9(ps:Pl):∀(d:Pl) (k:Int),val (pP d ps) k=val d k+cf ps k:=by
 induction ps with
 | nil=>intro d k;rw[Ra];show _=_+0;rw[c9]
 | cons p ps c=>
  intro d k;show val (pP (acc d p.1 p.2) ps) k=_;rw[c,UK];show _=_+(_+_);rw[eZ]
def rW(ps:Pl):∀{d:Pl},(d.map Prod.fst).Nodup->((pP d ps).map Prod.fst).Nodup:=by
 induction ps with
 | nil=>intro d h;exact h
 | cons p ps c=>intro d h;exact c<|YK h
def rC(ps:Pl):∀(d:Pl),(pP d ps).length<=d.length+ps.length:=by
 induction ps with
 | nil=>intro d;exact aP _
 | cons p ps c=>
  intro d;have h1:=c<|acc d p.1 p.2;have h2:(acc d p.1 p.2).length<=d.length+1:=VE;show(pP (acc d p.1 p.2) ps).length<=_;rw[bR]
  lia
structure Ok (l:Pl):Prop where
 up:l.Pairwise λp q=>p.1<q.1
 nz:∀p∈l,p.2≠0
def Ok.tail{p:Int×Int}{l:Pl}(h:Ok (p::l)):Ok l:=⟨(cA.mp h.up).2,λq c=>h.nz q<|aO _ c⟩
def F5{l:Pl}{k:Int}(h:∀p∈l,k<p.1):cf l k=0:=by
 induction l with
 | nil=>rfl
 | cons p l c=>
  show(if p.1=k then p.2 else 0)+cf l k=0;have:=h p<|aJ ..;rw[aN (),c λq d=>h q<|aO _ d];rfl
def Ok.head{p:Int×Int}{l:Pl}(h:Ok (p::l)):cf (p::l) p.1=p.2:=by
 show(if p.1=p.1 then p.2 else 0)+cf l p.1=p.2;rw[aR rfl,F5 (cA.mp h.up).1,c9]
def Ok.low{p:Int×Int}{l:Pl}(h:Ok (p::l)){k:Int}(J:k<p.1):cf (p::l) k=0:=F5 λq c=>by
 rcases bw.mp c with rfl|z
 ·exact J
 ·have:=(cA.mp h.up).1 q z;lia
theorem uniq:∀{l m:Pl},Ok l->Ok m->(∀k,cf l k=cf m k)->l=m
 | [],[],_,_,_=>rfl
 | [],q::m,_,h,e=>by
  have:=e q.1;rw[h.head]at this;exact absurd this.symm<|h.nz q<|aJ ..
 | p::l,[],h,_,e=>by
  have:=e p.1;rw[h.head]at this;exact absurd this<|h.nz p<|aJ ..
 | p::l,q::m,h,h',e=>by
  have d:=h.nz p<|aJ ..;have f:=h'.nz q<|aJ ..;have e1:p.1=q.1:=by
   rcases Int.lt_trichotomy p.1 q.1 with c|c|c
   ·have:=e p.1;rw[h.head,h'.low c]at this;exact absurd this d
   ·exact c
   ·have:=e q.1;rw[h'.head,h.low c]at this;exact absurd this.symm f
  have e2:p.2=q.2:=by
   have:=e p.1;rw[h.head,e1,h'.head]at this;exact this
  have e3:p=q:=Prod.ext e1 e2;subst e3;rw[uniq h.tail h'.tail λk=>by
   have:(if p.1=k then p.2 else 0)+cf l k=(if p.1=k then p.2 else 0)+cf m k:=e k
   lia]
abbrev Mm (d:Pl):Pl:=((sortI<|d.map Prod.fst).filter λk=>val d k != 0).map λk=>(k,val d k)
def U6{ks:ae}(h:ks.Nodup):(sortI ks).Pairwise (· < ·):=by
 have p:=By ks;have n:(sortI ks).Nodup:=(sortI_perm ks).nodup_iff.mpr h;have:(sortI ks).Pairwise λa b=>a<=b/\a≠b:=p.and n;exact this.imp λ⟨a,b⟩=>()
def Dv{d:Pl}(h:(d.map Prod.fst).Nodup):Ok (Mm d):=by
 refine⟨?_,λp c=>?_⟩
 ·unfold Mm;rw[cN];exact(U6 h).filter _
 ·obtain⟨k,f,rfl⟩:=aX.mp c;have:=(bO.mp f).2;simpa using this
theorem RI{d:Pl}{k:Int}:∀{ks:ae},ks.Nodup->cf (ks.map λj=>(j,val d j)) k=if k∈ks then val d k else 0
 | [],_=>by rw[aN<|by simp];rfl
 | j::ks,h=>by
  obtain⟨h1,h2⟩:=bZ.mp h;show(if j=k then val d j else 0)+cf (ks.map λj=>(j,val d j)) k=_;rw[RI h2];by_cases c:j=k
  ·subst c;rw[aR rfl,aN h1,aR<|aJ ..,c9]
  ·rw[aN c,cP];by_cases e:k∈ks
   ·rw[aR e,aR<|aO _ e]
   ·rw[aN e,aN λz=>(bw.mp z).elim (λz=>c z.symm) e]
def ET{d:Pl}(h:(d.map Prod.fst).Nodup)(k:Int):cf (Mm d) k=val d k:=by
 unfold Mm;rw[RI<|((sortI_perm _).nodup_iff.mpr h).filter _];split
 ·rfl
 ·rename_i c
  cases e:has d k with
  | false=>exact(IY e).symm
  | true=>
   by_cases z:val d k=0
   ·exact z.symm
   ·exact absurd (bO.mpr ⟨(sortI_perm _).mem_iff.mpr<|uh.mp e,by simpa using z⟩) c
def ZC{d e:Pl}(h:(d.map Prod.fst).Nodup)(h':(e.map Prod.fst).Nodup)(hv:∀k,val d k=val e k):Mm d=Mm e:=
 uniq (Dv h) (Dv h') λk=>by rw[ET h,ET h',hv]
def Ok.nd{l:Pl}(h:Ok l):(l.map Prod.fst).Nodup:=by
 unfold List.Nodup;rw[cN];exact h.up.imp λa=>()
def zp{l:Pl}(h:(l.map Prod.fst).Nodup)(k:Int):val l k=cf l k:=by
 induction l with
 | nil=>rfl
 | cons p l d=>
  obtain⟨h1,h2⟩:=bZ.mp h;rw[oQ];show _=(if p.1=k then p.2 else 0)+cf l k;rw[<- d h2];by_cases c:p.1=k
  ·have:has l k=false:=by
    cases e:has l k with
    | false=>rfl
    | true=>exact absurd (uh.mp e)<|by rw[<- c];exact h1
   rw[aR c,aR c,IY this,c9]
  ·rw[aN c,aN c,cP]
abbrev Ob (d ps:Pl):Pl:=ps.foldl (λd p=>put d p.1 p.2) d
theorem Lg:∀(ps d:Pl),((d++ps).map Prod.fst).Nodup->Ob d ps=d++ps
 | [],d,_=>by rw[cj];rfl
 | p::ps,d,h=>by
  have hn:has d p.1=false:=by
   cases e:has d p.1 with
   | false=>rfl
   | true=>
    rw[bB,bN]at h;exact absurd rfl<|h.2.2 _ (uh.mp e) p.1<|e_<|aJ ..
  have e:put d p.1 p.2=d++[p]:=by unfold put;rw[hn];rfl
  show Ob (put d p.1 p.2) ps=_;rw[e,Lg ps (d++[p])<|by rw[cG];exact h,cG];rfl
def JZ{l:Pl}(h:Ok l):Ob [] l=l:=Lg l [] h.nd
abbrev plus (a b:Pl):Pl:=Mm<|pP a b
abbrev q_ (a b:Pl):Pl:=Mm<|pP []<|a++b
def Vv{a b:Pl}(h:Ok a):plus a b=q_ a b:=by
 refine ZC (rW _ h.nd) (rW _ cT) λk=>?_;rw[v9,v9,zp h.nd];have:∀(a b:Pl),cf (a++b) k=cf a k+cf b k:=λa b=>by
  induction a with
  | nil=>exact(cP _).symm
  | cons p a c=>
   show _+cf (a++b) k=_+_+_;rw[c,eZ]
 rw[this];show _=0+_;rw[cP]
def AQ(a b:Pl):Ok (q_ a b):=Dv<|rW _ cT
abbrev JS (a b:Pl):Pl:=a.flatMap λp=>b.map λq=>(p.1+q.1,p.2 * q.2)
abbrev times (a b:Pl):Pl:=Mm<|pP []<|JS a b
def A6(a b:Pl):Ok (times a b):=Dv<|rW _ cT
def Pb(a:Pl)(p:Int×Int)(b:Pl):JS (a++[p]) b=JS a b++b.map λq=>(p.1+q.1,p.2 * q.2):=by
 unfold JS;rw[d7,eV,ja,cj]
def KR(a b:Pl):(JS a b).length=a.length * b.length:=by
 induction a with
 | nil=>simp[JS]
 | cons p a c=>
  show((b.map _)++JS a b).length=_;rw[bq,aF,c,bR,je]
  lia
abbrev turn (a:Pl):Pl:=a.reverse.map λp=>(-p.1,p.2)
abbrev iv (d:Pl):List (Int×A):=d.map λp=>(p.1,.int p.2)
abbrev pA (p:Int×Int):A:=.tup [.int p.1,.int p.2]
abbrev pl (l:Pl):ab:=l.map pA
def Ao(d:Pl)(k:Int):lD (iv d) k=(d.find? λp=>decide<|p.1=k).map λp=>.int p.2:=by
 unfold lD iv;rw[gV,eG];rfl
def zI(d:Pl)(k:Int):(lD (iv d) k).getD (.int 0)=.int (val d k):=by
 rw[Ao];unfold val
 cases d.find? λp=>decide (p.1=k)<;>rfl
def wD{d:Pl}{k:Int}(h:k∈d.map Prod.fst):lD (iv d) k=some (.int<|val d k):=by
 have:=uh.mpr h;unfold has at this;rw[Ao];unfold val
 cases e:d.find? λp=>decide (p.1=k)with
 | some p=>rfl
 | none=>
  obtain⟨p,c,f⟩:=f6.mp this;exact absurd f<|gC.mp e p c
def yQ(d:Pl)(k v:Int):sO (iv d) k (.int v)=iv (put d k v):=by
 have e:(lD (iv d) k).isSome=has d k:=by
  rw[Ao,eS];unfold has;rw[Bool.eq_iff_iff,fP,f6]
 unfold sO put;rw[e];unfold iv;split
 ·rw[bC,bC];apply cg;intro p _;show(if p.1=k then(p.1,A.int v)else(p.1,.int p.2))=_;show _=((if p.1=k then(p.1,v)else p).1,A.int (if p.1=k then(p.1,v)else p).2);split<;>rfl
 ·rw[bB];rfl
def Vp(d:Pl):(iv d).map Prod.fst=d.map Prod.fst:=by
 unfold iv;rw[bC];rfl
theorem Ph:∀l:Pl,U9 (pl l)=some (iv l)
 | []=>rfl
 | p::l=>by
  show(U9<|pl l).map _=_;rw[Ph l];rfl
def LS(l:Pl):VN (iv l)=iv (Ob [] l):=by
 have:∀(l d:Pl),(iv l).foldl (λacc p=>sO acc p.1 p.2) (iv d)=iv (Ob d l):=by
  intro l
  induction l with
  | nil=>intro d;rfl
  | cons p l c=>
   intro d;show(iv l).foldl _ (sO (iv d) p.1<|.int p.2)=_;rw[yQ,c];rfl
 exact this l []
end Po
namespace Tb
abbrev fg (r:ae)(x:Int):Nat:=r.findIdx λy=>decide<|x<y
abbrev put:List (ae)->Int->List (ae)
 | [],x=>[[x]]
 | r::rs,x=>if fg r x=r.length then(r++[x])::rs else r.set (fg r x) x::put rs (r.getD (fg r x) 0)
abbrev row:List (ae)->Int->Nat
 | [],_=>0
 | r::rs,x=>if fg r x=r.length then 0 else row rs (r.getD (fg r x) 0)+1
abbrev add:List (ae)->Nat->Int->List (ae)
 | [],_,k=>[[k]]
 | q::qs,0,k=>(q++[k])::qs
 | q::qs,i+1,k=>q::add qs i k
abbrev tabs (xs:ae):Nat->List (ae)×List (ae)
 | 0=>([],[])
 | i+1=>(put (tabs xs i).1<|xs.getD i 0,add (tabs xs i).2 (row (tabs xs i).1<|xs.getD i 0)<|(i:Int)+1)
abbrev gs (r:ae)(x:Int):ag:=(List.range r.length).filter λk=>decide<|x<r.getD k 0
end Tb
namespace Am
open PySem L2
abbrev Rows (S:jB):ag->List (ae)->Prop
 | [],[]=>True
 | r::rs,x::T=>jA S r=some (x.map .int)/\Rows S rs T
 | _,_=>False
theorem Rows.len:∀{rs:ag}{T:List<|ae},Rows S rs T->rs.length=T.length
 | [],[],_=>rfl
 | _::_,_::_,h=>cH (·+1) (Rows.len h.2)
 | [],_::_,h=>h.elim
 | _::_,[],h=>h.elim
theorem Rows.get:∀{rs:ag}{T:List<|ae}{i:Nat}{r:Nat},Rows S rs T->rs[i]?=some r->i<T.length/\jA S r=some ((T.getD i []).map .int)
 | [],[],_,_,_,e=>by simp at e
 | r::rs,x::T,0,_,h,e=>by simp at e;subst e;exact⟨Nat.zero_lt_succ _,h.1⟩
 | r::rs,x::T,i+1,q,h,e=>by
  obtain⟨h1,h2⟩:=Rows.get (i:=i) (r:=q) h.2 (by simpa using e);exact⟨Nat.succ_lt_succ h1,by simpa using h2⟩
 | [],_::_,_,_,h,_=>h.elim
 | _::_,[],_,_,h,_=>h.elim
theorem Rows.mono:∀{rs:ag}{T:List<|ae},Rows S rs T->(∀r∈rs,∀xs,jA S r=some xs->jA S' r=some xs)->Rows S' rs T
 | [],[],_,_=>trivial
 | r::rs,x::T,h,k=>⟨k r (aJ ..) _ h.1,Rows.mono h.2 λq c=>k q<|aO _ c⟩
 | [],_::_,h,_=>h.elim
 | _::_,[],h,_=>h.elim
theorem Rows.set{S:jB}{ys:ae}:∀{rs:ag}{T:List<|ae}{i:Nat}{r:Nat},Rows S rs T->rs.Nodup->rs[i]?=some r->Rows (S.set r<|.lst<|ys.map .int) rs (T.set i ys)
 | [],[],_,_,_,_,e=>by simp at e
 | r::rs,x::T,0,q,h,nd,e=>by
  simp at e;subst e;refine⟨pK<|mw h.1,Rows.mono h.2 λq d xs e=>?_⟩;rw[kM<|show r≠q from λz=>(bZ.mp nd).1<|by rw[z];exact d];exact e
 | r::rs,x::T,i+1,q,h,nd,e=>by
  have c:rs[i]?=some q:=by simpa using e
  refine⟨?_,Rows.set h.2 (bZ.mp nd).2 c⟩;rw[kM<|show q≠r from λz=>(bZ.mp nd).1<|by rw[<- z];exact aY c];exact h.1
 | [],_::_,_,_,h,_,_=>h.elim
 | _::_,[],_,_,h,_,_=>h.elim
theorem Rows.app:∀{rs rs':ag}{T T':List<|ae},Rows S rs T->Rows S rs' T'->Rows S (rs++rs') (T++T')
 | [],_,[],_,_,h=>h
 | r::rs,_,x::T,_,h,h'=>⟨h.1,Rows.app h.2 h'⟩
 | [],_,_::_,_,h,_=>h.elim
 | _::_,_,[],_,h,_=>h.elim
theorem C8{n:Nat}:∀{rs rs':ag}{T T':List<|ae},Rows S rs T->Rows S rs' T'->pW (rQ S<|n+2) (rs.map .ref) (rs'.map .ref)=some (decide<|T=T')
 | [],[],[],[],_,_=>rfl
 | [],_::_,[],_::_,_,_=>rfl
 | _::_,[],_::_,[],_,_=>rfl
 | r::rs,q::qs,x::T,y::T',h,h'=>by
  show(rQ S (n+2) (.ref r)<|.ref q).bind _=_;have e:rQ S (n+2) (.ref r) (.ref q)=some (decide<|x=y):=by
   show(jA S r).bind (λxs=>(jA S q).bind λys=>pW (rQ S<|n+1) xs ys)=_;rw[h.1,bQ,h'.1,bQ];exact tU x y
  rw[e,bQ]
  skip
  rw[C8 h.2 h'.2]
  skip
  by_cases h1:x=y<;>by_cases h2:T=T'<;>simp[h1,h2]
 | [],_,_::_,_,h,_=>h.elim
 | _::_,_,[],_,h,_=>h.elim
 | _,[],_,_::_,_,h=>h.elim
 | _,_::_,_,[],_,h=>h.elim
structure Tab (S:jB)(n:Nat)(rs:ag)(T:List (ae)):Prop where
 top:jA S n=some (rs.map .ref)
 rows:Rows S rs T
 nd:(n::rs).Nodup
def Tab.len{n:Nat}{J:ag}{T:List<|ae}(h:Tab S n J T):J.length=T.length:=h.rows.len
def Tab.kp{n:Nat}{c:Nat->Prop}(h:Tab S n rs T)(k:Kp c S S')(hc:∀r∈n::rs,¬c r):Tab S' n rs T:=
 ⟨k.lst _ _ (hc n<|aJ ..) h.top,h.rows.mono λr d xs e=>k.lst r xs (hc r<|aO _ d) e,h.nd⟩
def Tab.wB{n:Nat}(h:Tab S n rs T)(k:kO S S'):Tab S' n rs T:=h.kp k λ_ _ z=>z
def Rows.lt{S:jB}{J:ag}(h:Rows S J T):∀r∈J,r<S.length:=λr c=>by
 obtain⟨i,d,e⟩:=iB.mp c;exact mw (h.get<|by rw[aH d,e]).2
def Tab.lt{S:jB}{n:Nat}(h:Tab S n rs T):∀r∈n::rs,r<S.length:=λr c=>by
 rcases bw.mp c with z|z
 ·rw[z];exact mw h.top
 ·exact h.rows.lt r z
def Tab.set{S:jB}{n:Nat}{T:List<|ae}{i r:Nat}{ys:ae}(h:Tab S n rs T)(hi:rs[i]?=some r):Tab (S.set r<|.lst<|ys.map .int) n rs (T.set i ys):=
 ⟨by rw[kM<|show r≠n from λz=>(bZ.mp h.nd).1<|by rw[<- z];exact aY hi];exact h.top,h.rows.set (bZ.mp h.nd).2 hi,h.nd⟩
def Tab.push{S:jB}{n:Nat}{ys:ae}(h:Tab S n rs T):Tab ((S++[O.lst<|ys.map .int]).set n<|.lst<|(rs++[S.length]).map .ref) n (rs++[S.length]) (T++[ys]):=by
 have hn:n<S.length:=h.lt n<|aJ ..;have d:∀r∈rs,n≠r:=λr c z=>(bZ.mp h.nd).1<|z ▸ c;refine⟨pK<|by rw[bq];simp;lia,Rows.app (h.rows.mono λr c xs e=>?_) ⟨?_,trivial⟩,?_⟩
 ·rw[kM<|d r c];exact ki e
 ·rw[kM ()];exact jQ
 ·rw[bZ,bN];refine⟨λz=>?_,(bZ.mp h.nd).2,by simp,λa ha b hb z=>?_⟩
  ·rcases bJ.mp z with z|z
   ·exact d n z rfl
   ·have:n=S.length:=by simpa using z
    lia
  ·have f:b=S.length:=by simpa using hb
   have:=h.rows.lt a ha
   lia
def Tab.eq{n:Nat}(h:Tab S n rs T)(h':Tab S m qs U):rQ S 12 (.ref n) (.ref m)=some (decide<|T=U):=by
 show(jA S n).bind (λxs=>(jA S m).bind λys=>pW (rQ S 11) xs ys)=_;rw[h.top,bQ,h'.top,bQ];exact C8 h.rows h'.rows
def Tab.nil{n:Nat}(h:jA S n=some []):Tab S n [] []:=⟨h,trivial,by simp⟩
theorem Hu{s:Src}{g:Tg}{e:Ex}{T:ab->Prop}(P:Nat->ab->jB->Prop)
  (step:∀i acc τ S,i<s.k->T τ->P i acc S->∃x τ1 S1 y S3,s.get i S=some x/\g x τ S=.ok τ1 S1/\T τ1/\e τ1 S1=.ok y S3/\P (i+1) (acc++[y]) S3) (J:∀acc S,P s.k acc S->s.fin S=true) :
  ∀k i acc τ S,k+i=s.k->T τ->P i acc S->∃ys S',mR s g nN e k i τ S=.ok ys S'/\P s.k (acc++ys) S'
 | 0,i,acc,τ,S,hk,hT,hP=>by
  have:i=s.k:=()
  subst this;exact⟨[],S,by unfold mR;rw[aR<|J acc S hP],by rw[cj];exact hP⟩
 | k+1,i,acc,τ,S,hk,hT,hP=>by
  obtain⟨x,τ1,S1,y,S3,f,hg,c,j,d⟩:=step i acc τ S () hT hP;obtain⟨ys,S',h1,h2⟩:=Hu P step J k (i+1) (acc++[y]) τ1 S3 () c d;refine⟨y::ys,S',?_,by rw[cG]at h2;exact h2⟩;unfold mR;rw[f,jS,hg,R.kJ];show(e τ1 S1).tB _=_;rw[j,R.kJ,h1];rfl
def eq_nil{a b:Nat}{xs:ab}(h:jA S a=some xs)(h':jA S b=some []):rQ S 12 (.ref a) (.ref b)=some xs.isEmpty:=by
 show(jA S a).bind (λxs=>(jA S b).bind λys=>pW (rQ S 11) xs ys)=_;rw[h,bQ,h',bQ]
 cases xs<;>rfl
def HJ{a b:A}{k:Bool}(h:rQ S 12 a b=some k):s_ false a b S=.ok (.bl k) S:=by unfold s_;rw[h];rfl
def IM{a b:A}{k:Bool}(h:rQ S 12 a b=some k):s_ true a b S=.ok (.bl<|!k) S:=by unfold s_;rw[h];rfl
def OC{xs:ab}{n:Nat}{src:Ic}{t:Te}{e:Ex}{S:jB}(hs:src τ S=.ok (lJ n xs.length) S)(J:jA S n=some xs)(p:A->Bool)(f:A->A)
  (U:∀x∈xs,t (x::mj cap τ) S=.ok (p x) S) (Z:∀x∈xs,p x=true->e (x::mj cap τ) S=.ok (f x) S) (hl:xs.length<=16777216) :
  j8 (none::cap) src (jX 0) t e τ S=.ok (.ref S.length) (S++[.lst<|(xs.filter p).map f]):=by
 have d:∀i,i<xs.length->xs.getD i .unb∈xs:=λi c=>by
  rw[aL,aH c];exact cK c
 rw[CA hs (λi=>xs.getD i .unb) (λi=>p<|xs.getD i .unb) (λi=>f<|xs.getD i .unb) (λi c=>by
  have c:i<xs.length:=c;show(jA S n).bind _=_;rw[J,bQ,aL,aH c];rfl) (by
   show(match jA S n with
    | some ys=>decide (ys.length<=xs.length)
    | none=>false)=true
   rw[J];simp) (λi c=>U _<|d i c) (λi c=>Z _<|d i c) hl]
 have:=p6 xs p f .unb;show R.ok _ (S++[O.lst<|((List.range xs.length).filter _).map _])=_;rw[this]
def getD_at{r:ae}{k:Nat}(h:k<r.length):r[k]?=some (r.getD k 0):=by rw[aL,aH h];rfl
def O2{r:ae}{i:Int}{k:Nat}(h:i=k)(J:k<r.length):sN (r.map A.int) i=some (.int<|r.getD k 0):=Dt h<|getD_at J
end Am
namespace Am
open PySem L2 Po
def N_(l:Pl):(pl l).length=l.length:=aF ..
def MG{xs:ab}{n:Nat}{src:Ic}{t:Te}{e:Ex}{S1:jB}(hs:src τ S=.ok (lJ n xs.length) S1)(J:jA S1 n=some xs)(p:A->Bool)(f:A->A)
  (U:∀x∈xs,t (x::mj cap τ) S1=.ok (p x) S1) (Z:∀x∈xs,p x=true->e (x::mj cap τ) S1=.ok (f x) S1) (hl:xs.length<=16777216) :
  j8 (none::cap) src (jX 0) t e τ S=.ok (.ref S1.length) (S1++[.lst<|(xs.filter p).map f]):=by
 have:=OC (S:=S1) (src:=λ_ _=>.ok (lJ n xs.length) S1) (τ:=τ) rfl J p f U Z hl;unfold j8 at this ⊢;rw[hs];exact this
def ud{S:jB}{d:List<|Int×A}:kc (S++[.nQ d]) S.length=some d:=rY D5
def Ze{o:O}{n:Nat}{d:List<|Int×A}(h:kc S n=some d):kc (S++[o]) n=some d:=by
 have h':=mD h;exact rY<|by rw[bu (aG.mp h').1];exact h'
def C3{S:jB}{n:Nat}{d:List<|Int×A}(h:kc S n=some d):n<S.length:=(aG.mp<|mD h).1
def Fp{S:jB}{n:Nat}{d:List<|Int×A}(h:n<S.length):kc (S.set n<|.nQ d) n=some d:=rY<|bK h
def Kp.dk{b:Nat->Prop}(h:Kp b S S')(n:Nat)(d:List<|Int×A)(hb:¬b n)(e:kc S n=some d):kc S' n=some d:=rY<|h.obj n _ hb<|mD e
def Jk{n:Nat}{d:List<|Int×A}(h:kc S n=some d)(h':jA S m=some xs):n≠m:=λz=>by
 subst z;have e1:=mD h;rw[jP h']at e1
 cases e1
def Af{f:A->ab->jB->R A}{co:Ex}{d:qu}:GH f co d τ S=(co τ S).bind λx S1=>opt (dk? x S1) λ_=>(d τ S1).bind λas S2=>f x as S2:=rfl
def EV{n:Nat}:dk? (.ref n) S=(kc S n).map λ_=>Unit.unit:=rfl
def yg{n:Nat}{k:Int}:w_ (.ref n) [.int k,y] S=opt (kc S n) λkvs=>.ok ((lD kvs k).getD y) S:=rfl
def Ag{co J:Ex}{a:A}:GC co J a τ S=(co τ S).bind λo S1=>(J τ S1).bind λi S2=>(CV o i a S2).bind λ_ S3=>.ok τ S3:=rfl
def yq{n:Nat}{k:Int}{v:A}{S:jB}:CV (.ref n) (.int k) v S=opt (kc S n) λkvs=>gd (kvs.length<sizeLine) (.ok Unit.unit<|S.set n<|.nQ<|sO kvs k v):=rfl
def Km{n:Nat}{k:Int}:BR (.ref n) (.int k) S=opt (kc S n) λkvs=>opt (lD kvs k) λv=>.ok v S:=rfl
def qV{S:jB}:uN τ S=.ok (.ref S.length) (S++[.nQ []]):=rfl
def CS{n:Nat}{S:jB}:DQ (.ref n) S=opt (jA S n) λxs=>opt (U9 xs) λps=>.ok (.ref S.length) (S++[.nQ<|VN ps]):=rfl
def ab0{i j:Int}(h:i.natAbs<big)(h':j.natAbs<big):Gx (.int i) (.int j) S=.ok (.int<|i * j) S:=pR ⟨h,h'⟩
def EC(d:Pl):(iv d).length=d.length:=aF ..
meta abbrev ZX:Sm:=j7 (jH kZ (GH w_ (jx 2)<|jy (jx 3)<|jy (eC<|.int 0)<|jG)<|jx 4)<|GC (jx 2)<|jx 3
def acc_step{S:jB}{d:Nat}{D:Pl}{k v:Int}(J:kc S d=some (iv D))(U:D.length<16777216):ZX [x0,x1,.ref d,.int k,.int v] S=.nx [x0,x1,.ref d,.int k,.int v] (S.set d<|.nQ<|iv<|acc D k v):=by
 unfold ZX;dsimp[jW,bools,Af,EV,J,eL,yg,zI,Ag,yq,mV<|show(iv D).length<16777216 by rw[EC];exact U,yQ];rfl
meta abbrev SK:Tg:=x_ 2<|pM (jX 3)<|pM (jX 4) xZ
def VD{d n:Nat}{D l:Pl}{src:Ic}(hs:src [x0,x1,.ref d,x3,x4] S=.ok (lJ n (pl l).length) S1)(hn:jA S1 n=some (pl l))(J:kc S1 d=some (iv D))(U:D.length+l.length<16777216) :
  ∃y3 y4 S',ku src SK ZX [x0,x1,.ref d,x3,x4] S=.nx [x0,x1,.ref d,y3,y4] S'/\kc S' d=some (iv<|pP D l)/\Kp (·=d) S1 S':=by
 have nd:=Jk J hn;refine qe (n:=n) (xs:=pl l) hs (λi τ T=>(∃y3 y4,τ=[x0,x1,.ref d,y3,y4])/\kc T d=some (iv<|pP D<|l.take i)/\Kp (·=d) S1 T)
  (λr=>∃y3 y4 S',r=.nx [x0,x1,.ref d,y3,y4] S'/\kc S' d=some (iv<|pP D l)/\Kp (·=d) S1 S') ⟨⟨_,_,rfl⟩,J,Kp.refl⟩ (λi τ T h=>h.2.2.lst _ _ (Ne.symm nd) hn) ?_ ?_
 ·rintro i z τ T g ⟨⟨y3,y4,rfl⟩,c,kp⟩;unfold pl at g;rw[aK]at g;obtain⟨p,j,rfl⟩:=aQ.mp g;refine⟨[x0,x1,.ref d,.int p.1,.int p.2],T,rfl,.inl ?_⟩;have f:=rC (l.take i) D;have k:=(aG.mp j).1;rw[cu]at f;refine⟨_,_,acc_step c<|by omega,⟨_,_,rfl⟩,?_,kp.tV<|.inl rfl⟩;rw[Fp<|C3 c,b6,j,yD];rfl
 ·rintro τ T ⟨⟨y3,y4,rfl⟩,c,kp⟩;rw[N_,b8]at c;exact⟨y3,y4,T,rfl,c,kp⟩
meta abbrev UU:Sm:=j7 (jH kZ (GH w_ (jx 2)<|jy (jH kZ (jx 3)<|jx 5)<|jy (eC<|.int 0)<|jG)<|jH Gx (jx 4)<|jx 6)<|GC (jx 2)<|jH kZ (jx 3)<|jx 5
meta abbrev g56:Tg:=x_ 2<|pM (jX 5)<|pM (jX 6) xZ
def R_{S:jB}{d:Nat}{D:Pl}{k v j u:Int}(J:kc S d=some (iv D))(U:D.length<16777216)(hv:v.natAbs<big)(Z:u.natAbs<big):UU [x0,x1,.ref d,.int k,.int v,.int j,.int u] S=.nx [x0,x1,.ref d,.int k,.int v,.int j,.int u] (S.set d<|.nQ<|iv<|acc D (k+j)<|v * u):=by
 unfold UU;dsimp[jW,bools,Af,EV,J,eL,yg,zI,ab0 hv Z,Ag,yq,mV<|show(iv D).length<16777216 by rw[EC];exact U,yQ];rfl
def TU{d n:Nat}{D l:Pl}{k v:Int}(hn:jA S n=some (pl l))(J:kc S d=some (iv D))(Z:D.length+l.length<16777216)(hv:v.natAbs<big)(U:∀p∈l,p.2.natAbs<big) :
  ∃y5 y6 S',ku (ly<|jx 1) g56 UU [x0,.ref n,.ref d,.int k,.int v,x5,x6] S=.nx [x0,.ref n,.ref d,.int k,.int v,y5,y6] S'/\kc S' d=some (iv<|pP D<|l.map λq=>(k+q.1,v * q.2))/\Kp (·=d) S S':=by
 have nd:=Jk J hn;refine qe (n:=n) (xs:=pl l) (S1:=S) (l_ (by dsimp[jW,bools]) hn) (λi τ T=>(∃y5 y6,τ=[x0,.ref n,.ref d,.int k,.int v,y5,y6])/\kc T d=some (iv<|pP D<|(l.take i).map λq=>(k+q.1,v * q.2))/\Kp (·=d) S T)
  (λr=>∃y5 y6 S',r=.nx [x0,.ref n,.ref d,.int k,.int v,y5,y6] S'/\kc S' d=some (iv<|pP D<|l.map λq=>(k+q.1,v * q.2))/\Kp (·=d) S S') ⟨⟨_,_,rfl⟩,J,Kp.refl⟩ (λi τ T h=>h.2.2.lst _ _ (Ne.symm nd) hn) ?_ ?_
 ·rintro i z τ T j ⟨⟨y5,y6,rfl⟩,f,kp⟩;unfold pl at j;rw[aK]at j;obtain⟨p,g,rfl⟩:=aQ.mp j;refine⟨[x0,.ref n,.ref d,.int k,.int v,.int p.1,.int p.2],T,rfl,.inl ?_⟩;have c:=rC ((l.take i).map λq=>(k+q.1,v * q.2)) D;have m:=(aG.mp g).1;rw[aF,cu]at c;refine⟨_,_,R_ f (by omega) hv<|U p<|aY g,⟨_,_,rfl⟩,?_,kp.tV<|.inl rfl⟩;rw[Fp<|C3 f,b6,g,bB,yD];rfl
 ·rintro τ T ⟨⟨y5,y6,rfl⟩,f,kp⟩;rw[N_,b8]at f;exact⟨y5,y6,T,rfl,f,kp⟩
meta abbrev Zb:Sm:=ku (ly<|jx 1) g56 UU
def I0(f:Int×Int->A)(hf:∀p τ S,SK (f p) τ S=SK (pA p) τ S){d n:Nat}{a b:Pl}(hn:jA S n=some (a.map f))(Z:jA S m=some (pl b))(U:kc S d=some [])(hl:a.length * b.length<16777216)(ha:∀p∈a,p.2.natAbs<big)(hb:∀p∈b,p.2.natAbs<big) :
  ∃y3 y4 y5 y6 S',ku (ly<|jx 0) SK Zb [.ref n,.ref m,.ref d,x3,x4,x5,x6] S=.nx [.ref n,.ref m,.ref d,y3,y4,y5,y6] S'/\kc S' d=some (iv<|pP []<|JS a b)/\Kp (·=d) S S':=by
 have nd:=Jk U hn;have F:=Jk U Z;refine qe (n:=n) (xs:=a.map f) (S1:=S) (l_ (by dsimp[jW,bools]) hn) (λi τ T=>(∃y3 y4 y5 y6,τ=[.ref n,.ref m,.ref d,y3,y4,y5,y6])/\kc T d=some (iv<|pP []<|JS (a.take i) b)/\Kp (·=d) S T)
  (λr=>∃y3 y4 y5 y6 S',r=.nx [.ref n,.ref m,.ref d,y3,y4,y5,y6] S'/\kc S' d=some (iv<|pP []<|JS a b)/\Kp (·=d) S S') ⟨⟨_,_,_,_,rfl⟩,U,Kp.refl⟩ (λi τ T h=>h.2.2.lst _ _ (Ne.symm nd) hn) ?_ ?_
 ·rintro i z τ T C ⟨⟨y3,y4,y5,y6,rfl⟩,g,kp⟩;rw[aK]at C;obtain⟨p,q,rfl⟩:=aQ.mp C;refine⟨[.ref n,.ref m,.ref d,.int p.1,.int p.2,y5,y6],T,hf _ _ _,.inl ?_⟩;have c:=rC (JS (a.take i) b) [];have D:=(aG.mp q).1;rw[KR,cu,Nat.min_eq_left<|d8 D,fJ,cC]at c;have B:i * b.length+b.length<=a.length * b.length:=by rw[<- je];exact Nat.mul_le_mul_right _ D
  obtain⟨K,J,G,e,j,t⟩:=TU (x0:=.ref n) (x5:=y5) (x6:=y6) (k:=p.1) (v:=p.2) (kp.lst _ _ (Ne.symm F) Z) g () (ha p<|aY q) hb;refine⟨_,_,e,⟨_,_,_,_,rfl⟩,?_,kp.trans t⟩;rw[j,b6,q,Option.toList_some,Pb,yD]
 ·rintro τ T ⟨⟨y3,y4,y5,y6,rfl⟩,g,kp⟩;rw[aF,b8]at g;exact⟨y3,y4,y5,y6,T,rfl,g,kp⟩
end Am
namespace Su
open Am Po PySem L2
meta abbrev En:=ae×Nat×Pl
meta abbrev Es:=List En
abbrev ent (e:En):A:=.tup [.tup<|e.1.map .int,.ref e.2.1]
abbrev kv (e:En):ae×A:=(e.1,.ref e.2.1)
abbrev At (S:jB)(es:Es):Prop:=∀e∈es,jA S e.2.1=some (pl e.2.2)
meta abbrev Ps:=List<|ae×Pl
abbrev sm (es:Es):Ps:=es.map λe=>(e.1,e.2.2)
def uK(es:Es):(sm es).length=es.length:=aF ..
def xS(a b:Es):sm (a++b)=sm a++sm b:=bB
abbrev vS (D:Ps)(o:ae):Pl:=((D.find? λe=>decide<|e.1=o).map (·.2)).getD []
abbrev hS (D:Ps)(o:ae):Bool:=D.any λe=>decide<|e.1=o
abbrev zB (D:Ps)(o:ae)(p:Pl):Ps:=if hS D o=true then D.map (λe=>if e.1=o then(e.1,p)else e)else D++[(o,p)]
abbrev Bw (D:Ps)(o:ae)(p:Pl):Ps:=zB D o<|q_ (vS D o) p
abbrev adds (D l:Ps):Ps:=l.foldl (λD e=>Bw D e.1 e.2) D
def OL(D a b:Ps):adds D (a++b)=adds (adds D a) b:=by unfold adds;rw[eU]
abbrev toS (D:Ps):Ps:=((n8<|D.map Prod.fst).filter λo=>!(vS D o).isEmpty).map λo=>(o,vS D o)
abbrev fE (D:Es)(o:ae):Option En:=D.find? λe=>decide<|e.1=o
abbrev mL (D:Es)(o:ae)(r:Nat)(p:Pl):Es:=if (fE D o).isSome=true then D.map (λe=>if e.1=o then(e.1,r,p)else e)else D++[(o,r,p)]
def UR(D:Es)(o:ae):(sm D).find? (λe=>decide<|e.1=o)=(fE D o).map λe=>(e.1,e.2.2):=by
 unfold sm fE;rw[gV];rfl
def E3(D:Es)(o:ae):vS (sm D) o=((fE D o).map λe=>e.2.2).getD []:=by
 unfold vS;rw[UR,eG];rfl
def acX(D:Es)(o:ae):hS (sm D) o=(fE D o).isSome:=by
 unfold hS sm fE;rw[List.any_map,Bool.eq_iff_iff,fP,f6];rfl
def El(D:Es)(o:ae)(r:Nat)(p:Pl):sm (mL D o r p)=zB (sm D) o p:=by
 unfold mL zB;rw[acX];unfold sm;split
 ·rw[bC,bC];apply cg;intro e _;show((if e.1=o then(e.1,r,p)else e).1,(if e.1=o then(e.1,r,p)else e).2.2)=if e.1=o then(e.1,p)else(e.1,e.2.2)
  split<;>rfl
 ·rw[bB];rfl
def nP(D:Es)(o:ae):kH (D.map kv) o=(fE D o).map λe=>.ref e.2.1:=by
 unfold kH fE;rw[gV,eG];rfl
def Ba(D:Es)(o:ae)(r:Nat)(p:Pl):putD (D.map kv) o (.ref r)=(mL D o r p).map kv:=by
 unfold putD mL;rw[nP,eS];split
 ·rw[bC,bC];apply cg;intro e _;show(if e.1=o then(e.1,A.ref r)else(e.1,.ref e.2.1))=kv (if e.1=o then(e.1,r,p)else e);split<;>rfl
 ·rw[bB];rfl
def nM{D:Es}{r:Nat}{p:Pl}{e:En}(h:e∈mL D o r p):e∈D\/e=(o,r,p):=by
 unfold mL at h;split at h
 ·obtain⟨d,h1,rfl⟩:=aX.mp h;split
  ·rename_i c;exact .inr (by rw[c])
  ·exact .inl h1
 ·rcases bJ.mp h with z|z
  ·exact .inl z
  ·exact .inr<|aW.mp z
def Tr{D:Es}{r:Nat}{p:Pl}:(mL D o r p).length<=D.length+1:=by
 unfold mL;split
 ·rw[aF];lia
 ·rw[bq];exact aP _
def pB{D:Es}{e:En}(h:fE D o=some e):e∈D/\e.1=o:=⟨c_ h,by
 unfold fE at h;have:=gu h;simpa using this⟩
def At.put{D:Es}{r:Nat}{p:Pl}(h:At S D)(J:jA S r=some (pl p)):At S (mL D o r p):=λe c=>by
 rcases nM c with z|z
 ·exact h e z
 ·rw[z];exact J
def At.kp{D:Es}{b:Nat->Prop}(h:At S D)(k:Kp b S S')(hb:∀e∈D,¬b e.2.1):At S' D:=λe c=>k.lst _ _ (hb e c)<|h e c
def At.wB{D:Es}(h:At S D)(k:kO S S'):At S' D:=h.kp k λ_ _ z=>z
def At.app{a b:Es}(h:At S a)(h':At S b):At S (a++b):=λe c=>(bJ.mp c).elim (h e)<|h' e
def qD{n:Nat}{d:List<|ae×A}(h:jV S n=some d)(h':jA S m=some xs):n≠m:=λz=>by
 subst z;have e1:=lN h;rw[jP h']at e1
 cases e1
def At.Nj{D:Es}{d:Nat}(h:At S D)(k:Kp (·=d) S S')(J:jV S d=some kvs):At S' D:=h.kp k λe c z=>qD J (h e c) z.symm
abbrev Vl (k b:Nat)(D:Es):Prop:=∀e∈D,Ok e.2.2/\e.2.2.length<=k/\b<=e.2.1
def Vl.v{k b:Nat}{D:Es}(h:Vl k b D)(o:ae):Ok (vS (sm D) o)/\(vS (sm D) o).length<=k:=by
 rw[E3]
 cases e:fE D o with
 | none=>exact⟨⟨List.Pairwise.nil,nofun⟩,bW _⟩
 | some c=>exact⟨(h c (pB e).1).1,(h c (pB e).1).2.1⟩
def oR{S:jB}:jV (S++[.dct xs]) S.length=some xs:=qZ D5
def EE{o:O}{n:Nat}(h:jV S n=some xs):jV (S++[o]) n=some xs:=by
 have h':=lN h;exact qZ<|by rw[bu (aG.mp h').1];exact h'
def oJ{S:jB}{n:Nat}(h:jV S n=some xs):n<S.length:=(aG.mp<|lN h).1
def wJ{S:jB}{n:Nat}(h:n<S.length):jV (S.set n<|.dct ys) n=some ys:=qZ<|bK h
def VC{f:A->ab->jB->R A}{co:Ex}{d:qu}:Zo f co d τ S=(co τ S).bind λx S1=>opt (dct? x S1) λ_=>(d τ S1).bind λas S2=>f x as S2:=rfl
def T_{n:Nat}:dct? (.ref n) S=(jV S n).map λ_=>Unit.unit:=rfl
def qk{S:jB}:wY τ S=.ok (.ref S.length) (S++[.dct []]):=rfl
def ur{co J:Ex}{a:A}:Ca co J a τ S=(co τ S).bind λo S1=>(J τ S1).bind λi S2=>(yw o i a S2).bind λ_ S3=>.ok τ S3:=rfl
def TM{n:Nat}{o:ae}:ZN (.ref n) [.tup<|o.map .int,y] S=opt (jV S n) λkvs=>.ok ((kH kvs o).getD y) S:=by
 show opt (jV S n) (λkvs=>opt (A.ints<|o.map .int) λk=>.ok ((kH kvs k).getD y) S)=_;rw[ints_map];rfl
def tW{n:Nat}{o:ae}{v:A}{S:jB}:yw (.ref n) (.tup<|o.map .int) v S=opt (jV S n) λkvs=>gd (kvs.length<sizeLine) (.ok Unit.unit<|S.set n<|.dct<|putD kvs o v):=by
 show opt (jV S n) (λkvs=>opt (A.ints<|o.map .int) λc=>gd (kvs.length<sizeLine)<|.ok Unit.unit<|S.set n<|.dct<|putD kvs c v)=_;rw[ints_map];rfl
def ym{n:Nat}{o:ae}:zY (.ref n) (.tup<|o.map .int) S=opt (jV S n) λkvs=>opt (kH kvs o) λv=>.ok v S:=by
 show opt (jV S n) (λkvs=>opt (A.ints<|o.map .int) λc=>opt (kH kvs c) λv=>.ok v S)=_;rw[ints_map];rfl
def get_or{S:jB}{d:Nat}{D:Es}(U:jV S d=some (D.map kv))(J:At S D):∃x:Nat,(kH (D.map kv) o).getD (.ref S.length)=.ref x/\jA (S++[.lst []]) x=some (pl<|vS (sm D) o):=by
 rw[nP,E3]
 cases e:fE D o with
 | none=>exact⟨S.length,rfl,jQ⟩
 | some c=>exact⟨c.2.1,rfl,ki<|J c (pB e).1⟩
def Ae{α:Type}{xs:List α}(g:α->A){n:Nat}{src:Ic}{t:Te}{e:Ex}(hs:src τ S=.ok (lJ n (xs.map g).length) S1)(J:jA S1 n=some (xs.map g))(d:α)(p:α->Bool)(f:α->A)
  (step:∀x∈xs,∀T,kO S1 T->∃T1,t (g x::mj cap τ) T=.ok (p x) T1/\kO S1 T1/\(p x=true->∃T2,e (g x::mj cap τ) T1=.ok (f x) T2/\kO S1 T2)) (U:xs.length<=16777216) :
  ∃S',j8 (none::cap) src (jX 0) t e τ S=.ok (.ref S'.length) (S'++[.lst<|(xs.filter p).map f])/\kO S1 S':=by
 have q:∀i,i<xs.length->xs.getD i d∈xs:=λi c=>by
  rw[aL,aH c];exact cK c
 have m:(xs.map g).length=xs.length:=aF ..;obtain⟨S',h1,h2⟩:=yE (s:=lJ n (xs.map g).length) (g:=jX 0) (t:=t) (e:=e) (P:=λT=>kO S1 T) (T:=λj=>∃y,j=y::mj cap τ) (λi=>g<|xs.getD i d) (λi=>p<|xs.getD i d) (λi=>f<|xs.getD i d) (λi T c h=>by
   have c:i<(xs.map g).length:=c;show(jA T n).bind _=_;rw[h.lst _ _ (λz=>z) J,bQ,aK,aH (),aL,aH ()];rfl) (λT h=>by
   show(match jA T n with
    | some ys=>decide (ys.length<=(xs.map g).length)
    | none=>false)=true
   rw[h.lst _ _ (λz=>z) J];simp)
  (λi j T c ⟨y,B⟩ h=>by
   have c:i<(xs.map g).length:=c;subst B;obtain⟨T1,e1,k,e2⟩:=step _ (q i ()) T h;exact⟨g (xs.getD i d)::mj cap τ,T,T1,rfl,e1,⟨_,rfl⟩,λ_=>k,e2⟩) (xs.map g).length 0 (mj (none::cap) τ) S1 rfl ⟨_,rfl⟩ Kp.refl
 refine⟨S',?_,h2⟩;unfold j8;rw[hs,R.nk];show(mR (lJ n (xs.map g).length) (jX 0) t e (xs.map g).length 0 (mj (none::cap) τ) S1).tB _=_;rw[h1,R.kJ,<- fR,m,p6 xs p f d];refine kQ ?_;rw[aF];exact bI (cX _ _) U
def FQ{D:Es}{o:ae}(h:o∈D.map Prod.fst):∃e,fE D o=some e:=by
 unfold fE
 cases e:D.find? λe=>decide (e.1=o)with
 | some x=>exact⟨x,rfl⟩
 | none=>
  obtain⟨x,c,rfl⟩:=aX.mp h;exact absurd (bg rfl)<|gC.mp e x c
abbrev Ck (k:ae):A:=.tup<|k.map .int
abbrev xK (D:Es)(p:Pl->Bool):Es:=((n8<|D.map Prod.fst).filter λo=>p<|vS (sm D) o).map λo=>(o,((fE D o).map λe=>e.2.1).getD 0,vS (sm D) o)
def Fe(D:Es):sm (xK D λp=>!p.isEmpty)=toS (sm D):=by
 unfold xK toS sm;rw[bC,bC];rfl
def DW{D:Es}{p:Pl->Bool}{e:En}(h:e∈xK D p):e∈D/\p e.2.2=true:=by
 obtain⟨o,d,rfl⟩:=aX.mp h;obtain⟨h1,h2⟩:=bO.mp d;obtain⟨e,c⟩:=FQ<|(ko _).mem_iff.mp h1;rw[E3,c]at h2;rw[E3,c];obtain⟨m,rfl⟩:=pB c;exact⟨m,h2⟩
def Nv{S:jB}{d:Nat}{D:Es}{src:Ic}{t:Te}{e:Ex}(U:jV S d=some (D.map kv))(J:At S D)(hs:src τ S=.ok (lJ S.length ((n8<|D.map Prod.fst).map Ck).length) (S++[.lst<|(n8<|D.map Prod.fst).map Ck]))(p:Pl->Bool)
  (Z:∀(o:ae) (r:Nat) (q:Pl) (T:jB),jV T d=some (D.map kv)->kH (D.map kv) o=some (.ref r)->jA T r=some (pl q)->∃T1,t (Ck o::mj cap τ) T=.ok (p q) T1/\kO T T1)
  (he:∀(o:ae) (r:Nat) (T:jB),jV T d=some (D.map kv)->kH (D.map kv) o=some (.ref r)->e (Ck o::mj cap τ) T=.ok (.tup [Ck o,.ref r]) T) (hl:D.length<=16777216) :
  ∃(n:Nat) (S':jB),j8 (none::cap) src (jX 0) t e τ S=.ok (.ref n) S'/\jA S' n=some ((xK D p).map ent)/\At S' (xK D p)/\S.length<n/\kO S S':=by
 have C:kO S (S++[.lst<|(n8<|D.map Prod.fst).map Ck]):=Kp.refl.lay;obtain⟨S',e1,k⟩:=Ae Ck (t:=t) (e:=e) (cap:=cap) hs jQ [] (λo=>p<|vS (sm D) o) (λo=>ent (o,((fE D o).map λe=>e.2.1).getD 0,vS (sm D) o)) (λo F T j=>by
  obtain⟨f,c⟩:=FQ<|(ko _).mem_iff.mp F;have B:kH (D.map kv) o=some (.ref f.2.1):=by rw[nP,c];rfl
  have g:=C.trans j;have dT:=g.dct _ _ (λz=>z) U;have G:=g.lst _ _ (λz=>z)<|J f (pB c).1;obtain⟨T1,h1,h2⟩:=Z o f.2.1 f.2.2 T dT B G;rw[E3,c];exact⟨T1,h1,j.trans h2,λ_=>⟨T1,he o f.2.1 T1 (h2.dct _ _ (λz=>z) dT) B,j.trans h2⟩⟩) (by
  rw[(ko _).length_eq,aF];exact hl)
 have m:=C.trans k;refine⟨S'.length,_,e1,?_,(?_:At S'<|xK D p).wB Kp.refl.lay,?_,m.lay⟩
 ·rw[jQ];unfold xK;rw[bC];rfl
 ·exact λe h=>m.lst _ _ (λz=>z) (J e (DW h).1)
 ·have:=k.len;rw[bq]at this;exact this
abbrev Ap (D:Es):Prop:=D.Pairwise λe f=>e.1≠f.1/\e.2.1≠f.2.1
def Ap.put{D:Es}{r:Nat}{p:Pl}(h:Ap D)(J:∀e∈D,e.2.1≠r):Ap (mL D o r p):=by
 unfold mL;split
 ·unfold Ap;rw[cN];refine List.Pairwise.imp_of_mem (λ{e f} d hf z=>?_) h;by_cases c1:e.1=o
  ·have c2:¬f.1=o:=λg=>z.1<|c1.trans g.symm;rw[aR c1,aN c2];exact⟨z.1,λy=>J f hf y.symm⟩
  ·rw[aN c1];by_cases c2:f.1=o
   ·rw[aR c2];exact⟨z.1,J e d⟩
   ·rw[aN c2];exact z
 ·rename_i c;unfold Ap;rw[List.pairwise_append];refine⟨h,c5 _ _,λe d f hf=>?_⟩;rw[aW.mp hf];refine⟨λz=>c ?_,J e d⟩;unfold fE;rw[fP];exact⟨e,d,bg z⟩
theorem Ap.at{D:Es}(h:Ap D):∀e∈D,∀f∈D,e.1≠f.1->e.2.1≠f.2.1:=by
 unfold Ap at h
 induction h with
 | nil=>exact λe c=>nomatch c
 | @cons a D ha _ d=>
  intro e c f hf z
  rcases bw.mp c with h1|h1<;>rcases bw.mp hf with h2|h2
  ·exact absurd (by rw[h1,h2]) z
  ·rw[h1];exact(ha f h2).2
  ·rw[h2];exact(ha e h1).2.symm
  ·exact d e h1 f h2 z
def Ap.nd{D:Es}(h:Ap D):(D.map Prod.fst).Nodup:=by
 unfold List.Nodup;rw[cN];exact h.imp λz=>z.1
def Ap.out{D:Es}(h:Ap D)(p:Pl->Bool):Ap (xK D p):=by
 unfold Ap xK;rw[cN];have n:(n8<|D.map Prod.fst).Pairwise (·≠·):=(ko _).nodup_iff.mpr h.nd;refine List.Pairwise.imp_of_mem (λ{a b} ha hb z=>?_)<|n.filter _;obtain⟨e,c⟩:=FQ<|(ko _).mem_iff.mp (bO.mp ha).1;obtain⟨f,hf⟩:=FQ<|(ko _).mem_iff.mp (bO.mp hb).1;obtain⟨d,e1⟩:=pB c;obtain⟨g,e2⟩:=pB hf;refine⟨z,?_⟩;rw[c,hf];exact h.at e d f g<|by rw[e1,e2];exact z
def My(P:Ps)(es:Es):es.foldl (λQ e=>Bw Q e.1 e.2.2) P=adds P (sm es):=by
 unfold adds sm;rw[jt]
def M6(q:Pl)(P:Ps)(es:Es):es.foldl (λQ e=>Bw Q e.1<|times q e.2.2) P=adds P ((sm es).map λe=>(e.1,times q e.2)):=by
 unfold adds sm;rw[jt,jt]
end Su
namespace Bl
open L2
abbrev uJ (a b:ae):Prop:=a.length=b.length/\∀(p:Nat) (h:p<a.length),b[(a[p]-1).toNat]?=some ((p:Int)+1)
end Bl
namespace Wd
open Bl L2
abbrev ex (l:ae)(k:Nat):ae:=(l.set (k-1)<|l.getD k 0).set k<|l.getD (k-1) 0
abbrev led (l:ae)(w:ag):ae:=w.foldl ex l
def rT{l:ae}{k:Nat}(h:k<l.length):l.getD k 0=l[k]:=by rw[aL,aH h];rfl
def KQ{l:ae}{k:Nat}(h0:1<=k)(h:k<l.length):ex l k=(l.set (k-1) l[k]).set k (l[k-1]'()):=by
 unfold ex;rw[rT h,rT<|show k-1<l.length by lia]
def pV(l:ae)(k:Nat):(ex l k).length=l.length:=by unfold ex;rw[cz,cz]
theorem LL:∀(w:ag) (l:ae),(led l w).length=l.length
 | [],_=>rfl
 | k::w,l=>by show(led (ex l k) w).length=_;rw[LL w,pV]
def Dz{l:ae}{k:Nat}(h0:1<=k)(h:k<l.length):(ex l k).Perm l:=by
 rw[KQ h0 h];exact List.set_set_perm () h
def EY(a b:ag)(l:ae):led l (a++b)=led (led l a) b:=eU
abbrev ni:ae->ag->Prop
 | _,[]=>True
 | l,k::w=>1<=k/\k<l.length/\l.getD (k-1) 0<l.getD k 0/\ni (ex l k) w
theorem ni.snoc:∀{w:ag}{l:ae}{k:Nat},ni l w->1<=k->k<l.length->(led l w).getD (k-1) 0<(led l w).getD k 0->ni l (w++[k])
 | [],l,k,_,h0,h1,h2=>⟨h0,h1,h2,trivial⟩
 | m::w,l,k,h,h0,h1,h2=>⟨h.1,h.2.1,h.2.2.1,ni.snoc h.2.2.2 h0 (by rw[pV];exact h1) h2⟩
theorem ni.valid:∀{w:ag}{l:ae},ni l w->∀k∈w,1<=k/\k<l.length
 | [],_,_,k,hk=>by cases hk
 | m::w,l,h,k,hk=>by
  rcases bw.mp hk with z|z
  ·rw[z];exact⟨h.1,h.2.1⟩
  ·have:=ni.valid h.2.2.2 k z;rw[pV]at this;exact this
abbrev sw (k:Nat)(x:Int):Int:=if x=k then(k:Int)+1 else if x=(k:Int)+1 then k else x
def ex_map(f:Int->Int){l:ae}{k:Nat}(h0:1<=k)(h:k<l.length):ex (l.map f) k=(ex l k).map f:=by
 rw[KQ h0 h,KQ h0<|by rw[aF];exact h,iN,iN,dP,dP]
theorem Lj(f:Int->Int):∀{w:ag}{l:ae},(∀k∈w,1<=k/\k<l.length)->led (l.map f) w=(led l w).map f
 | [],_,_=>rfl
 | k::w,l,h=>by
  have c:=h k<|aJ ..;show led (ex (l.map f) k) w=(led (ex l k) w).map f;rw[ex_map f c.1 c.2,Lj f λm d=>by rw[pV];exact h m<|aO _ d]
def sA{n p:Nat}(h:p<n):(lB 1<|(n:Int)+1)[p]?=some ((p:Int)+1):=by
 unfold lB;rw[aK,dc ()];simp;lia
def j5(n:Nat):(lB 1<|(n:Int)+1).length=n:=by rw[vc];lia
def sS{l:ae}{k:Nat}(h0:1<=k)(h:k<l.length)(p:Nat):(ex l k)[p]?=if p=k then l[k-1]? else if p=k-1 then l[k]? else l[p]?:=by
 rw[KQ h0 h,List.getElem?_set];by_cases h1:k=p
 ·rw[aR h1,aR h1.symm,aR<|by rw[cz];lia,aH]
 ·rw[aN h1,aN λz=>h1 z.symm,List.getElem?_set];by_cases h2:k-1=p
  ·rw[aR h2,aR h2.symm,aR (),aH]
  ·rw[aN h2,aN λz=>h2 z.symm]
def QS{n k:Nat}(h0:1<=k)(h:k<n):ex (lB 1<|(n:Int)+1) k=(lB 1<|(n:Int)+1).map (sw k):=by
 apply eT;intro p;rw[sS h0<|by rw[j5];exact h,aK];by_cases c:p<n
 ·rw[sA c,sA h,sA<|show k-1<n by lia];show _=some (sw k<|(p:Int)+1);unfold sw;by_cases h1:p=k
  ·rw[aR h1,aN (),aR ()];congr 1;lia
  ·rw[aN h1];by_cases h2:p=k-1
   ·rw[aR h2,aR ()]
   ·rw[aN h2,aN (),aN ()]
 ·have e:(lB 1<|(n:Int)+1)[p]?=none:=cF (by rw[j5];lia);rw[aN (),aN (),e];rfl
def Cw{A B:ae}{k:Nat}(h0:1<=k)(h:k<A.length)(hb:uJ A B):uJ (ex A k) (B.map<|sw k):=by
 refine⟨by rw[pV,aF];exact hb.1,λp c=>?_⟩;rw[pV]at c;have hg:(ex A k)[p]'(by rw[pV];exact c)=if p=k then A[k-1]'()else if p=k-1 then A[k]else A[p]:=by
  have:=sS h0 h p;rw[aH<|by rw[pV];exact c]at this;by_cases h1:p=k
  ·rw[aR h1,aH<|show k-1<A.length by lia]at this;rw[aR h1];exact a_ this
  ·rw[aN h1]at this;rw[aN h1];by_cases h2:p=k-1
   ·rw[aR h2,aH h]at this;rw[aR h2];exact a_ this
   ·rw[aN h2,aH c]at this;rw[aN h2];exact a_ this
 rw[hg,aK];by_cases h1:p=k
 ·rw[aR h1,hb.2 (k-1) ()];show some (sw k _)=_;unfold sw;rw[aR ()];congr 1;lia
 ·rw[aN h1];by_cases h2:p=k-1
  ·rw[aR h2,hb.2 k h];show some (sw k _)=_;unfold sw;rw[aN (),aR ()];congr 1;lia
  ·rw[aN h2,hb.2 p c];show some (sw k _)=_;unfold sw;rw[aN (),aN ()]
theorem tF{n:Nat}:∀(w:ag),(∀k∈w,1<=k/\k<n)->uJ (led (lB 1<|(n:Int)+1) w.reverse) (led (lB 1<|(n:Int)+1) w)
 | [],_=>⟨rfl,λp c=>by
  have c:p<n:=by rw[show([]:ag).reverse=[]from rfl]at c;have:p<(lB 1<|(n:Int)+1).length:=c;rw[j5]at this;exact this
  have e:(lB 1<|(n:Int)+1)[p]'(by rw[j5];exact c)=(p:Int)+1:=by
   have:=sA c;rw[aH<|by rw[j5];exact c]at this;exact a_ this
  show(lB 1<|(n:Int)+1)[(((lB 1<|(n:Int)+1)[p]'(by rw[j5];exact c))-1).toNat]?=_;rw[e,show((p:Int)+1-1).toNat=p by lia];exact sA c⟩
 | k::w,h=>by
  have d:=h k<|aJ ..;have hw:=λm f=>h m<|aO k f;have g:=tF w hw;rw[List.reverse_cons,EY];show uJ (ex (led (lB 1<|(n:Int)+1) w.reverse) k) (led (ex (lB 1<|(n:Int)+1) k) w);rw[QS d.1 d.2,Lj (sw k) λm f=>by rw[j5];exact hw m f];exact Cw d.1 (by rw[LL,j5];exact d.2) g
end Wd
namespace Iv
open L2 Bl
abbrev inv:ae->Nat
 | []=>0
 | x::l=>l.countP (λy=>decide<|y<x)+inv l
abbrev pG (a b:ae):Nat:=(a.map λx=>b.countP λy=>decide<|y<x).sum
def xQ(x:Int)(a b:ae):pG (x::a) b=b.countP (λy=>decide<|y<x)+pG a b:=rfl
theorem mS:∀(a b:ae),inv (a++b)=inv a+inv b+pG a b
 | [],b=>by show inv b=0+inv b+0;lia
 | x::a,b=>by
  show(a++b).countP _+inv (a++b)=(a.countP _+inv a)+inv b+pG (x::a) b;rw[List.countP_append,mS a b,xQ];lia
theorem yh:∀{a b:ag},a.Perm b->a.sum=b.sum
 | _,_,.nil=>rfl
 | _,_,.cons x h=>by rw[gh,gh,yh h]
 | _,_,.swap x y l=>by rw[gh,gh,gh,gh];lia
 | _,_,.trans h k=>(yh h).trans<|yh k
def TH{a:ae}(b:ae)(h:a.Perm a'):pG a b=pG a' b:=yh<|h.map _
def TL(a:ae){b:ae}(h:b.Perm b'):pG a b=pG a b':=by
 unfold pG;congr 1;refine cg λx _=>h.countP_eq _
def EO{M:ae}{x y:Int}(h:∀m∈M,m<x\/y<m)(J:x<y):M.countP (λm=>decide<|m<x)=M.countP (λm=>decide<|m<y):=by
 refine List.countP_congr λm c=>?_;rw[decide_eq_true_iff,decide_eq_true_iff]
 rcases h m c with z|z<;>omega
theorem zK:∀{M:ae}{x y:Int},(∀m∈M,m<x\/y<m)->x<y->pG M [x]=pG M [y]
 | [],_,_,_,_=>rfl
 | m::M,x,y,h,hxy=>by
  rw[xQ,xQ,zK (λf d=>h f<|aO _ d) hxy];congr 1;have:=h m<|aJ ..;dsimp[jb,List.countP_nil];by_cases c:x<m
  ·rw[bg c,bg<|show y<m by omega]
  ·rw[bH c,bH<|show ¬y<m by omega]
def mid{M:ae}{x y:Int}(h:∀m∈M,m<x\/y<m)(J:x<y):inv ([y]++M++[x])=inv ([x]++M++[y])+1:=by
 rw[mS,mS,mS<|[x]++M,mS [x]];have e1:pG [y] M=pG [x] M:=by
  show M.countP _+0=M.countP _+0;rw[EO h J]
 have e2:pG ([y]++M) [x]=1+pG M [x]:=by
  show[x].countP _+pG M [x]=_;rw[jb,bg J];rfl
 have e3:pG ([x]++M) [y]=pG M [y]:=by
  show[y].countP _+pG M [y]=_;rw[jb,bH (by lia:¬y<x)];simp
 rw[e1,e2,e3,zK h J]
 skip
 lia
def QY(M:ae)(x y:Int):([y]++M++[x]).Perm ([x]++M++[y]):=by
 refine(List.perm_append_comm (l₁:=[y]++M) (l₂:=[x])).trans ?_
 skip
 exact .cons x<|List.perm_append_comm (l₁:=[y]) (l₂:=M)
def step{P M R:ae}{x y:Int}(h:∀m∈M,m<x\/y<m)(J:x<y):inv (P++([y]++M++[x])++R)=inv (P++([x]++M++[y])++R)+1:=by
 have p:=QY M x y;rw[mS,mS P,mS<|P++([x]++M++[y]),mS P,mid h J,TL P p,TH R<|p.append_left P]
 lia
abbrev sw (a:ae)(i j:Nat):ae:=(a.set i<|a.getD j 0).set j<|a.getD i 0
def Hx(a:ae)(i j:Nat):(sw a i j).length=a.length:=by unfold sw;rw[cz,cz]
def split{a:ae}(U:i<j)(J:j<a.length):∃P M R:ae,a=P++([a.getD i 0]++M++[a.getD j 0])++R/\P=a.take i/\(∀m∈M,∃k,i<k/\k<j/\a[k]?=some m)/\sw a i j=P++([a.getD j 0]++M++[a.getD i 0])++R:=by
 have F:a.getD i 0=a[i]:=by rw[aL,aH ()];rfl
 have D:a.getD j 0=a[j]:=by rw[aL,aH J];rfl
 obtain⟨M,g⟩:∃M,M=(a.drop<|i+1).take (j-i-1):=⟨_,rfl⟩;have G:M.length=j-i-1:=by rw[g,cu,List.length_drop];lia
 have B:a=a.take i++([a.getD i 0]++M++[a.getD j 0])++a.drop (j+1):=by
  have h1:a.drop i=a[i]::a.drop (i+1):=List.drop_eq_getElem_cons ();have h2:a.drop (i+1)=M++a.drop j:=by
   rw[g];have:=g_ (j-i-1)<|a.drop<|i+1;rw[List.drop_drop,show i+1+(j-i-1)=j by lia]at this;exact this.symm
  have h3:a.drop j=a[j]::a.drop (j+1):=List.drop_eq_getElem_cons J
  conv=>lhs;rw[<- g_ i a,h1,h2,h3]
  rw[F,D];simp
 refine⟨a.take i,M,a.drop<|j+1,B,rfl,λm C=>?_,?_⟩
 ·rw[g]at C;obtain⟨k,q⟩:=List.getElem?_of_mem C;have p:k<j-i-1:=by
   have:=(aG.mp q).1;rw[cu]at this;lia
  rw[eW p,List.getElem?_drop]at q;exact⟨i+1+k,(),(),q⟩
 ·have f:∀(P R:ae) (x y d c:Int),P.length=i->((P++([x]++M++[y])++R).set i c).set j d=P++([c]++M++[d])++R:=λP R x y d c t=>by
   rw[cG,h_ _ _ (),t,Nat.sub_self];show(P++(c::((M++[y])++R))).set j d=_;rw[h_ _ _ (),t,show j-i=(j-i-1)+1 by lia,List.set_cons_succ,cG,h_ _ _ (),G,Nat.sub_self];simp
  have:=f (a.take i) (a.drop<|j+1) (a.getD i 0) (a.getD j 0) (a.getD i 0) (a.getD j 0) (by rw[cu];lia);rw[<- B]at this;exact this
def QA{a:ae}(J:i<j)(U:j<a.length)(p:Nat):(sw a i j).getD p 0=if p=j then a.getD i 0 else if p=i then a.getD j 0 else a.getD p 0:=by
 unfold sw;rw[aL];by_cases c:p=j
 ·subst c;rw[aR rfl,bK<|by rw[cz];exact U];rfl
 ·rw[aN c,bG<|Ne.symm c];by_cases d:p=i
  ·subst d;rw[aR rfl,bK ()];rfl
  ·rw[aN d,bG<|Ne.symm d,<- aL]
end Iv
namespace Fw
open PySem L2 Bl
open Wd (ex led)
meta abbrev rg (n:Nat):ae:=lB 1<|(n:Int)+1
def Hf{l:ae}{k:Nat}(h0:1<=k)(h:k<l.length):ex (ex l k) k=l:=by
 apply eT;intro p;have h':k<(ex l k).length:=by rw[Wd.pV];exact h
 rw[Wd.sS h0 h',Wd.sS h0 h,Wd.sS h0 h,Wd.sS h0 h];by_cases c3:p=k
 ·rw[aR c3,aN (),aR rfl,c3]
 ·rw[aN c3];by_cases c2:p=k-1
  ·rw[aR c2,aR rfl,c2]
  ·rw[aN c2,aN c3,aN c2]
def Wa{l:ae}{k:Nat}(h0:1<=k)(h:k<l.length):(ex l k).getD k 0=l.getD (k-1) 0:=by
 rw[aL,Wd.sS h0 h,aR rfl,aL]
def WK{l:ae}{k:Nat}(h0:1<=k)(h:k<l.length):(ex l k).getD (k-1) 0=l.getD k 0:=by
 rw[aL,Wd.sS h0 h,aN (),aR rfl,aL]
def IB{l:ae}{k:Nat}(h0:1<=k)(h:k<l.length)(J:l.getD (k-1) 0<l.getD k 0):Iv.inv (ex l k)=Iv.inv l+1:=by
 obtain⟨P,M,R,e,_,d,es⟩:=Iv.split (a:=l) (i:=k-1) (j:=k) () h;have:=Iv.step (P:=P) (M:=M) (R:=R) (x:=l.getD (k-1) 0) (y:=l.getD k 0) (λm c=>by obtain⟨_,_,_,_⟩:=d m c;lia) J;rw[<- es,<- e]at this;exact this
def yW{l:ae}{k:Nat}(h0:1<=k)(h:k<l.length)(J:l.getD k 0<l.getD (k-1) 0):Iv.inv l=Iv.inv (ex l k)+1:=by
 have:=IB (l:=ex l k) h0 (by rw[Wd.pV];exact h) (by rw[Wa h0 h,WK h0 h];exact J);rw[Hf h0 h]at this;exact this
abbrev Va (n:Nat)(w:ag):Prop:=∀k∈w,1<=k/\k<n
def Va.tail{n k:Nat}{w:ag}(h:Va n (k::w)):Va n w:=λj c=>h j<|aO _ c
def Va.head{n k:Nat}{w:ag}(h:Va n (k::w)):1<=k/\k<n:=h k<|aJ ..
theorem Bm:∀{w:ag}{l:ae},Va l.length w->led (led l w) w.reverse=l
 | [],l,_=>rfl
 | k::w,l,h=>by
  rw[List.reverse_cons,Wd.EY];show led (led (led (ex l k) w) w.reverse) [k]=l;rw[Bm (w:=w) (l:=ex l k)<|by rw[Wd.pV];exact h.tail];exact Hf h.head.1 h.head.2
theorem Jd:∀{l:ae},l.Pairwise (·<=·)->Iv.inv l=0
 | [],_=>rfl
 | x::l,h=>by
  show l.countP (λy=>decide<|y<x)+Iv.inv l=0;rw[Jd (cA.mp h).2,List.countP_eq_zero.mpr λa ha z=>by have:=bE z;have:=(cA.mp h).1 a ha;lia]
def Eo(n:Nat):Iv.inv (rg n)=0:=Jd<|Kf _ _
abbrev ER (l:ae)(k:Nat):Prop:=1<=k/\k<l.length/\l.getD k 0<l.getD (k-1) 0
def V7{l:ae}(h:∀k,¬ER l k):l.Pairwise (·<=·):=by
 have c:∀d i,i+d<l.length->l.getD i 0<=l.getD (i+d) 0:=by
  intro d
  induction d with
  | zero=>intro i _;exact Int.le_refl _
  | succ d m=>
   intro i f;have h1:=m i ();have h2:¬l.getD (i+d+1) 0<l.getD (i+d) 0:=λz=>h (i+d+1) ⟨(),f,z⟩;rw[<- i8];lia
 rw[dH];intro i j f g p;have:=c (j-i) i ();rw[show i+(j-i)=j by lia,Wd.rT f,Wd.rT g]at this;exact this
def WL{l:ae}{n:Nat}(p:l.Perm<|rg n)(h:∀k,¬ER l k):l=rg n:=
 eX (λx y _ _ h1 h2=>Int.le_antisymm h1 h2) (V7 h) (Kf _ _) p
def TQ{l:ae}(h:0<Iv.inv l):∃k,ER l k:=by
 refine f7 λz=>?_;rw[Jd<|V7 λk c=>z ⟨k,c⟩]at h;exact absurd h<|dQ _
abbrev Dn:ae->ag->Prop
 | l,[]=>∀k,¬ER l k
 | l,k::ks=>(ER l k/\∀j,ER l j->k<=j)/\Dn (ex l k) ks
def w4{l:ae}{n k:Nat}(p:l.Perm<|rg n)(h0:1<=k)(h:k<l.length):(ex l k).Perm (rg n):=(Wd.Dz h0 h).trans p
def Dn.va:∀{ks:ag}{l:ae},Dn l ks->Va l.length ks
 | [],l,_=>λk d=>absurd d (by simp)
 | k::ks,l,h=>λj c=>by
  rcases bw.mp c with rfl|z
  ·exact⟨h.1.1.1,h.1.1.2.1⟩
  ·have:=h.2.va j z
   rwa [Wd.pV]at this
theorem Dn.led:∀{ks:ag}{l:ae}{n:Nat},Dn l ks->l.Perm (rg n)->led l ks=rg n
 | [],l,n,h,p=>WL p h
 | k::ks,l,n,h,p=>Dn.led (ks:=ks) h.2<|w4 p h.1.1.1 h.1.1.2.1
theorem OM:∀(m:Nat) (l:ae),Iv.inv l<=m->∃ks,Dn l ks
 | 0,l,h=>⟨[],λk d=>by have:=yW d.1 d.2.1 d.2.2;lia⟩
 | m+1,l,h=>by
  by_cases c:∃k,ER l k
  ·obtain⟨k,d,f⟩:∃k,ER l k/\∀j,ER l j->k<=j:=by
    obtain⟨k,d⟩:=c
    induction k using Nat.strongRecOn with
    | ind k t=>
     by_cases z:∃j,ER l j/\j<k
     ·obtain⟨j,g,p⟩:=z;exact t j p g
     ·exact⟨k,d,λj g=>i9 λy=>z ⟨j,g,y⟩⟩
   have:=yW d.1 d.2.1 d.2.2;obtain⟨ks,q⟩:=OM m (ex l k) ();exact⟨k::ks,⟨d,f⟩,q⟩
  ·exact⟨[],λk d=>c ⟨k,d⟩⟩
def U7{l:ae}{n k:Nat}(p:l.Perm<|rg n)(h0:1<=k)(h:k<l.length):l.getD (k-1) 0≠l.getD k 0:=λz=>by
 have nd:l.Nodup:=p.nodup_iff.mpr<|uU _ _;rw[Wd.rT h,Wd.rT<|show k-1<l.length by lia]at z;have:=(cI nd).mp z
 lia
def M9{a b c:ae}{n:Nat}(J:a.Perm<|rg n)(h1:uJ a b)(h2:uJ b c):a=c:=by
 have m:=h1.1;have k:=h2.1;refine List.ext_getElem () λq f d=>?_;have e1:=h1.2 q f;have j:=(o6.mp<|J.mem_iff.mp<|cK f);obtain⟨hb,g⟩:=aG.mp e1;have e2:=h2.2 _ hb;rw[g,show((q:Int)+1-1).toNat=q by lia,aH d]at e2;have:=a_ e2
 lia
structure Two (n:Nat)(o u:ae):Prop where
 po:o.Perm (rg n)
 pu:u.Perm (rg n)
 ou:uJ o u
def Two.lu{n:Nat}{u:ae}(t:Two n o u):u.length=n:=by rw[t.pu.length_eq,Wd.j5]
def Two.lo{n:Nat}{o:ae}(t:Two n o u):o.length=n:=by rw[t.po.length_eq,Wd.j5]
def Two.led{n:Nat}{ks:ag}(t:Two n o u)(h:Dn u ks):Wd.led (rg n) ks=o:=by
 have v:Va n ks:=by have:=h.va;rwa [t.lu]at this
 have e:=h.led t.pu;have e2:u=Wd.led (rg n) ks.reverse:=by rw[<- e,Bm<|by rw[t.lu];exact v]
 have b:=Wd.tF ks v;rw[<- show u=Wd.led (lB 1<|(n:Int)+1) ks.reverse from e2]at b;exact(M9 t.po t.ou b).symm
def Two.uo{n:Nat}(t:Two n o u):uJ u o:=by
 obtain⟨ks,h⟩:=OM _ u<|aP _;have v:Va n ks:=by have:=h.va;rwa [t.lu]at this
 have e:=h.led t.pu;have e2:u=Wd.led (rg n) ks.reverse:=by rw[<- e,Bm<|by rw[t.lu];exact v]
 have b:=Wd.tF ks v;rw[<- show u=Wd.led (lB 1<|(n:Int)+1) ks.reverse from e2,show Wd.led (lB 1<|(n:Int)+1) ks=o from t.led h]at b;exact b
def Two.flip{n:Nat}(t:Two n o u):Two n u o:=⟨t.pu,t.po,t.uo⟩
def Two.step{n k:Nat}{o:ae}(t:Two n o u)(h0:1<=k)(h:k<n):Two n (o.map<|Wd.sw k) (ex u k):=by
 have lu:=t.lu;have b:=Wd.Cw h0 () t.uo;have p1:=w4 t.pu h0 ();have p2:(o.map<|Wd.sw k).Perm (rg n):=(t.po.map _).trans (by rw[<- Wd.QS h0 h];exact Wd.Dz h0<|by rw[Wd.j5];exact h);exact(Two.mk p1 p2 b).flip
end Fw
namespace Su
open Am Po PySem L2
abbrev cS (l:Ps)(o:ae)(t:Int):Int:=match l with
 | []=>0
 | e::l=>(if e.1=o then cf e.2 t else 0)+cS l o t
def xW(a b:Ps)(o:ae)(t:Int):cS (a++b) o t=cS a o t+cS b o t:=by
 induction a with
 | nil=>exact(cP _).symm
 | cons e a c=>
  show _+cS (a++b) o t=_+_+_;rw[c,eZ]
def rD(a b:Pl)(k:Int):cf (a++b) k=cf a k+cf b k:=by
 induction a with
 | nil=>exact(cP _).symm
 | cons p a c=>
  show _+cf (a++b) k=_+_+_;rw[c,eZ]
def N7(a b:Pl)(k:Int):cf (q_ a b) k=cf a k+cf b k:=by
 unfold q_;rw[ET<|rW _ (d:=[]) cT,v9,rD];show 0+_=_;rw[cP]
def Gw(a b:Pl)(k:Int):cf (times a b) k=cf (JS a b) k:=by
 unfold times;rw[ET<|rW _ (d:=[]) cT,v9];show 0+_=_;rw[cP]
theorem Jy(s:Int):∀(b:Pl) (k c:Int),cf (b.map λq=>(c+q.1,s * q.2)) k=s * cf b (k-c)
 | [],k,c=>(fH s).symm
 | q::b,k,c=>by
  show(if c+q.1=k then s * q.2 else 0)+cf (b.map λq=>(c+q.1,s * q.2)) k=s * ((if q.1=k-c then q.2 else 0)+cf b (k-c));rw[Jy s b k c,ju];by_cases h:c+q.1=k
  ·rw[aR h,aR ()]
  ·rw[aN h,aN (),fH]
meta abbrev AF:Pl:=[((-1:Int),(1:Int)),((1:Int),(-1:Int))]
def abY(b:Pl)(k:Int):cf (times AF b) k=cf b (k+1)-cf b (k-1):=by
 rw[Gw];show cf ((b.map λq=>((-1:Int)+q.1,(1:Int) * q.2))++((b.map λq=>((1:Int)+q.1,(-1:Int) * q.2))++[])) k=_;rw[cj,rD,Jy,Jy,one_mul,show k - -1=k+1 by lia]
 lia
def SE{D:Ps}{p:Pl}:vS (zB D o p) o'=if o'=o then p else vS D o':=by
 have cons:∀(e:ae×Pl) (D:Ps) (x:ae),vS (e::D) x=if e.1=x then e.2 else vS D x:=λe D x=>by
  unfold vS;rw[b5];by_cases h:e.1=x
  ·rw[bg h,aR h];rfl
  ·rw[bH h,aN h]
 unfold zB
 cases h:hS D o with
 | true=>
  rw[aR rfl]
  induction D with
  | nil=>cases h
  | cons e D d=>
   rw[bF,cons,cons];have hc:hS (e::D) o=(decide (e.1=o) || hS D o):=rfl;rw[hc]at h;by_cases c:e.1=o
   ·rw[aR c]
    skip
    by_cases c2:o'=o
    ·rw[aR<|c.trans c2.symm,aR c2]
    ·rw[aN λz=>c2<|z.symm.trans c,aN c2,aN λz=>c2<|z.symm.trans c];clear d h hc
     induction D with
     | nil=>rfl
     | cons f D g=>
      rw[bF,cons,cons,g];by_cases c3:f.1=o
      ·rw[aR c3]
       skip
       rw[aN λz=>c2<|z.symm.trans c3,aN λz=>c2<|z.symm.trans c3]
      ·rw[aN c3]
   ·rw[aN c];rw[bH c,gc]at h;rw[d h];by_cases c2:e.1=o'
    ·rw[aR c2,aN λz=>c<|c2.trans z,aR c2]
    ·rw[aN c2,aN c2]
 | false=>
  rw[aN<|by simp]
  induction D with
  | nil=>
   show vS [(o,p)] o'=_;rw[cons];by_cases c:o=o'
   ·rw[aR c,aR c.symm]
   ·rw[aN c,aN λz=>c z.symm]
  | cons e D d=>
   have hc:hS (e::D) o=(decide (e.1=o) || hS D o):=rfl;rw[hc,iD]at h;rw[i_,cons,cons,d h.2];have:=dJ h.1;by_cases c:e.1=o'
   ·rw[aR c,aR c,aN λz=>this<|c.trans z]
   ·rw[aN c,aN c]
def RE(l:Ps):∀(D:Ps) (o:ae) (t:Int),cf (vS (adds D l) o) t=cf (vS D o) t+cS l o t:=by
 induction l with
 | nil=>intro D o t;exact(c9 _).symm
 | cons e l c=>
  intro D o t;show cf (vS (adds (Bw D e.1 e.2) l) o) t=_+((if e.1=o then cf e.2 t else 0)+cS l o t);rw[c];unfold Bw;rw[SE];by_cases h:o=e.1
  ·rw[aR h,aR h.symm,N7,h,eZ]
  ·rw[aN h,aN λz=>h z.symm,cP]
structure Gd (D:Ps):Prop where
 nd:(D.map Prod.fst).Nodup
 ok:∀e∈D,Ok e.2
def QZ{D:Ps}{o:ae}:hS D o=true ↔ o∈D.map Prod.fst:=by
 unfold hS;rw[f6,aX];constructor
 ·rintro⟨p,h1,h2⟩;exact⟨p,h1,bE h2⟩
 ·rintro⟨p,h1,h2⟩;exact⟨p,h1,bg h2⟩
def C6{D:Ps}{o:ae}{p:Pl}:(zB D o p).map Prod.fst=if hS D o=true then D.map Prod.fst else D.map Prod.fst++[o]:=by
 unfold zB;split
 ·rw[bC];apply cg;intro e _;show(if e.1=o then(e.1,p)else e).1=e.1;split<;>rfl
 ·rw[bB];rfl
def Gd.put{D:Ps}{p:Pl}(h:Gd D)(J:Ok p):Gd (zB D o p):=by
 refine⟨?_,λe d=>?_⟩
 ·rw[C6];split
  ·exact h.nd
  ·rename_i c;rw[bN];refine⟨h.nd,c5 _ _,λa ha b hb z=>c ?_⟩;rw[aW]at hb;rw[QZ,<- hb,<- z];exact ha
 ·unfold zB at d;split at d
  ·obtain⟨f,hf,rfl⟩:=aX.mp d;split
   ·exact J
   ·exact h.ok f hf
  ·rcases bJ.mp d with z|z
   ·exact h.ok e z
   ·rw[aW.mp z];exact J
theorem Gd.adds(l:Ps):∀{D:Ps},Gd D->Gd (adds D l):=by
 induction l with
 | nil=>intro D h;exact h
 | cons e l c=>intro D h;exact c<|h.put<|AQ _ _
def Gd.nil:Gd []:=⟨cT,nofun⟩
def vd{D:Ps}:(∃e∈D,e.1=o/\vS D o=e.2)\/(o∉D.map Prod.fst/\vS D o=[]):=by
 unfold vS
 cases h:D.find? λe=>decide (e.1=o)with
 | some e=>
  have h1:=gu h;exact .inl ⟨e,c_ h,by simpa using h1,rfl⟩
 | none=>
  refine .inr ⟨λz=>?_,rfl⟩;obtain⟨e,d,c⟩:=aX.mp z;exact gC.mp h e d<|bg c
def Gd.v{D:Ps}(h:Gd D)(o:ae):Ok (vS D o):=by
 rcases vd (D:=D) (o:=o)with⟨e,h1,_,h2⟩|⟨_,h2⟩
 ·rw[h2];exact h.ok e h1
 ·rw[h2];exact⟨List.Pairwise.nil,nofun⟩
def FZ.anti{a b:ae}(h1:FZ a b)(h2:FZ b a):a=b:=(Sx.Aw h1 h2).symm
def Tf{D:Ps}(h:Gd D)(h':Gd E)(hv:∀o,vS D o=vS E o):toS D=toS E:=by
 have c:∀(D:Ps),Gd D->∀o,o∈(n8<|D.map Prod.fst).filter (λo=>!(vS D o).isEmpty) ↔ (vS D o)≠[]:=λD h o=>by
  rw[bO,(ko _).mem_iff];constructor
  ·rintro⟨_,h2⟩ z;rw[z]at h2;cases h2
  ·intro z;refine⟨?_,by cases e:vS D o with|nil=>exact absurd e z|cons=>rfl⟩
   rcases vd (D:=D) (o:=o)with⟨e,h1,h2,_⟩|⟨_,h2⟩
   ·exact aX.mpr ⟨e,h1,h2⟩
   ·exact absurd h2 z
 have d:∀(D:Ps),((n8<|D.map Prod.fst).filter λo=>!(vS D o).isEmpty).Pairwise FZ:=λD=>(Bv _).filter _;have nd:∀(D:Ps),Gd D->((n8<|D.map Prod.fst).filter λo=>!(vS D o).isEmpty).Nodup:=λD h=>((ko _).nodup_iff.mpr h.nd).filter _;have e:(n8<|D.map Prod.fst).filter (λo=>!(vS D o).isEmpty)=(n8<|E.map Prod.fst).filter (λo=>!(vS E o).isEmpty):=by
  refine eX (λa b _ _ h1 h2=>FZ.anti h1 h2) (d D) (d E)<|(fX (nd D h)<|nd E h').mpr λo=>?_;rw[c D h,c E h',hv]
 unfold toS;rw[e];apply cg;intro o _;rw[hv]
def Qh{D:Ps}(h:Gd D)(h':Gd E)(hc:∀o t,cf (vS D o) t=cf (vS E o) t):toS D=toS E:=Tf h h' λo=>uniq (h.v o) (h'.v o)<|hc o
theorem Jc{f:ae->Pl}{o:ae}{t:Int}:∀{ks:List<|ae},ks.Nodup->cS (ks.map λk=>(k,f k)) o t=if o∈ks then cf (f o) t else 0
 | [],_=>by rw[aN<|by simp];rfl
 | j::ks,h=>by
  obtain⟨h1,h2⟩:=bZ.mp h;show(if j=o then cf (f j) t else 0)+cS (ks.map λk=>(k,f k)) o t=_;rw[Jc h2];by_cases c:j=o
  ·subst c;rw[aR rfl,aN h1,aR<|aJ ..,c9]
  ·rw[aN c,cP];by_cases e:o∈ks
   ·rw[aR e,aR<|aO _ e]
   ·rw[aN e,aN λz=>(bw.mp z).elim (λz=>c z.symm) e]
def Iz{D:Ps}(h:Gd D)(o:ae)(t:Int):cS (toS D) o t=cf (vS D o) t:=by
 unfold toS;rw[Jc<|((ko _).nodup_iff.mpr h.nd).filter _];split
 ·rfl
 ·rename_i c
  rcases vd (D:=D) (o:=o)with⟨e,h1,h2,h3⟩|⟨_,h2⟩
  ·by_cases z:vS D o=[]
   ·rw[z];rfl
   ·refine absurd (bO.mpr ⟨(ko _).mem_iff.mpr<|aX.mpr ⟨e,h1,h2⟩,?_⟩) c
    cases e:vS D o with|nil=>exact absurd e z|cons=>rfl
  ·rw[h2];rfl
abbrev pF (o:ae)(k:Nat):Bool:=decide<|o.getD (k-1) 0>o.getD k 0
abbrev bxL (k:Nat)(l:Ps):Ps:=l.flatMap λe=>(Wd.ex e.1 k,e.2)::(if pF e.1 k=true then[(e.1,times AF e.2)]else[])
abbrev bx (k:Nat)(l:Ps):Ps:=toS<|adds []<|bxL k l
abbrev Go (N k:Nat)(o:ae):Prop:=o.length=N/\o.getD (k-1) 0≠o.getD k 0
def O_{N k:Nat}{o:ae}(h:o.length=N)(h1:1<=k)(h2:k<N):Wd.ex (Wd.ex o k) k=o:=Fw.Hf h1 ()
def ab2{k:Nat}{o:ae}(h1:1<=k)(h2:k<o.length):(Wd.ex o k).getD (k-1) 0=o.getD k 0/\(Wd.ex o k).getD k 0=o.getD (k-1) 0:=by
 constructor
 ·rw[aL,Wd.sS h1 h2,aN (),aR rfl,aL]
 ·rw[aL,Wd.sS h1 h2,aR rfl,aL]
def yk{l:Ps}{t:Int}(h:∀e∈l,e.1≠o):cS l o t=0:=by
 induction l with
 | nil=>rfl
 | cons e l c=>
  show(if e.1=o then _ else 0)+cS l o t=0;rw[aN<|h e<|aJ ..,c λf hf=>h f<|aO _ hf];rfl
theorem Wi{N k:Nat}(h1:1<=k)(h2:k<N):∀{l:Ps},(∀e∈l,Go N k e.1)->∀{o:ae}(t:Int),Go N k o->cS (bxL k l) o t=cS l (Wd.ex o k) t+(if pF o k=true then cS l o (t+1)-cS l o (t-1)else 0)
 | [],_,o,t,_=>by show(0:Int)=0+if _ then(0:Int)-0 else 0;split<;>rfl
 | e::l,h,o,t,ho=>by
  have j:=h e<|aJ ..;have g:=Wi h1 h2 (l:=l) (λf hf=>h f<|aO _ hf) t ho;have d:(Wd.ex e.1 k=o) ↔ (e.1=Wd.ex o k):=⟨λz=>by rw[<- z,O_ j.1 h1 h2],λz=>by rw[z,O_ ho.1 h1 h2]⟩;show cS (((Wd.ex e.1 k,e.2)::(if pF e.1 k=true then[(e.1,times AF e.2)]else[]))++bxL k l) o t=_;rw[xW,g];show(if Wd.ex e.1 k=o then cf e.2 t else 0)+cS (if pF e.1 k=true then[(e.1,times AF e.2)]else[]) o t+_=((if e.1=Wd.ex o k then cf e.2 t else 0)+cS l (Wd.ex o k) t)+(if pF o k=true then((if e.1=o then cf e.2 (t+1)else 0)+cS l o (t+1))-((if e.1=o then cf e.2 (t-1)else 0)+cS l o (t-1))else 0);have h3:cS (if pF e.1 k=true then[(e.1,times AF e.2)]else[]) o t=if pF o k=true then((if e.1=o then cf e.2 (t+1)else 0)-(if e.1=o then cf e.2 (t-1)else 0))else 0:=by
   by_cases c:e.1=o
   ·rw[c,aR rfl,aR rfl]
    cases pF o k with
    | false=>rfl
    | true=>
     rw[aR rfl,aR rfl];show(if o=o then cf (times AF e.2) t else 0)+0=_;rw[aR rfl,abY,c9]
   ·rw[aN c,aN c];have:cS (if pF e.1 k=true then[(e.1,times AF e.2)]else[]) o t=0:=yk λf hf=>by
     split at hf
     ·rw[aW.mp hf];exact c
     ·cases hf
    rw[this];split<;>rfl
  rw[h3];by_cases c:Wd.ex e.1 k=o
  ·rw[aR c,aR<|d.mp c];split<;>lia
  ·rw[aN c,aN λz=>c<|d.mpr z];split<;>lia
def zf{P:ae->Prop}(l:Ps):∀{D:Ps},(∀e∈D,P e.1)->(∀e∈l,P e.1)->∀e∈adds D l,P e.1:=by
 induction l with
 | nil=>intro D h _;exact h
 | cons f l d=>
  intro D h h';refine d (λe c=>?_) λe c=>h' e<|aO _ c;have c:e∈zB D f.1 (q_ (vS D f.1) f.2):=c;unfold zB at c;split at c
  ·obtain⟨g,hg,rfl⟩:=aX.mp c;split
   ·exact h g hg
   ·exact h g hg
  ·rcases bJ.mp c with z|z
   ·exact h e z
   ·rw[aW.mp z];exact h' f<|aJ ..
def BL{P:ae->Prop}{D:Ps}(h:∀e∈D,P e.1):∀e∈toS D,P e.1:=λe c=>by
 obtain⟨o,d,rfl⟩:=aX.mp c;obtain⟨f,hf,e⟩:=aX.mp ((ko _).mem_iff.mp (bO.mp d).1)
 skip
 rw[<- e];exact h f hf
abbrev gX (k:Nat)(e:En)(Q:Ps):Ps:=if pF e.1 k=true then Bw (Bw Q (Wd.ex e.1 k) e.2.2) e.1 (times AF e.2.2)else Bw Q (Wd.ex e.1 k) e.2.2
theorem LP(k:Nat):∀(es:Es) (P:Ps),es.foldl (λQ e=>gX k e Q) P=adds P (bxL k<|sm es)
 | [],P=>rfl
 | e::es,P=>by
  show es.foldl (λQ e=>gX k e Q) (gX k e P)=adds P (((Wd.ex e.1 k,e.2.2)::(if pF e.1 k=true then[(e.1,times AF e.2.2)]else[]))++bxL k (sm es));rw[LP k es,OL];congr 1;unfold gX
  cases pF e.1 k<;>rfl
def acd{p:Pl}(h:Ok p)(hb:Bd C p)(t:Int):(cf p t).natAbs<=C:=by
 rw[<- zp h.nd];exact hb.val t
def Ok.Bk{l:Pl}(h:Ok l){p:Int×Int}(J:p∈l):cf l p.1=p.2:=by
 induction l with
 | nil=>cases J
 | cons q l c=>
  rcases bw.mp J with z|z
  ·rw[z];exact h.head
  ·show(if q.1=p.1 then q.2 else 0)+cf l p.1=p.2;have:=(cA.mp h.up).1 p z;rw[aN (),c h.tail z,cP]
end Su
namespace He
open PySem L2 Am
open Fw (Two rg ER)
open Bl (uJ)
open Su (pF)
meta abbrev Fn:=ae->Int->Int
abbrev dl (g:Int->Int)(t:Int):Int:=g (t+1)-g (t-1)
abbrev X (k:Nat)(f:Fn):Fn:=λo t=>f (Wd.ex o k) t+if pF o k=true then dl (f o) t else 0
def tR{n:Nat}{v:ae}(h:Two n o u)(h':Two n o v):u=v:=by
 have k:=h.lu;have j:=h'.lu;have g:=h.lo;apply eT;intro q;by_cases m:q<n
 ·obtain⟨p,c,ep⟩:∃p,∃c:p<o.length,o[p]=(q:Int)+1:=by
   have:(q:Int)+1∈o:=h.po.mem_iff.mpr<|o6.mpr ⟨(),()⟩;obtain⟨p,c,ep⟩:=List.getElem_of_mem this;exact⟨p,c,ep⟩
  have f:=h.ou.2 p c;have d:=h'.ou.2 p c;rw[ep,show((q:Int)+1-1).toNat=q by lia]at f d;rw[f,d]
 ·rw[cF (),cF ()]
abbrev bk (o:ae):ae:=(List.range o.length).map λi:Nat=>((o.idxOf ((i:Int)+1):Nat):Int)+1
def uD{n:Nat}{o:ae}(h:o.Perm<|rg n):Two n o (bk o):=by
 have lo:o.length=n:=by rw[h.length_eq,Wd.j5]
 have nd:o.Nodup:=h.nodup_iff.mpr<|uU _ _;have mem:∀i,i<n->(i:Int)+1∈o:=λi d=>h.mem_iff.mpr<|o6.mpr ⟨(),()⟩;have f:∀i,i<n->o.idxOf ((i:Int)+1)<n:=λi d=>by rw[<- lo];exact e9.mpr (mem i d)
 have get:∀i (d:i<n),o[o.idxOf<|(i:Int)+1]'(by rw[lo];exact f i d)=(i:Int)+1:=λi d=>iV _;refine⟨h,?_,?_,λp C=>?_⟩
 ·have p:=Am.xA (N:=n) (g:=λi=>o.idxOf<|(i:Int)+1) f λi j k B z=>by
   have a:=get i ();have b:=get j B;dsimp[z]at a;rw[b]at a
   lia
  have p2:=p.map λi:Nat=>(i:Int)+1;rw[bC]at p2;unfold bk;rw[lo];refine List.Perm.trans p2 ?_;have:(List.range n).map (λi:Nat=>(i:Int)+1)=rg n:=by
   apply eT;intro q;rw[aK];by_cases c:q<n
   ·rw[dc c,Wd.sA c];rfl
   ·rw[cF<|by rw[b_];lia,cF<|by rw[Wd.j5];lia];rfl
  rw[this]
 ·unfold bk;rw[aF,b_]
 ·have m:=o6.mp<|h.mem_iff.mp<|cK C;have t:(o[p]-1).toNat<o.length:=()
  unfold bk;rw[aK,dc t];show some (((o.idxOf (((o[p]-1).toNat:Int)+1):Nat):Int)+1)=_;rw[show((o[p]-1).toNat:Int)+1=o[p]by lia,nd.idxOf_getElem]
def aa9{n:Nat}{o:ae}(h:o.Perm<|rg n):bk (bk o)=o:=tR (uD (uD h).pu) (uD h).flip
def EF{n:Nat}{o:ae}(h:o.Perm<|rg n):(bk o).Perm (rg n):=(uD h).pu
def aaI{n k:Nat}{o:ae}(h:o.Perm<|rg n)(h0:1<=k)(h1:k<n):bk (o.map<|Wd.sw k)=Wd.ex (bk o) k:=by
 have t:=(uD h).step h0 h1;exact tR (uD t.po) t
def nb{n k:Nat}{o:ae}(h:o.Perm<|rg n)(h0:1<=k)(h1:k<n):o.getD (k-1) 0≠o.getD k 0:=λz=>by
 have lo:o.length=n:=by rw[h.length_eq,Wd.j5]
 have nd:o.Nodup:=h.nodup_iff.mpr<|uU _ _;rw[Wd.rT (),Wd.rT ()]at z;have:=(cI nd).mp z
 lia
abbrev L (j:Nat)(f:Fn):Fn:=λo t=>f (o.map<|Wd.sw j) t+if pF (bk o) j=true then dl (f o) t else 0
abbrev EqP (n:Nat)(f g:Fn):Prop:=∀o:ae,o.Perm (rg n)->∀t,f o t=g o t
def w4{n k:Nat}{o:ae}(h:o.Perm<|rg n)(h0:1<=k)(h1:k<n):(Wd.ex o k).Perm (rg n):=(Wd.Dz h0<|by rw[h.length_eq,Wd.j5];exact h1).trans h
def JG{n k:Nat}{o:ae}(h:o.Perm<|rg n)(h0:1<=k)(h1:k<n):(o.map<|Wd.sw k).Perm (rg n):=((uD h).step h0 h1).po
abbrev Va (n:Nat)(w:ag):Prop:=∀k∈w,1<=k/\k<n
abbrev Xw (w:ag)(f:Fn):Fn:=w.foldl (λf k=>X k f) f
abbrev D (u:ae)(g:Int->Int):Fn:=λo t=>if o=u then g t else 0
def wX(n:Nat):(rg n).Perm (rg n):=.refl _
theorem zJ{n:Nat}:∀(m:Nat) {u:ae},u.Perm (rg n)->Iv.inv u=m->∃w,Wd.ni (rg n) w/\Wd.led (rg n) w=u
 | 0,u,hu,hm=>by
  refine⟨[],trivial,(Fw.WL hu λk c=>?_).symm⟩;have:=Fw.yW c.1 c.2.1 c.2.2
  lia
 | m+1,u,hu,hm=>by
  obtain⟨k,c⟩:=Fw.TQ (l:=u) ();have lu:u.length=n:=by rw[hu.length_eq,Wd.j5]
  have d:=Fw.yW c.1 c.2.1 c.2.2;obtain⟨w,h1,h2⟩:=zJ m (w4 hu c.1<|by rw[<- lu];exact c.2.1) ();obtain⟨e1,e2⟩:=Su.ab2 (o:=u) c.1 c.2.1;refine⟨w++[k],Wd.ni.snoc h1 c.1 (by rw[Wd.j5,<- lu];exact c.2.1)<|by rw[h2,e1,e2];exact c.2.2,?_⟩;rw[Wd.EY,h2];exact Fw.Hf c.1 c.2.1
def abZ(n:Nat):bk (rg n)=rg n:=by
 refine tR (uD<|wX n) ⟨wX n,wX n,rfl,λp d=>?_⟩;have c:p<n:=by rw[Wd.j5]at d;exact d
 have e:=Wd.sA c;rw[aH d]at e;have e:=a_ e;rw[show((rg n)[p]-1).toNat=p by rw[e];lia];exact Wd.sA c
abbrev add (f g:Fn):Fn:=λo t=>f o t+g o t
def ac5{n k:Nat}{l:Su.Ps}(h:∀x∈l,x.1.Perm<|rg n)(h0:1<=k)(h1:k<n):EqP n (Su.cS<|Su.bx k l) (X k<|Su.cS l):=λo p t=>by
 have go:∀{x:ae},x.Perm (rg n)->Su.Go n k x:=λ{x} hx=>⟨by rw[hx.length_eq,Wd.j5],nb hx h0 h1⟩;unfold Su.bx;rw[Su.Iz<|Su.Gd.nil.adds _,Su.RE];show 0+_=_;rw[cP,Su.Wi h0 h1 (λe c=>go<|h e c) t<|go p];rfl
end He
namespace He
open PySem L2 Am Po
open Fw (Two rg ER)
open Su (pF Ps cS)
abbrev cv:Pl->(Int->Int)->Int->Int
 | [],_,_=>0
 | q::p,g,t=>q.2 * g (t-q.1)+cv p g t
def X5(p:Pl)(g h:Int->Int)(t:Int):cv p (λt=>g t+h t) t=cv p g t+cv p h t:=by
 induction p with
 | nil=>rfl
 | cons q p c=>
  show q.2 * (g (t-q.1)+h (t-q.1))+cv p _ t=(q.2 * g (t-q.1)+cv p g t)+(q.2 * h (t-q.1)+cv p h t);rw[c,ju];lia
def KP(p:Pl)(t:Int):cv p (λ_=>0) t=0:=by
 induction p with
 | nil=>rfl
 | cons q p c=>
  show q.2 * 0+cv p _ t=0;rw[c,fH];rfl
def aaL(p q:Pl)(t:Int):cf (times p q) t=cv p (cf q) t:=by
 rw[Su.Gw]
 induction p with
 | nil=>rfl
 | cons a p c=>
  show cf ((q.map λb=>(a.1+b.1,a.2 * b.2))++JS p q) t=_;rw[Su.rD,Su.Jy,c];rfl
abbrev MU (p:Pl)(f:Fn):Fn:=λo t=>cv p (f o) t
abbrev sw (n:Nat)(o:ae):ag:=by
 classical
 exact if h:o.Perm (rg n)then(zJ _ h rfl).choose else[]
def LX{n:Nat}{o:ae}(h:o.Perm<|rg n):Wd.ni (rg n) (sw n o)/\Wd.led (rg n) (sw n o)=o:=by
 unfold sw;rw[dif_pos h];exact(zJ _ h rfl).choose_spec
def WR{n:Nat}{o:ae}(h:o.Perm<|rg n):Va n (sw n o):=λk c=>by have:=Wd.ni.valid (LX h).1 k c;rwa [Wd.j5]at this
abbrev RG (G:ae->Fn):Ps->Fn
 | []=>λ_ _=>0
 | e::m=>add (MU e.2<|G e.1)<|RG G m
abbrev R (n:Nat)(m:Ps)(f:Fn):Fn:=RG (λo=>Xw (sw n o) f) m
def aba{n k:Nat}{m:Ps}(h0:1<=k)(h1:k<n)(J:∀x∈m,x.1.Perm<|rg n):∀x∈Su.bx k m,x.1.Perm (rg n):=Su.BL (P:=λo=>o.Perm<|rg n) (Su.zf (P:=λo=>o.Perm<|rg n) _ (nofun) λx c=>by
 obtain⟨f,hf,c⟩:=cL.mp c
 rcases bw.mp c with z|z
 ·rw[z];exact w4 (J f hf) h0 h1
 ·split at z
  ·rw[aW.mp z];exact J f hf
  ·cases z)
abbrev scl (p:Pl)(l:Ps):Ps:=l.map λx=>(x.1,times p x.2)
def HR(p:Pl)(l:Ps):cS (scl p l)=MU p (cS l):=by
 funext o t
 induction l with
 | nil=>exact(KP p t).symm
 | cons e l d=>
  show(if e.1=o then cf (times p e.2) t else 0)+cS (scl p l) o t=cv p (λt=>(if e.1=o then cf e.2 t else 0)+cS l o t) t;rw[X5,d];congr 1;by_cases c:e.1=o
  ·rw[aR c,aaL,show(λt=>if e.1=o then cf e.2 t else 0)=cf e.2 from funext λt=>aR c]
  ·rw[aN c,show(λt=>if e.1=o then cf e.2 t else(0:Int))=λ_=>0 from funext λt=>aN c,KP]
def off{n:Nat}{m:Ps}(J:∀x∈m,x.1.Perm<|rg n){o:ae}(h:¬o.Perm (rg n))(t:Int):cS m o t=0:=Su.yk λe c z=>h<|by rw[<- z];exact J e c
def Xu{n:Nat}{m J:Ps}(Z:∀x∈m,x.1.Perm<|rg n)(U:∀x∈J,x.1.Perm<|rg n)(h:EqP n (cS m)<|cS J):∀o t,cS m o t=cS J o t:=λo t=>by
 by_cases c:o.Perm (rg n)
 ·exact h o c t
 ·rw[off Z c,off U c]
abbrev B (f:Fn):Fn:=λo=>f<|bk o
abbrev d0:Int->Int:=λt=>if t=0 then 1 else 0
end He
namespace He
open PySem L2 Am Po
open Fw (Two rg ER)
open Su (pF Ps cS Gd vS toS adds bx)
def V3{D:Ps}(h:Gd D){e:ae×Pl}(J:e∈D):vS D e.1=e.2:=by
 rcases Su.vd (D:=D) (o:=e.1)with⟨c,h1,h2,h3⟩|⟨h1,_⟩
 ·rw[h3,JN h.nd c h1 e J h2]
 ·exact absurd (e_ J) h1
def QM{D:Ps}(h:Gd D):(D.map Prod.fst).map (λk=>(k,vS D k))=D:=by
 rw[bC]
 conv=>rhs;rw[<- map_id D]
 exact cg λe c=>by
  show(e.1,vS D e.1)=e;rw[V3 h c]
def Ju{D:Ps}(h:Gd D)(o:ae)(t:Int):cS D o t=cf (vS D o) t:=by
 conv=>lhs;rw[<- QM h]
 rw[Su.Jc h.nd];split
 ·rfl
 ·rename_i c
  rcases Su.vd (D:=D) (o:=o)with⟨e,h1,h2,_⟩|⟨_,h2⟩
  ·exact absurd (h2 ▸ e_ h1) c
  ·rw[h2];rfl
def I_{D:Ps}(h:Gd D):Gd (toS D):=by
 refine⟨?_,λe c=>?_⟩
 ·unfold toS;rw[bC,show(Prod.fst ∘ λo=>(o,vS D o))=id from rfl,map_id];exact((ko _).nodup_iff.mpr h.nd).filter _
 ·obtain⟨o,_,rfl⟩:=aX.mp c;exact h.v o
structure Cn (l:Ps):Prop where
 gd:Gd l
 eq:toS l=l
theorem Cn.toS{D:Ps}(h:Gd D):Cn (toS D):=⟨I_ h,Su.Qh (I_ h) h λo t=>by rw[<- Ju (I_ h),Su.Iz h]⟩
def Cn.ne{l:Ps}(h:Cn l){e:ae×Pl}(J:e∈l):e.2≠[]:=by
 rw[<- h.eq]at J;obtain⟨o,c,rfl⟩:=aX.mp J;have:=(bO.mp c).2;intro z;have z:vS l o=[]:=z;rw[z]at this
 cases this
abbrev ff (o:ae):bi:=((List.range<|o.length-1).find? λi=>pF o<|i+1).map (·+1)
def J9{o:ae}{k:Nat}(h:ff o=some k):1<=k/\k<o.length/\pF o k=true:=by
 obtain⟨i,c,rfl⟩:=aQ.mp h;have h1:=c7.mp<|c_ c;have h2:pF o (i+1)=true:=gu (p:=λi=>pF o<|i+1) c;exact⟨(),(),h2⟩
def abj(k:Nat)(l:Ps):Cn (bx k l):=.toS<|Gd.nil.adds _
def DN(l:Ps)(o:ae)(t:Int):cS (toS<|adds [] l) o t=cS l o t:=by
 rw[Su.Iz<|Gd.nil.adds _,Su.RE];exact cP _
abbrev Cr (l m:Ps):Ps:=toS<|adds []<|l++m
def TV{n:Nat}{l m:Ps}(pl:∀x∈l,x.1.Perm<|rg n)(J:∀x∈m,x.1.Perm<|rg n):Cn (Cr l m)/\(∀x∈Cr l m,x.1.Perm<|rg n)/\cS (Cr l m)=add (cS l) (cS m):=
 ⟨.toS<|Gd.nil.adds _,Su.BL (P:=λo=>o.Perm<|rg n)<|Su.zf (P:=λo=>o.Perm<|rg n) _ (nofun) λx c=>(bJ.mp c).elim (pl x)<|J x,funext λo=>funext λt=>by
  show cS (toS<|adds []<|l++m) o t=_;rw[DN,Su.xW];rfl⟩
abbrev one (n:Nat):Ps:=[(rg n,[((0:Int),(1:Int))])]
end He
namespace He
open PySem L2 Am Po
open Fw (Two rg ER)
open Su (pF Ps cS Gd vS toS adds bx)
abbrev arr:Nat->ae->List (ae)
 | 0,_=>[[]]
 | m+1,l=>l.flatMap λx=>(arr m<|l.erase x).map (x::·)
theorem Ay:∀{m:Nat}{l o:ae},o.Perm l->l.length=m->o∈arr m l
 | 0,l,o,p,h=>by
  have:l=[]:=cZ.mp h;subst this;rw[p.eq_nil];exact aW.mpr rfl
 | m+1,l,[],p,h=>by rw[<- p.length_eq]at h;cases h
 | m+1,l,x::o,p,h=>by
  obtain⟨h1,h2⟩:=List.cons_perm_iff_perm_erase.mp p;refine cL.mpr ⟨x,h1,aX.mpr ⟨o,Ay h2 ?_,rfl⟩⟩;rw[List.length_erase_of_mem h1,h];rfl
def zy{α:Type}[DecidableEq α]{ks L:List α}(nd:ks.Nodup)(h:∀x∈ks,x∈L):ks.length<=L.length:=by
 have:=pig L.length (ks.map λx=>L.idxOf x) ?_ λi d=>?_
 ·rwa [aF]at this
 ·refine cN.mpr<|nd.imp_of_mem λ{a b} ha hb hab z=>hab ?_;have e1:=iV<|e9.mpr<|h a ha;have e2:=iV<|e9.mpr<|h b hb;rw[<- e1,<- e2];congr 1
 ·obtain⟨x,c,rfl⟩:=aX.mp d;exact e9.mpr<|h x c
def UE:∀n,n<6->(arr n<|rg n).length<=120:=by decide +kernel
def many{n:Nat}(hn:n<6){ks:List<|ae}(nd:ks.Nodup)(h:∀o∈ks,o.Perm<|rg n):ks.length<=120:=
 bI (zy nd λo c=>Ay (h o c)<|Wd.j5 n) (UE n hn)
structure FB (n P C:Nat)(f:Fn):Prop where
 c:∀o,o.Perm (rg n)->∀t,(f o t).natAbs<=C
 p:∀o,o.Perm (rg n)->∀t:Int,P<t.natAbs->f o t=0
def FB.mono{n P:Nat}{f:Fn}(h:FB n P C f)(J:P<=P')(hc:C<=C'):FB n P' C' f:=⟨λo d t=>bI (h.c o d t) hc,λo d t g=>h.p o d t ()⟩
def FB.eq{n P:Nat}{f g:Fn}(h:FB n P C f)(e:EqP n g f):FB n P C g:=⟨λo d t=>by rw[e o d t];exact h.c o d t,λo d t j=>by rw[e o d t];exact h.p o d t j⟩
theorem FB.X{n P k:Nat}{f:Fn}(h:FB n P C f)(h0:1<=k)(h1:k<n):FB n (P+1) (3 * C) (X k f):=by
 refine⟨λo g t=>?_,λo g t j=>?_⟩
 ·have a:=h.c _ (w4 g h0 h1) t;have b:=h.c o g<|t+1;have d:=h.c o g<|t-1;unfold He.X dl;split<;>omega
 ·have a:=h.p _ (w4 g h0 h1) t (by omega);have b:=h.p o g (t+1) (by omega);have d:=h.p o g (t-1) (by omega);unfold He.X dl;split<;>omega
theorem FB.add{n P:Nat}{f g:Fn}(h:FB n P C f)(h':FB n P C' g):FB n P (C+C') (add f g):=by
 refine⟨λo d t=>?_,λo d t j=>?_⟩
 ·have a:=h.c o d t;have b:=h'.c o d t;show(f o t+g o t).natAbs<=_;omega
 ·show f o t+g o t=0;rw[h.p o d t j,h'.p o d t j];rfl
structure PB (Q c:Nat)(p:Pl):Prop where
 c:∀q∈p,q.2.natAbs<=c
 p:∀q∈p,q.1.natAbs<=Q
theorem Yn{n P c:Nat}{f:Fn}(h:FB n P C f){o:ae}(J:o.Perm<|rg n):∀{p:Pl},PB Q c p->(∀t,(cv p (f o) t).natAbs<=p.length * (c * C))/\∀t:Int,P+Q<t.natAbs->cv p (f o) t=0
 | [],_=>⟨λ_=>bW _,λ_ _=>rfl⟩
 | q::p,b=>by
  obtain⟨g,m⟩:=Yn h J (p:=p) ⟨λx d=>b.c x<|aO _ d,λx d=>b.p x<|aO _ d⟩;have j:=b.c q<|aJ ..;have B:=b.p q<|aJ ..;refine⟨λt=>?_,λt k=>?_⟩
  ·show(q.2 * f o (t-q.1)+cv p (f o) t).natAbs<=(p.length+1) * (c * C);refine bI (Int.natAbs_add_le _ _) ?_;rw[Int.natAbs_mul,je,Nat.add_comm];exact Nat.add_le_add (g t) (jv j<|h.c o J _)
  ·show q.2 * f o (t-q.1)+cv p (f o) t=0;rw[m t k,h.p o J _<|by omega,fH];rfl
theorem FB.MU{n P c:Nat}{f:Fn}(h:FB n P C f){p:Pl}(b:PB Q c p):FB n (P+Q) (p.length * (c * C)) (MU p f):=⟨λo d t=>(Yn h d b).1 t,λo d t g=>(Yn h d b).2 t g⟩
theorem uH:∀{w:ag}{l:ae},Wd.ni l w->Iv.inv (Wd.led l w)=Iv.inv l+w.length
 | [],_,_=>rfl
 | k::w,l,h=>by
  have:=uH h.2.2.2;rw[Fw.IB h.1 h.2.1 h.2.2.1]at this;show Iv.inv (Wd.led (Wd.ex l k) w)=_+(w.length+1)
  lia
def Hx{n:Nat}{o:ae}(h:o.Perm<|rg n):(sw n o).length=Iv.inv o:=by
 obtain⟨a,b⟩:=LX h;have:=uH a;rw[b,Fw.Eo]at this
 lia
theorem Iw:∀{l:Pl}{a b:Int},l.Pairwise (λp q=>p.1<q.1)->(∀p∈l,a<=p.1/\p.1<=b)->l.length<=(b-a+1).toNat
 | [],_,_,_,_=>bW _
 | p::l,a,b,h,hb=>by
  obtain⟨h1,h2⟩:=cA.mp h;have p1:=hb p<|aJ ..;have i:=Iw (l:=l) (a:=a+1) (b:=b) h2 λq c=>by
   have:=h1 q c;have:=hb q (aO _ c)
   lia
  rw[bR]
  lia
def Zt{p:Pl}{P c:Nat}(h:Ok p)(b:PB P c p):p.length<=2 * P+1:=by
 have:=Iw (a:=-(P:Int)) (b:=P) h.up λq d=>by have:=b.p q d;omega
 omega
def FB.pb{n P:Nat}{l:Ps}(h:FB n P C<|cS l)(hc:Gd l)(pl:∀x∈l,x.1.Perm<|rg n){e:ae×Pl}(J:e∈l):PB P C e.2/\e.2.length<=2 * P+1:=by
 have ok:=hc.ok e J;have f:∀q∈e.2,cS l e.1 q.1=q.2:=λq d=>by
  rw[Ju hc,V3 hc J];exact Su.Ok.Bk ok d
 have b:PB P C e.2:=⟨λq d=>by rw[<- f q d];exact h.c _ (pl e J) _,λq d=>by
  refine i9 λz=>ok.nz q d ?_;rw[<- f q d];exact h.p _ (pl e J) _ z⟩
 exact⟨b,Zt ok b⟩
structure Sz (n P C:Nat)(l:Ps):Prop where
 cn:Cn l
 pm:∀x∈l,x.1.Perm (rg n)
 fb:FB n P C<|cS l
def Sz.pb{n P:Nat}{l:Ps}(h:Sz n P C l){e:ae×Pl}(J:e∈l):PB P C e.2/\e.2.length<=2 * P+1:=h.fb.pb h.cn.gd h.pm J
def Sz.many{n P:Nat}{l:Ps}(hn:n<6)(h:Sz n P C l):l.length<=120:=by
 have:=He.many hn h.cn.gd.nd λo d=>by obtain⟨e,c,rfl⟩:=aX.mp d;exact h.pm e c
 rwa [aF]at this
def Sz.mono{n P:Nat}{l:Ps}(h:Sz n P C l)(J:P<=P')(hc:C<=C'):Sz n P' C' l:=⟨h.cn,h.pm,h.fb.mono J hc⟩
theorem Sz.bx{n P k:Nat}{l:Ps}(h:Sz n P C l)(h0:1<=k)(h1:k<n):Sz n (P+1) (3 * C) (bx k l):=⟨abj _ _,aba h0 h1 h.pm,(h.fb.X h0 h1).eq<|ac5 h.pm h0 h1⟩
def Sz.sum{n P c:Nat}{l:Ps}(h:Sz n P C l)(h':Sz n P c m):Sz n P (C+c) (Cr l m):=by
 obtain⟨a,b,d⟩:=TV h.pm h'.pm;exact⟨a,b,by rw[d];exact h.fb.add h'.fb⟩
end He
namespace Su
open Am Po PySem L2
def Mu{D:Es}{r:Nat}{p:Pl}:∃e,fE (mL D o r p) o=some e/\e.2.1=r:=by
 unfold mL;by_cases c:(fE D o).isSome=true
 ·rw[aR c];obtain⟨e,d⟩:=dU.mp c;unfold fE at d ⊢;rw[gV];have eq:((λe:En=>decide<|e.1=o) ∘ λe:En=>if e.1=o then(e.1,r,p)else e)=λe:En=>decide (e.1=o):=by
   funext x
   show decide ((if x.1=o then(x.1,r,p)else x).1=o)=_;by_cases z:x.1=o
   ·rw[aR z]
   ·rw[aN z]
  rw[eq,d];have:=gu d;have:=bE this;exact⟨_,rfl,by show(if e.1=o then(e.1,r,p)else e).2.1=r;rw[aR this]⟩
 ·rw[aN c];have c:fE D o=none:=Option.not_isSome_iff_eq_none.mp c;unfold fE at c ⊢;rw[List.find?_append,c];exact⟨(o,r,p),by rw[b5,bg rfl];rfl,rfl⟩
end Su
namespace He
open PySem L2 Am Po
open Fw (Two rg ER)
open Su (pF Ps cS Gd vS toS adds bx)
def Sz.of{n P:Nat}{l:Ps}(h:Cn l)(J:∀x∈l,x.1.Perm<|rg n)(pb:∀e∈l,PB P C e.2):Sz n P C l:=by
 refine⟨h,J,⟨λo j t=>?_,λo j t k=>?_⟩⟩
 ·rw[Ju h.gd]
  rcases Su.vd (D:=l) (o:=o)with⟨e,h1,_,h3⟩|⟨_,h2⟩
  ·rw[h3];exact Su.acd (h.gd.ok e h1) (λq d=>(pb e h1).c q d) t
  ·rw[h2];exact bW _
 ·rw[Ju h.gd]
  rcases Su.vd (D:=l) (o:=o)with⟨e,h1,_,h3⟩|⟨_,h2⟩
  ·rw[h3];have:∀q∈e.2,q.1≠t:=λq d z=>by have:=(pb e h1).p q d;rw[z]at this;lia
   clear h3;revert this;generalize e.2=p0;intro this
   induction p0 with
   | nil=>rfl
   | cons q p f=>
    have z:=this q<|aJ ..;have i:=f λx g=>this x<|aO _ g;show(if q.1=t then q.2 else 0)+cf p t=0;rw[aN z,i];rfl
  ·rw[h2];rfl
def VI{o:ae}:((lB 1 (o.length:Int)).filter λk=>decide<|o.getD (k-1).toNat 0>o.getD k.toNat 0).head?=(ff o).map λk:Nat=>(k:Int):=by
 rw[List.head?_filter];unfold lB ff;rw[gV,show((o.length:Int)-1).toNat=o.length-1 by lia,eG];have:((λk:Int=>decide<|o.getD (k-1).toNat 0>o.getD k.toNat 0) ∘ λk:Nat=>(1:Int)+(k:Int))=λi:Nat=>pF o (i+1):=by
  funext i
  show decide (o.getD ((1:Int)+(i:Int)-1).toNat 0>o.getD ((1:Int)+(i:Int)).toNat 0)=decide _;rw[show((1:Int)+(i:Int)-1).toNat=i+1-1 by lia,show((1:Int)+(i:Int)).toNat=i+1 by lia]
 rw[this];congr 1
 funext i
 show(1:Int)+(i:Int)=((i+1:Nat):Int)
 lia
end He
namespace He
open PySem L2 Am Po
open Fw (Two rg ER)
open Su (pF Ps cS Gd vS toS adds bx)
theorem EJ{n:Nat}:∀{w:ag}{l:ae},l.Perm (rg n)->Va n w->Iv.inv (Wd.led l w)<=Iv.inv l+w.length/\(Iv.inv (Wd.led l w)=Iv.inv l+w.length->Wd.ni l w)
 | [],l,_,_=>⟨aP _,λ_=>trivial⟩
 | k::w,l,p,v=>by
  have v1:=v k<|aJ ..;have ll:l.length=n:=by rw[p.length_eq,Wd.j5]
  obtain⟨f,d⟩:=EJ (w:=w) (w4 p v1.1 v1.2) λj g=>v j<|aO _ g;have f:Iv.inv (Wd.led l (k::w))<=Iv.inv (Wd.ex l k)+w.length:=f;have d:Iv.inv (Wd.led l (k::w))=Iv.inv (Wd.ex l k)+w.length->Wd.ni (Wd.ex l k) w:=d;rw[bR]
  rcases gP 0 0 with z|_
  ·lia
  ·by_cases c:l.getD (k-1) 0<l.getD k 0
   ·have u:=Fw.IB v1.1 () c;exact⟨(),λh=>⟨v1.1,(),c,d ()⟩⟩
   ·have ne:=nb p v1.1 v1.2;have u:=Fw.yW v1.1 () (show l.getD k 0<l.getD (k-1) 0 by lia);exact⟨(),λh=>absurd h ()⟩
theorem Pj{n:Nat}:∀{w:ag}{l:ae},l.Perm (rg n)->Va n w->(Wd.led l w).Perm (rg n)
 | [],_,p,_=>p
 | k::w,l,p,v=>Pj (w:=w) (w4 p (v k<|aJ ..).1 (v k<|aJ ..).2) λj c=>v j<|aO _ c
end He
namespace He
open PySem L2 Am Po
open Fw (Two rg ER)
open Su (pF Ps cS Gd vS toS adds bx)
def UW{n:Nat}{w:ag}(h:Wd.ni (rg n) w):Wd.ni (rg n) w.reverse:=by
 have va:Va n w:=λk f=>by have:=Wd.ni.valid h k f;rwa [Wd.j5]at this
 have c:Va n w.reverse:=λk f=>va k<|jc.mp f;have pr:=Pj (wX n) c;obtain⟨q,m⟩:=LX pr;have j:=WR pr;have d:Va n (sw n<|Wd.led (rg n) w.reverse).reverse:=λk f=>j k<|jc.mp f;have g:=Wd.tF (sw n<|Wd.led (rg n) w.reverse).reverse d;rw[List.reverse_reverse,m]at g;have e:=tR ⟨pr,Pj (wX n) d,g⟩ ⟨pr,Pj (wX n) va,Wd.tF w va⟩;have p:=(EJ (wX n) d).1;rw[e,Fw.Eo,iK,Hx pr]at p;have B:=uH h;have t:=(EJ (wX n) c).1;refine(EJ (wX n) c).2 ?_;rw[Fw.Eo,iK]at *
 lia
abbrev Y (k:Nat)(f:Fn):Fn:=λo t=>X k f o t-dl (f o) t
abbrev Yw (w:ag)(f:Fn):Fn:=w.foldl (λf k=>Y k f) f
abbrev Nk (p:Pl)(l:Ps):Ps:=toS<|adds []<|scl p l
def X4(p:Pl)(l:Ps):cS (Nk p l)=MU p (cS l):=by
 funext o t
 unfold Nk;rw[DN,HR]
def W5{n:Nat}{p:Pl}{l:Ps}(pl:∀x∈l,x.1.Perm<|rg n):Cn (Nk p l)/\∀x∈Nk p l,x.1.Perm (rg n):=
 ⟨.toS<|Gd.nil.adds _,Su.BL (P:=λo=>o.Perm<|rg n) (Su.zf (P:=λo=>o.Perm<|rg n) _ (nofun) λx c=>by
  obtain⟨y,d,rfl⟩:=aX.mp c;exact pl y d)⟩
abbrev bT (n:Nat)(o:ae):Fn:=Yw (sw n o)<|cS<|one n
end He
namespace He
open PySem L2 Am Po
open Fw (Two rg ER Dn)
open Su (pF Ps cS Gd vS toS adds bx)
def P1{n:Nat}{o:ae}(J:o.Perm<|rg n):Iv.inv (bk o)=Iv.inv o:=by
 obtain⟨a,b⟩:=LX J;have va:=WR J;have d:Va n (sw n o).reverse:=λk f=>va k<|jc.mp f;have c:=Wd.tF (sw n o).reverse d;rw[List.reverse_reverse,b]at c;have e:=tR ⟨J,Pj (wX n) d,c⟩<|uD J;have l:=uH<|UW a;rw[e,Fw.Eo,iK,Hx J]at l
 lia
abbrev fwd (o:ae):ag:=(Fw.OM _ (bk o)<|aP _).choose
abbrev vwF:Nat->ae->ag
 | 0,_=>[]
 | m+1,o=>match (fwd o).getLast? with
  | none=>[]
  | some k=>vwF m (Wd.ex o k)++[k]
abbrev vw (o:ae):ag:=vwF (Iv.inv o) o
theorem Sz.Nk{n P c:Nat}{l:Ps}(h:Sz n P C l){p:Pl}(b:PB Q c p):Sz n (P+Q) (p.length * (c * C)) (Nk p l):=by
 obtain⟨d,f⟩:=W5 (p:=p) h.pm;exact⟨d,f,by rw[X4];exact h.fb.MU b⟩
end He
namespace Su
open PySem L2 Am Po
abbrev RB (Q:Nat)(p:Pl):Prop:=∀q∈p,q.1.natAbs<=Q
theorem zd:∀(ps d:Pl) {k:Int},k∈(pP d ps).map Prod.fst->k∈d.map Prod.fst\/k∈ps.map Prod.fst
 | [],_,_,h=>.inl h
 | p::ps,d,k,h=>by
  rcases zd ps (acc d p.1 p.2) (k:=k) h with z|z
  ·have e:(acc d p.1 p.2).map Prod.fst=_:=GG;rw[e]at z;split at z
   ·exact .inl z
   ·rcases bJ.mp z with y|y
    ·exact .inl y
    ·exact .inr<|by rw[aW.mp y];exact aJ ..
  ·exact .inr<|aO _ z
def J3{d:Pl}{q:Int×Int}(h:q∈Mm d):q.1∈d.map Prod.fst:=by
 obtain⟨k,c,rfl⟩:=aX.mp h;exact(sortI_perm _).mem_iff.mp (bO.mp c).1
def RB.plus{a b:Pl}(ha:RB Q a)(hb:RB Q b):RB Q (q_ a b):=λq d=>by
 rcases zd _ _ (J3 d)with z|z
 ·cases z
 ·obtain⟨x,c,e⟩:=aX.mp z;rw[<- e];exact(bJ.mp c).elim (ha x) (hb x)
theorem RB.times{R:Nat}{a b:Pl}(ha:RB Q a)(hb:RB R b):RB (Q+R) (times a b):=λq d=>by
 rcases zd _ _ (J3 d)with z|z
 ·cases z
 ·obtain⟨x,c,e⟩:=aX.mp z;obtain⟨y,f,c⟩:=cL.mp c;obtain⟨w,hw,rfl⟩:=aX.mp c;rw[<- e];have:=ha y f;have:=hb w hw;show(y.1+w.1).natAbs<=_
  lia
def RB.mono{R:Nat}{a:Pl}(h:RB Q a)(J:Q<=R):RB R a:=λq c=>bI (h q c) J
def RB.len{p:Pl}(ok:Ok p)(h:RB Q p):p.length<=2 * Q+1:=by
 have:=He.Iw (a:=-(Q:Int)) (b:=Q) ok.up λq c=>by have:=h q c;lia
 lia
def UC{S:jB}{d:Nat}{D:Pl}(J:kc S d=some (iv D))(U:D.length<64):∃S',j8 [none,some 0] (ly<|jZ (f1 yK)<|jy (jx 0)<|jG) (jX 0) (qh<|jH (s_ true) (jH BR (jx 1)<|jx 0)<|eC<|.int 0) (sQ<|jy (jx 0)<|jy (jH BR (jx 1)<|jx 0)<|jG) [.ref d] S=.ok (.ref<|S.length+1) S'/\jA S' (S.length+1)=some (pl<|Mm D)/\kO S S':=by
 have f:kc (S++[.lst<|(sortI<|D.map Prod.fst).map .int]) d=some (iv D):=Ze J;have j:(S++[O.lst<|(sortI<|D.map Prod.fst).map A.int]).length=S.length+1:=by simp
 have m:yK (.ref d) S=.ok (.ref S.length) (S++[.lst<|(sortI<|D.map Prod.fst).map .int]):=by
  show opt (kc S d) _=_;rw[J,jS,Up<|show(iv D).length<64 by unfold iv;rw[aF];exact U,Vp]
 have p:=MG (n:=S.length) (xs:=(sortI<|D.map Prod.fst).map A.int) (cap:=[some 0]) (src:=ly<|jZ (f1 yK)<|jy (jx 0)<|jG) (t:=qh<|jH (s_ true) (jH BR (jx 1)<|jx 0)<|eC<|.int 0) (e:=sQ<|jy (jx 0)<|jy (jH BR (jx 1)<|jx 0)<|jG) (τ:=[.ref d]) (S:=S) (S1:=S++[.lst<|(sortI<|D.map Prod.fst).map .int])
  (l_ (by dsimp[jW,bools,m]) jQ) jQ (λx=>match x with | .int k=>val D k != 0|_=>false) (λx=>match x with | .int k=>pA (k,val D k)|_=>.non) (λx g=>by
   obtain⟨k,c,rfl⟩:=aX.mp g;have c:=(sortI_perm _).mem_iff.mp c;dsimp[jW,bools,Km,f,wD c];rfl) (λx g _=>by
   obtain⟨k,c,rfl⟩:=aX.mp g;have c:=(sortI_perm _).mem_iff.mp c;dsimp[jW,bools,Km,f,wD c];exact pJ<|show 2<=16777216 by decide) (by rw[aF,(sortI_perm _).length_eq,aF];lia)
 refine⟨_,p.trans<|by rw[j],?_,Kp.refl.lay.lay⟩;rw[<- j,jQ];congr 1;unfold pl Mm;rw[bC,iH,bC];rfl
def Uq{S:jB}{d:Nat}{D:Es}(U:jV S d=some (D.map kv))(J:∀e∈D,e.1≠[])(Z:D.length<64):Aq (.ref d) S=.ok (.ref S.length) (S++[.lst<|(n8<|D.map Prod.fst).map Ck]):=by
 have c:(D.map kv).map Prod.fst=D.map Prod.fst:=by rw[bC];rfl
 show opt (jV S d) _=_;rw[U,jS,c,Up<|Yd (λk f=>by obtain⟨e,g,rfl⟩:=aX.mp f;exact J e g)<|by rw[aF];exact Z];rfl
abbrev FY (F:ab->jB->R A):Prop:=∀{S:jB}{d r:Nat}{D:Es}{o:ae}{p:Pl}{k b:Nat},jV S d=some (D.map kv)->At S D->Vl k b D->jA S r=some (pl p)->D.length<64->k+p.length<64 ->
  ∃(L:Nat) (c:jB),F [.ref d,.tup<|o.map .int,.ref r] S=.ok .non c/\jV c d=some ((mL D o L<|q_ (vS (sm D) o) p).map kv)/\At c (mL D o L<|q_ (vS (sm D) o) p)/\S.length<=L/\Kp (·=d) S c
structure Fil3 (T:jB)(d b i j:Nat)(P:Ps)(D:Es):Prop where
 dd:jV T d=some (D.map kv)
 aa:At T D
 ss:sm D=P
 vv:Vl (2 * j+1) b D
 rb:∀e∈D,RB j e.2.2
 kk:∀e∈D,e.1≠[]
 ll:D.length<=i
 pw:Ap D
def Fil3.mono{d b:Nat}{P:Ps}{D:Es}(h:Fil3 T d b i j P D)(hi:i<=i'):Fil3 T d b i' j P D:=⟨h.dd,h.aa,h.ss,h.vv,h.rb,h.kk,bI h.ll hi,h.pw⟩
def Fil3.new{d b:Nat}(J:jV S d=some []):Fil3 S d b 0 j [] []:=⟨J,(nofun),rfl,(nofun),(nofun),(nofun),aP _,List.Pairwise.nil⟩
def Fil3.wB{d b:Nat}{P:Ps}{D:Es}(h:Fil3 S d b i j P D)(k:kO S T):Fil3 T d b i j P D:=⟨k.dct _ _ (λz=>z) h.dd,h.aa.wB k,h.ss,h.vv,h.rb,h.kk,h.ll,h.pw⟩
def Fil3.add{F:ab->jB->R A}(J:FY F){T:jB}{d b r:Nat}{P:Ps}{D:Es}{o:ae}{p:Pl}(h:Fil3 T d b i j P D)(U:jA T r=some (pl p))(Z:RB j p)(lp:p.length<=2 * j+1)(ho:o≠[])(hb:b<=T.length)(hl:j<=15)(hi:i<63) :
  ∃(D':Es) (T':jB),F [.ref d,.tup<|o.map .int,.ref r] T=.ok .non T'/\Fil3 T' d b (i+1) j (Bw P o p) D'/\Kp (·=d) T T':=by
 have m:=h.ll;obtain⟨L,T',e,h1,h2,h3,f⟩:=J (o:=o) h.dd h.aa h.vv U () ();have g:RB j (vS (sm D) o):=by
  rw[E3]
  cases e:fE D o with
  | none=>exact λq t=>nomatch t
  | some k=>exact h.rb k (pB e).1
 have rn:=g.plus Z;refine⟨_,T',e,⟨h1,h2,by rw[El,h.ss];rfl,λe c=>?_,λe c=>?_,λe c=>?_,?_,h.pw.put λe c z=>by have:=mw<|h.aa e c;lia⟩,f⟩
 ·rcases nM c with z|z
  ·exact h.vv e z
  ·rw[z];exact⟨AQ _ _,RB.len (AQ _ _) rn,by show b<=L;lia⟩
 ·rcases nM c with z|z
  ·exact h.rb e z
  ·rw[z];exact rn
 ·rcases nM c with z|z
  ·exact h.kk e z
  ·rw[z];exact ho
 ·have:=Tr (D:=D) (o:=o) (r:=L) (p:=q_ (vS (sm D) o) p)
  lia
def AN{d n b w:Nat}{P:Ps}{es:Es}{src:Ic}{c:Am.Sm}{g:Tg}(J:A->A->ab)(G:En->Ps->Ps)(hg:∀(e:En) (y z:A) (T:jB),g (ent e) (J y z) T=.ok (J (.tup<|e.1.map .int)<|.ref e.2.1) T)
  {x3 x4:A} (hs:src (J x3 x4) S=.ok (lJ n (es.map ent).length) S1) (hn:jA S1 n=some (es.map ent)) (U:Fil3 S1 d b i0 j P D0)
  (step:∀(i:Nat) (e:En) (T:jB) (Q:Ps) (D:Es),i<es.length->e∈es->Kp (·=d) S1 T->Fil3 T d b (i0+w * i) j Q D->∃(D':Es) (T':jB),c (J (.tup<|e.1.map .int)<|.ref e.2.1) T=.nx (J (.tup<|e.1.map .int)<|.ref e.2.1) T'/\Fil3 T' d b (i0+w * (i+1)) j (G e Q) D'/\Kp (·=d) T T') :
  ∃(y3 y4:A) (D:Es) (S':jB),ku src g c (J x3 x4) S=.nx (J y3 y4) S'/\Fil3 S' d b (i0+w * es.length) j (es.foldl (λQ e=>G e Q) P) D/\Kp (·=d) S1 S':=by
 have m:(es.map ent).length=es.length:=aF ..;refine qe (n:=n) (xs:=es.map ent) (S1:=S1) hs (λi τ T=>(∃y3 y4,τ=J y3 y4)/\(∃D,Fil3 T d b (i0+w * i) j ((es.take i).foldl (λQ e=>G e Q) P) D)/\Kp (·=d) S1 T)
  (λr=>∃(y3 y4:A) (D:Es) (S':jB),r=.nx (J y3 y4) S'/\Fil3 S' d b (i0+w * es.length) j (es.foldl (λQ e=>G e Q) P) D/\Kp (·=d) S1 S') ⟨⟨_,_,rfl⟩,⟨D0,U⟩,Kp.refl⟩ (λi τ T h=>h.2.2.lst _ _ (Ne.symm<|qD U.dd hn) hn) ?_ ?_
 ·rintro i z τ T p ⟨⟨y3,y4,rfl⟩,⟨D,f⟩,kp⟩;rw[aK]at p;obtain⟨e,k,rfl⟩:=aQ.mp p;refine⟨J (.tup<|e.1.map .int)<|.ref e.2.1,T,hg _ _ _ _,.inl ?_⟩;obtain⟨D',T',e1,t,q⟩:=step i e T _ D (aG.mp k).1 (aY k) kp f;refine⟨_,T',e1,⟨_,_,rfl⟩,⟨D',?_⟩,kp.trans q⟩;rw[b6,k,eU];exact t
 ·rintro τ T ⟨⟨y3,y4,rfl⟩,⟨D,f⟩,kp⟩;rw[m,b8]at f;exact⟨y3,y4,D,T,rfl,f,kp⟩
end Su
namespace He
open Su Po
open Fw (rg)
def abq:∀n,n<5->(arr n<|rg n).length<=24:=by decide +kernel
def Sz.m24{n P:Nat}{l:Ps}(hn:n<5)(h:Sz n P C l):l.length<=24:=by
 have:(l.map Prod.fst).length<=24:=bI (zy h.cn.gd.nd λo d=>by obtain⟨e,c,rfl⟩:=aX.mp d;exact Ay (h.pm e c)<|Wd.j5 n) (abq n hn)
 rwa [aF]at this
def Sz.rb{n P:Nat}{l:Ps}(h:Sz n P C l){e:ae×Pl}(J:e∈l):RB P e.2:=(h.pb J).1.p
end He
namespace K69
open PySem L2 Am
abbrev Rv (S:jB)(b:Nat):Prop:=∃g st:Int,jA S b=some [.int g,.int st]/\0<=g/\0<=st/\st<4294967296
def Rv.kp{b:Nat}{c:Nat->Prop}(h:Rv S b)(k:Kp c S S')(hb:¬c b):Rv S' b:=by
 obtain⟨g,st,e,q⟩:=h;exact⟨g,st,k.lst b _ hb e,q⟩
def Vz{ns:ae}{k:Int}(h0:0<=k):∃c,rB [.frz<|ns.map .int,.int k] S=.ok (.int c) S:=by
 unfold rB xw xO;dsimp[jW,bools,lX,Nat.reduceAdd,Nat.reduceSub,aF];by_cases d:k<(ns.length:Int)
 ·have hn:k.toNat<ns.length:=()
  have ha:sN (ns.map A.int) k=some (.int ns[k.toNat]):=Dt (k:=k.toNat) ()<|aH hn;rw[bg d];dsimp[jW,bools,ha];exact⟨_,rfl⟩
 ·rw[bH d];dsimp[jW,bools];exact⟨_,rfl⟩
def Vc{S:jB}{c k:Int}(h0:0<=k)(h1:k<=100):∃S',t9 [.int c,.int k] S=.ok (.ref S.length) S'/\Rv S' S.length/\kO S S':=by
 have e3:Yk (.int 10) (.int 18)=λS=>R.ok (.int 1000000000000000000) S:=by
  funext S;exact pR ⟨by decide,by decide,by decide⟩
 have f:∀x:Int,DK (.int x) (.int 2147483647)=λS=>R.ok (.int<|x % 2147483647) S:=λx=>by funext S;exact FJ ⋯
 have g:∀x:Int,wR (.int x) (.int 69621)=λS=>R.ok (.int<|x * 69621) S:=λx=>by funext S;exact mul_r ⋯ ⋯
 have d:∀x:Int,wR (.int 7919) (.int x)=λS=>R.ok (.int<|7919 * x) S:=λx=>by funext S;exact Gg ⋯ ⋯
 have j:∀x:Int,0<=x % 2147483647:=λx=>iI _ ⋯;have p:∀x:Int,x % 2147483647<4294967296:=λx=>by have:=gD x (show(0:Int)<2147483647 by decide);lia
 have q:0<=(if c<0 then -c else c):=by split<;>lia
 unfold t9 zb ze;dsimp[jW,bools,lX,Nat.reduceAdd,Nat.reduceSub,e3,f,g,d];by_cases m:(if c<0 then -c else c)<1000000000000000000
 ·rw[bg m];dsimp[jW,bools,e3,f,g,d];exact⟨_,rfl,⟨_,_,jQ,Int.le_refl 0,j _,p _⟩,Kp.refl.lay⟩
 ·rw[bH m];dsimp[jW,bools,e3,f,g,d];exact⟨_,rfl,⟨_,_,jQ,q,j _,p _⟩,Kp.refl.lay⟩
def Qn{S:jB}{b:Nat}{g st:Int}(J:jA S b=some [.int g,.int st])(hs:0<=st)(U:st<4294967296):∃d st',oN [.ref b] S=.ok (.int d) (S.set b<|.lst [.int g,.int st'])/\0<=st'/\st'<4294967296:=by
 have hb:=mw J;have c:DY 2 1=some 1:=B0 rfl ⋯;have e1:0<=(st * 48271+11) % 2147483647:=iI _ ⋯;have e2:(st * 48271+11) % 2147483647<2147483647:=gD _ ⋯;refine⟨(st * 48271+11) % 2147483647 * 16807 % 2147483629 / 8,(st * 48271+11) % 2147483647,?_,e1,()⟩;unfold oN vH wj;rw[yF];simp[J,xg,KS,c,Gg (show -18446744073709551616<st by lia) (),FJ<|show(0:Int)<2147483647 by decide,pK hb,Pa (show(0:Int)<8 by decide) ⋯,Gg (show -18446744073709551616<(st * 48271+11) % 2147483647 by lia) (),FJ<|show(0:Int)<2147483629 by decide]
def digit{b:Nat}{m:Int}(h:Rv S b)(h1:1<=m)(h2:m<=1000):∃d S',lC [.ref b,.int m] S=.ok (.int d) S'/\0<=d/\d<m/\Rv S' b/\Kp (·=b) S S':=by
 obtain⟨g,st,p,hg,hs,f⟩:=h;have hb:=mw p;have K:DY 2 0=some 0:=B0 rfl ⋯;have j:∀d q c:Int,0<=d->d<m->0<=q->0<=c->c<4294967296->lC [.ref b,.int m] S=.ok (.int d) (S.set b<|.lst [.int q,.int c])->∃d S',lC [.ref b,.int m] S=.ok (.int d) S'/\0<=d/\d<m/\Rv S' b/\Kp (·=b) S S':=
  λd q c J G t B D e=>⟨d,_,e,J,G,⟨q,c,pK hb,t,B,D⟩,Kp.refl.set<|.inl rfl⟩
 by_cases k:0<g
 ·refine j (g % m) (g / m) st (iI _ ()) (gD _ ()) (Int.ediv_nonneg hg ()) hs f ?_;unfold lC rV sq;rw[yF];simp[p,xg,KS,k,FJ<|show 0<m by lia,Pa (show 0<m by lia)<|show m<1073741824 by lia,K]
 ·obtain⟨d,c,e1,C,F⟩:=Qn p hs f;refine j (d % m) g c (iI _ ()) (gD _ ()) hg C F ?_;unfold lC rV sq;rw[yF];simp[p,xg,KS,k,FJ<|show 0<m by lia,e1,show ¬(1000<m)by lia]
theorem BZ:∀(l:ae) (j:Nat) (h:j<l.length),(l[j]::l.eraseIdx j).Perm l
 | x::l,0,_=>fW _
 | x::l,j+1,h=>(List.Perm.swap x _ _).trans<|List.Perm.cons x<|BZ l j<|Nat.lt_of_succ_lt_succ h
def Np{J fs:ae}{j:Nat}(h:j<J.length):((fs++[J[j]])++J.eraseIdx j).Perm (fs++J):=by
 rw[cG];refine List.Perm.append_left fs ?_
 skip
 exact BZ J j h
def OV{d:Int}{n:Nat}(h0:0<=d)(h:d.toNat<n):seqIndex? d n=some d.toNat:=by
 unfold seqIndex?;simp
 lia
theorem De{α β:Type}(f:α->β):∀(l:List α) (k:Nat),(l.map f).eraseIdx k=(l.eraseIdx k).map f
 | [],_=>rfl
 | _::_,0=>rfl
 | x::l,k+1=>cH (f x::·)<|De f l k
def N4{b:Nat}{n:Int}(h:Rv S b)(h1:1<=n)(h2:n<=20):∃(xs:ae) (S':jB),oO [.ref b,.int n] S=.ok (.tup<|xs.map .int) S'/\xs.Perm (lB 1<|n+1)/\Rv S' b/\Kp (·=b) S S':=by
 have P:b<S.length:=by obtain⟨_,_,e,_⟩:=h;exact mw e
 unfold oO wc vR;dsimp[jW,bools,lX,Nat.reduceAdd,Nat.reduceSub,Mz<|Rj (show(-1000000:Int)<=1 by decide) ⋯ (show -1000000<=n+1 by lia) () (),bq];refine ED (lo:=0) (hi:=n) (S1:=S++[.lst<|(lB 1<|n+1).map .int]++[.lst []]) (yJ (by dsimp[jW,bools])<|nU () ())
  (λi τ S1=>∃(D:A) (f fs:ae),τ=[.ref b,.int n,.ref S.length,.ref<|S.length+1,D]/\jA S1 S.length=some (f.map .int)/\jA S1 (S.length+1)=some (fs.map .int)/\(f.length:Int)+i=n/\(fs++f).Perm (lB 1<|n+1)/\Rv S1 b/\Kp (·=b) S S1)
  (λr=>∃(xs:ae) (S':jB),RS.end (RS.seq r _)=.ok (.tup<|xs.map .int) S'/\xs.Perm (lB 1<|n+1)/\Rv S' b/\Kp (·=b) S S') ?_ ?_ ?_
 ·refine⟨.unb,lB 1<|n+1,[],rfl,ki jQ,?_,by rw[vc];lia,fW _,h.kp (c:=λ_=>False) (Kp.refl.lay.lay) λz=>z,Kp.refl.lay.lay⟩;have:jA (S++[.lst<|(lB 1<|n+1).map .int]++[.lst []]) (S++[O.lst<|(lB 1<|n+1).map .int]).length=some []:=jQ;simpa using this
 ·rintro i τ S1 hi ⟨D,f,fs,rfl,J,t,hn,C,hb,G⟩;left;obtain⟨d,S2,e2,d0,U,L,j⟩:=digit (m:=(f.length:Int)) hb () ();have k:=j.lst S.length _ () J;have p:=j.lst (S.length+1) _ () t;have B:d.toNat<f.length:=()
  have M:=mw p;have T:=mw k;have N:fs.length<=20:=by
   have:=C.length_eq;rw[bq,vc]at this
   lia
  have K:seqIndex? d f.length=some d.toNat:=OV d0 B;have F:jA (S2.set S.length<|.lst<|(f.map A.int).eraseIdx d.toNat) (S.length+1)=some (fs.map .int):=by rw[kM ()];exact p
  unfold wZ;dsimp[jW,bools,J,t,aF,e2,k,IK,pR<|show -(2 ^ 63:Int)<=d/\d<2 ^ 63 by lia,K,aK,aH B,eL,F,mV<|show fs.length<16777216 by lia];refine⟨_,_,rfl,_,f.eraseIdx d.toNat,fs++[f[d.toNat]],rfl,?_,?_,?_,(Np B).trans C,?_,?_⟩
  ·rw[kM (),pK T,De]
  ·rw[pK<|by rw[cz];exact M,bB];rfl
  ·rw[List.length_eraseIdx_of_lt B];lia
  ·obtain⟨g,st,e,q⟩:=L;exact⟨g,st,by rw[kM (),kM ()];exact e,q⟩
  ·exact((G.trans j).set<|.inr<|aP _).set (.inr ())
 ·rintro τ S1 ⟨D,f,fs,rfl,J,t,hn,C,hb,G⟩;have:f=[]:=cZ.mp ();subst this;exact⟨fs,S1,by dsimp[jW,bools,t],by simpa using C,hb,G⟩
open Po (Pl Ok Bd)
def QV{S:jB}{d:Nat}{D:Pl}(J:kc S d=some (Po.iv D))(U:D.length<64):∃S',k9 [.ref d] S=.ok (.ref<|S.length+1) S'/\jA S' (S.length+1)=some (Po.pl<|Po.Mm D)/\kO S S':=by
 obtain⟨S',e,h1,h2⟩:=Su.UC J U;refine⟨S',?_,h1,h2⟩;unfold k9 qH qE;dsimp[jW,bools,lX,Nat.reduceAdd,Nat.reduceSub];rw[show j8 [none,some 0] _ _ _ _ _ _=_ from e];rfl
def UN{S:jB}{n:Nat}{a b:Pl}(hn:jA S n=some (Po.pl a))(J:jA S m=some (Po.pl b))(ha:Ok a)(U:a.length+b.length<64) :
  ∃(L:Nat) (S':jB),Bc [.ref n,.ref m] S=.ok (.ref L) S'/\jA S' L=some (Po.pl<|Po.q_ a b)/\S.length<=L/\kO S S':=by
 have f:kc (S++[.nQ<|Po.iv a]) S.length=some (Po.iv a):=ud;obtain⟨j,g,T,e,d,kp⟩:=VD (S:=S++[.nQ<|Po.iv a]) (S1:=S++[.nQ<|Po.iv a]) (x0:=.ref n) (x1:=.ref m) (x3:=.unb) (x4:=.unb) (src:=yy) (l:=b) (show yy _ _=_ from l_ (by dsimp[jW,bools])<|ki J) (ki J) f ();have ln:=Po.rC b a;obtain⟨S',e2,h1,h2⟩:=QV d ();have c:kO S T:=(Kp.refl.lay (o:=.nQ<|Po.iv a)).old kp λq k _ z=>()
 refine⟨T.length+1,S',?_,by rw[h1,<- Po.Vv ha];rfl,by have:=c.len;lia,c.trans h2⟩;unfold Bc Io Iq;dsimp[jW,bools,lX,Nat.reduceAdd,Nat.reduceSub,CS,hn,Po.Ph,Po.LS,Po.JZ ha];rw[show ku yy _ GU _ _=_ from e];dsimp[jW,bools,e2]
def zq(f:Int×Int->A)(hf:∀p τ S,SK (f p) τ S=SK (Po.pA p) τ S){S:jB}{n:Nat}{a b:Pl}(hn:jA S n=some (a.map f))(J:jA S m=some (Po.pl b))(U:a.length * b.length<64)(ha:∀p∈a,p.2.natAbs<big)(hb:∀p∈b,p.2.natAbs<big) :
  ∃(L:Nat) (S':jB),se [.ref n,.ref m] S=.ok (.ref L) S'/\jA S' L=some (Po.pl<|Po.times a b)/\S.length<=L/\kO S S':=by
 have g:kc (S++[.nQ []]) S.length=some []:=ud;obtain⟨t,j,C,k,T,e,d,kp⟩:=I0 f hf (S:=S++[.nQ []]) (x3:=.unb) (x4:=.unb) (x5:=.unb) (x6:=.unb) (ki hn) (ki J) g () ha hb;have ln:=Po.rC (Po.JS a b) [];rw[Po.KR,fJ,cC]at ln;obtain⟨S',e2,h1,h2⟩:=QV d ();have c:kO S T:=(Kp.refl.lay (o:=.nQ [])).old kp λq B _ z=>()
 refine⟨T.length+1,S',?_,h1,by have:=c.len;lia,c.trans h2⟩;unfold se DC Ei;dsimp[jW,bools,lX,Nat.reduceAdd,Nat.reduceSub,qV];rw[show ku Cz _ CU _ _=_ from e];dsimp[jW,bools,e2]
def A6{S:jB}{n:Nat}{a b:Pl}(hn:jA S n=some (Po.pl a))(J:jA S m=some (Po.pl b))(U:a.length * b.length<64)(ha:∀p∈a,p.2.natAbs<big)(hb:∀p∈b,p.2.natAbs<big) :
  ∃(L:Nat) (S':jB),se [.ref n,.ref m] S=.ok (.ref L) S'/\jA S' L=some (Po.pl<|Po.times a b)/\S.length<=L/\kO S S':=zq Po.pA (λ_ _ _=>rfl) hn J U ha hb
end K69
namespace K69
open PySem L2 Am
open Po (Pl Ok Bd)
open Su (Es At Vl)
def Yi{S:jB}{d r:Nat}{D:Es}{o:ae}{p:Pl}{k b:Nat}(J:jV S d=some (D.map Su.kv))(U:At S D)(hv:Vl k b D)(Z:jA S r=some (Po.pl p))(hl:D.length<64)(hk:k+p.length<64) :
  ∃(L:Nat) (S':jB),kF [.ref d,.tup<|o.map .int,.ref r] S=.ok .non S'/\jV S' d=some ((Su.mL D o L<|Po.q_ (Su.vS (Su.sm D) o) p).map Su.kv)/\At S' (Su.mL D o L<|Po.q_ (Su.vS (Su.sm D) o) p)/\S.length<=L/\Kp (·=d) S S':=by
 obtain⟨x,ex,t⟩:=Su.get_or (o:=o) J U;have vo:=hv.v o;obtain⟨L,S2,e2,h1,h2,m⟩:=UN t (ki (o:=.lst []) Z) vo.1 ();have f:kO S S2:=(Kp.refl.lay).trans m;have c:=f.dct _ _ (λz=>z) J;have g:jV (S++[.lst []]) d=some (D.map Su.kv):=Su.EE J;refine⟨L,S2.set d<|.dct<|(Su.mL D o L<|Po.q_ (Su.vS (Su.sm D) o) p).map Su.kv,?_,Su.wJ<|Su.oJ c,?_,by simp at h2;lia,f.of0.tV<|.inl rfl⟩
 ·unfold kF uB ux;have j:newL [] S=.ok (.ref S.length) (S++[.lst []]):=kQ (show 0<=16777216 by decide);dsimp[jW,bools,lX,Nat.reduceAdd,Nat.reduceSub,Su.VC,Su.T_,J,eL,j,Su.TM,g,ex,e2,Su.ur,Su.tW,c,mV<|show(D.map Su.kv).length<16777216 by rw[aF];lia,Su.Ba (p:=Po.q_ (Su.vS (Su.sm D) o) p)]
 ·refine(Su.At.put (U.wB f) h1).kp (Kp.refl.tV<|.inl rfl) λe q z=>?_
  rcases Su.nM q with y|y
  ·exact Su.qD J (U e y) z
  ·rw[y]at z;exact Su.qD c h1 z
def IE{S:jB}{d:Nat}{D:Es}(U:jV S d=some (D.map Su.kv))(Z:At S D)(J:∀e∈D,e.1≠[])(hl:D.length<64) :
  ∃(n:Nat) (S':jB),pH [.ref d] S=.ok (.ref n) S'/\jA S' n=some ((Su.xK D λp=>!p.isEmpty).map Su.ent)/\At S' (Su.xK D λp=>!p.isEmpty)/\S.length<n/\kO S S':=by
 have g:=Su.Uq U J hl;obtain⟨n,S',e,h1,h2,h3,j⟩:=Su.Nv (cap:=[some 0]) (τ:=[.ref d]) (src:=ly<|jZ (f1 Aq)<|jy (jx 0)<|jG) (t:=u_<|jH zY (jx 1)<|jx 0) (e:=sQ<|jy (jx 0)<|jy (jH zY (jx 1)<|jx 0)<|jG) U Z (l_ (by dsimp[jW,bools,g]) jQ) (λp=>!p.isEmpty)
  (λo r q T c f k=>⟨T,by
   have m:A.Z0 (.ref r) T=some (!q.isEmpty):=by
    show(jA T r).map _=_;rw[k]
    cases q<;>rfl
   dsimp[jW,bools,Su.Ck,Su.ym,c,f,m],Kp.refl⟩)
  (λo r T c f=>by
   dsimp[jW,bools,Su.Ck,Su.ym,c,f];exact pJ<|show 2<=16777216 by decide) ()
 refine⟨n,S',?_,h1,h2,h3,j⟩;unfold pH Bq AH;dsimp[jW,bools,lX,Nat.reduceAdd,Nat.reduceSub,e]
def yH:Su.FY kF:=λh1 h2 h3 c f d=>Yi h1 h2 h3 c f d
open Po (Pl Ok Bd)
open Su (Es At Vl)
structure Sm (S:jB)(n:Nat)(es:Es):Prop where
 l:jA S n=some (es.map Su.ent)
 a:At S es
def Sm.kp{n:Nat}(h:Sm S n es)(k:kO S S'):Sm S' n es:=⟨k.lst _ _ (λz=>z) h.l,h.a.wB k⟩
def Fd{a b:ae}(h:a.length=b.length):qo [.tup<|a.map .int,.tup<|b.map .int] S=.ok .non S:=by
 unfold qo vK v_;have:((a.length:Int) == (b.length:Int))=true:=by rw[h];exact cV _
 dsimp[jW,lA,bools,lX,Nat.reduceAdd,Nat.reduceSub,aF,this,b7]
def GI{n:Nat}{xs:ab}(h:jA S n=some xs):A.Z0 (.ref n) S=some (!xs.isEmpty):=by
 show(jA S n).map _=_;rw[h];rfl
def DL{n N:Nat}{es fs:Es}(h:Sm S n es)(h':Sm S m fs)(h1:∀e∈es,e.1.length=N)(h2:∀e∈fs,e.1.length=N):qt [.ref n,.ref m] S=.ok .non S:=by
 unfold qt ve wm;dsimp[jW,lA,bools,lX,Nat.reduceAdd,Nat.reduceSub,GI h.l,GI h'.l]
 cases es with
 | nil=>dsimp[jW,lA,bools,d9,iA,b7]
 | cons e es=>cases fs with
  | nil=>dsimp[jW,lA,bools,d9,iA,b7,bF,iZ,cU,GI h'.l]
  | cons f fs=>
   have q:=Fd (S:=S)<|(h1 e<|aJ ..).trans (h2 f<|aJ ..).symm;have d:=h.l;have c:=h'.l;rw[bF]at d c;dsimp[jW,lA,bools,bF,iZ,cU,GI c,d,c,xg,Su.ent,q]
def ixD{l:ae}{k:Nat}{i:Int}(h:i=k)(J:k<l.length):sN (l.map A.int) i=some (.int<|l.getD k 0):=Dt h<|by rw[aL,aH J];rfl
def Vg{l:ae}{k:Nat}:((l.map A.int).set (k-1)<|.int<|l.getD k 0).set k (.int<|l.getD (k-1) 0)=(Wd.ex l k).map A.int:=by
 unfold Wd.ex;rw[iN,iN]
def ad2{f g:A->A->jB->R A}{U Z J:Ex}{a b c:A}(h1:U τ S=.ok a S)(h2:Z τ S=.ok b S)(h3:f a b S=.ok (.bl true) S)(h4:J τ S=.ok c S):eCh f g U Z J τ S=g b c S:=by
 unfold eCh;rw[h1,R.nk,h2,R.nk,h3,R.nk];unfold kCh;show(J τ S).bind _=_;rw[h4];rfl
def ZS{i:Int}:rH [.int i] S=.ok (.bl true) S:=by
 unfold rH xG xU;dsimp[jW,bools,lX,Nat.reduceAdd,Nat.reduceSub,show Me .int "int" = some true from rfl,show Me .int "bool" = some false from rfl,cU]
def adG{n k:Int}(h1:1<=k)(h2:k<n):n6 [.int n,.int k] S=.ok (.bl true) S:=by
 unfold n6 sY sM;have c:eCh aLe aLt (eC<|.int 1) (jx 1) (jx 0) [.int n,.int k] S=.ok (.bl true) S:=by
  rw[ad2 (a:=.int 1) (b:=.int k) (c:=.int n) rfl rfl (by dsimp[jW,bg h1]) rfl];dsimp[jW,bg h2]
 dsimp[jW,bools,lX,Nat.reduceAdd,Nat.reduceSub,ZS,c]
def LG{xs:ae}{k:Nat}(h1:1<=k)(h2:k<xs.length)(J:xs.length<=1000):∃S',nH [.tup<|xs.map .int,.int k] S=.ok (.tup<|(Wd.ex xs k).map .int) S'/\kO S S':=by
 have e1:=adG (S:=S) (n:=(xs.length:Int)) (k:=(k:Int)) () ();have f:sN (xs.map A.int) (k:Int)=some (.int<|xs.getD k 0):=ixD rfl ();have d:sN (xs.map A.int) ((k:Int)-1)=some (.int<|xs.getD (k-1) 0):=ixD (k:=k-1) () ();have m:DY xs.length ((k:Int)-1)=some (k-1):=B0 () ();have j:DY xs.length (k:Int)=some k:=B0 rfl ();have g:jA (S++[O.lst<|xs.map .int]) S.length=some (xs.map .int):=jQ;have c:∀ys,jA ((S++[O.lst<|xs.map .int]).set S.length<|.lst ys) S.length=some ys:=λys=>pK (by simp);have e2:lI [.tup<|xs.map .int,.int k,.int<|(k:Int)+1] S=.ok (.tup<|(Wd.ex xs k).map .int) (((S++[O.lst<|xs.map .int]).set S.length<|.lst<|(xs.map A.int).set (k-1)<|.int<|xs.getD k 0).set S.length<|.lst<|(Wd.ex xs k).map .int):=by
  unfold lI oE oF;dsimp[jW,bools,lX,Nat.reduceAdd,Nat.reduceSub,g,show(k:Int)+1-1=k by lia,f,d,pR<|show 2<=sizeLine by decide,pR<|show 2=2 from rfl,aF,m,c,cz,j,Vg];rw[pK<|by simp];dsimp[jW,bools]
 unfold nH vY we;dsimp[jW,lA,bools,lX,Nat.reduceAdd,Nat.reduceSub,aF,e1,b7,e2];exact⟨_,rfl,((Kp.refl.lay).set<|.inr<|aP _).set<|.inr<|aP _⟩
def ixG{xs:ae}{i:Int}(h1:0<=i)(h2:i<xs.length):sN (xs.map A.int) i=some (.int<|xs.getD i.toNat 0):=ixD (k:=i.toNat) () ()
abbrev fl (xs:ae)(n:Nat):ae:=(lB 1 (n:Int)).filter λk=>decide<|xs.getD (k-1).toNat 0>xs.getD k.toNat 0
def yu{S:jB}{n:Nat}{xs:ae}(J:xs.length=n)(h2:n<=20):nu [.tup<|xs.map .int] S=.ok (.ref S.length) (S++[.lst<|(fl xs n).map .int]):=by
 have c:=vn (lo:=1) (hi:=(n:Int)) (cap:=[some 0]) (src:=nZ (eC<|.int 1)<|jZ (f1 nL)<|jy (jx 0)<|jG) (t:=qh<|jH GB (jH m_ (jx 1)<|jH aSub (jx 0)<|eC<|.int 1)<|jH m_ (jx 1)<|jx 0) (e:=jx 0) (τ:=[.tup<|xs.map .int]) (S:=S) (S1:=S)
  (tM (S1:=S) (by dsimp[jW,bools]) (by dsimp[jW,bools,aF,J]) (nU () ())<|nU () ())
  (λk=>decide<|xs.getD (k-1).toNat 0>xs.getD k.toNat 0) (λk=>.int k) (λk h1 h2=>by
   have f:sN (xs.map A.int) (k-1)=some (.int<|xs.getD (k-1).toNat 0):=ixG () ();have d:sN (xs.map A.int) k=some (.int<|xs.getD k.toNat 0):=ixG () ();dsimp[jW,bools,f,d]) (λk _ _ _=>by dsimp[jW,bools]) ()
 unfold nu EM E7;dsimp[jW,bools,lX,Nat.reduceAdd,Nat.reduceSub,c];rfl
theorem ug{t:Int}:∀(p:ae),MQ S (.int t) (p.map .int)=some (decide<|t∈p)
 | []=>rfl
 | x::p=>by
  show(rQ S 12 (.int x)<|.int t).bind (λa=>(MQ S (.int t)<|p.map .int).map λb=>a || b)=_;rw[ug p];show some ((x == t) || decide (t∈p))=_;by_cases c:x=t
  ·subst c;rw[cV,bg (show x∈x::p from aJ ..)];rfl
  ·rw[cB.mpr c];congr 1;rw[gc,eo];constructor
   ·exact λz=>aO _ z
   ·intro z
    rcases bw.mp z with z|z
    ·exact absurd z.symm c
    ·exact z
open Po (Pl Ok Bd)
open Su (Es At Vl AF)
def yG{o:ae}{N k:Nat}(J:o.length=N)(h1:1<=k)(h2:k<N):decide ((k:Int)∈fl o N)=Su.pF o k:=by
 unfold fl Su.pF;rw[eo,bO,o6,decide_eq_true_eq,show((k:Int)-1).toNat=k-1 by lia,eO];constructor
 ·exact λh=>h.2
 ·exact λh=>⟨⟨(),()⟩,h⟩
def Um{S:jB}{n N k P:Nat}{es:Es}(h:Sm S n es)(h1:∀e∈es,e.1.length=N/\(e.2.2.length<=2 * P+1/\Su.RB P e.2.2)/\∀p∈e.2.2,p.2.natAbs<big)(k1:1<=k)(k2:k<N)(hN:N<=20)(hl:P<=14)(hl':es.length<=24) :
  ∃(L:Nat) (S':jB) (rs:Es),mY [.ref n,.int k] S=.ok (.ref L) S'/\Sm S' L rs/\Su.sm rs=Su.bx k (Su.sm es)/\(∀e∈rs,Ok e.2.2/\e.2.2≠[]/\S.length<=e.2.1/\e.2.1<L)/\Su.Ap rs/\rs.length<=2 * es.length/\S.length<=L/\kO S S':=by
 have k0:kO S (S++[.dct []]):=Kp.refl.lay;have C:Su.RB 1 AF:=λp hp=>by
  rcases bw.mp hp with z|z
  ·rw[z];exact aP _
  ·rw[aW.mp z];exact aP _
 obtain⟨y3,y4,D,T,e1,f,kp⟩:=Su.AN (w:=2) (j:=1+P) (b:=S.length) (i0:=0) (S:=S++[.dct []]) (S1:=S++[.dct []]) (d:=S.length) (n:=n) (es:=es) (src:=n9) (c:=mW) (g:=x_ 2<|pM (jX 3)<|pM (jX 4)<|xZ) (λy z=>[.ref n,.int k,.ref S.length,y,z]) (Su.gX k) (λ_ _ _ _=>rfl) (x3:=.unb) (x4:=.unb)
  (show n9 _ _=_ from l_ (by dsimp[jW,bools])<|ki h.l) (ki h.l) (Su.Fil3.new Su.oR) λi e T Q D hi F J f=>by
   obtain⟨M,W,b3⟩:=h1 e F;have tl:=J.len;rw[bq]at tl;obtain⟨T0,e0,V⟩:=LG (S:=T) (xs:=e.1) (k:=k) k1 () ();have aT:=((h.a.wB k0).Nj J Su.oR).wB V;have f0:=f.wB V;have qtl:=V.len;rw[cC]at f0;have Y:Wd.ex e.1 k≠[]:=λz=>by have:=Wd.pV e.1 k;rw[z]at this;simp at this;lia
   obtain⟨D1,T1,e1,f1,B⟩:=f0.add yH (o:=Wd.ex e.1 k) (aT e F) (W.2.mono ()) () Y () () ();have k1l:=B.len;have fo:=yu (S:=T1) (xs:=e.1) (n:=N) M hN;have m:Hv false (.int k) (.ref T1.length) (T1++[.lst<|(fl e.1 N).map .int])=.ok (.bl<|Su.pF e.1 k) (T1++[.lst<|(fl e.1 N).map .int]):=by
    show opt (jA _ _) _=_;rw[jQ,jS,ug,yG M k1 k2];rfl
   have K:kO T1 (T1++[.lst<|(fl e.1 N).map .int]):=Kp.refl.lay;obtain⟨U,hU⟩:∃U,U=T1++[O.lst<|(fl e.1 N).map .int]:=⟨_,rfl⟩;rw[<- hU]at m K fo;have fU:=f1.wB K;have G:Kp (·=S.length) T U:=(V.of0.trans B).trans K.of0
   cases hf:Su.pF e.1 k with
   | false=>
    refine⟨D1,U,?_,?_,G⟩
    ·rw[hf]at m;unfold mW;dsimp[jW,lA,bools,e0,e1,fo,m]
    ·rw[cC];unfold Su.gX;rw[hf,aN<|by simp];exact fU.mono ()
   | true=>
    have aU:=(aT.Nj B f0.dd).wB K;have n0:jA (U++[.lst<|AF.map kA]) U.length=some (AF.map kA):=jQ;obtain⟨L,T2,e2,l1,l2,k2'⟩:=zq kA (λ_ _ _=>rfl) n0 (ki (o:=.lst<|AF.map kA)<|aU e F) (show 2 * e.2.2.length<64 by lia) (λp hp=>by
     rw[z_]
     rcases bw.mp hp with z|z
     ·rw[z];exact show 1<2 ^ 4096 by decide +kernel
     ·rw[aW.mp z];exact show 1<2 ^ 4096 by decide +kernel) b3
    have t:kO U T2:=(Kp.refl.lay).trans k2';have tl2:=t.len;have tle:=K.len;obtain⟨D2,T3,e3,f3,Z⟩:=(fU.wB t).add yH (o:=e.1) l1 (Su.RB.times C W.2) (Su.RB.len (Po.A6 _ _)<|Su.RB.times C W.2) (λz=>by rw[z]at M;simp at M;lia) () () ();refine⟨D2,T3,?_,?_,(G.trans t.of0).trans Z⟩
    ·rw[hf]at m;unfold mW;dsimp[jW,lA,bools,e0,e1,fo,m];rw[show[((-1:Int),(1:Int)),((1:Int),(-1:Int))].map kA=AF.map kA from rfl];dsimp[jW,lA,bools,e2,e3]
    ·rw[cC];unfold Su.gX;rw[hf,aR rfl];exact f3
 have J:kO S T:=k0.old kp λq hq _ z=>()
 have fl:=f.ll;rw[cC]at fl;obtain⟨L,S',e2,r1,r2,r3,r4⟩:=IE f.dd f.aa f.kk ();have tl:=J.len;have fs:=f.ss;rw[Su.LP]at fs;refine⟨L,S',_,?_,⟨r1,r2⟩,by rw[Su.Fe,fs];rfl,λe F=>?_,f.pw.out _,?_,(),J.trans r4⟩
 ·unfold mY sI sC;dsimp[jW,lA,bools,lX,Nat.reduceAdd,Nat.reduceSub,Su.qk];rw[show ku n9 _ mW _ _=_ from e1];dsimp[jW,lA,bools,e2]
 ·obtain⟨m1,m2⟩:=Su.DW F;obtain⟨v1,v2,v3⟩:=f.vv e m1;have lt:=mw<|f.aa e m1;exact⟨v1,λz=>(by rw[z]at m2;cases m2),v3,()⟩
 ·unfold Su.xK;rw[aF];refine bI (cX _ _) ?_;rw[(ko _).length_eq,aF];exact fl
end K69
namespace K69
open PySem L2 Am
open Po (Pl Ok Bd)
open Su (Es At Vl AF)
open He (Sz)
open Fw (rg)
def Sm.Nj{n d:Nat}(h:Sm S n es)(k:Kp (·=d) S S')(J:jV S d=some kvs):Sm S' n es:=⟨k.lst _ _ (λz=>Su.qD J h.l z.symm) h.l,h.a.Nj k J⟩
def mG{N:Nat}{o:ae}(h:o.Perm<|rg N):o.length=N:=by rw[h.length_eq,Wd.j5]
def nW{es:Es}{l:Su.Ps}(h:Su.sm es=l){e:Su.En}(J:e∈es):(e.1,e.2.2)∈l:=by rw[<- h];exact aX.mpr ⟨e,J,rfl⟩
structure Kn (N:Nat)(Φ:ae->Su.Ps)(T:jB)(d:Nat)(K:Es):Prop where
 dd:jV T d=some (K.map Su.kv)
 gd:Su.Gd (Su.sm K)
 pm:∀e∈K,e.1.Perm (rg N)
 at_:∀e∈K,∃es:Es,Sm T e.2.1 es/\Su.sm es=Φ e.1
def Kn.wB{N d:Nat}{J:ae->Su.Ps}{K:Es}(h:Kn N J T d K)(k:kO T T'):Kn N J T' d K:=⟨k.dct _ _ (λz=>z) h.dd,h.gd,h.pm,λe c=>by obtain⟨es,a,b⟩:=h.at_ e c;exact⟨es,a.kp k,b⟩⟩
def Kn.many{N d:Nat}{J:ae->Su.Ps}{K:Es}(U:N<6)(h:Kn N J T d K):K.length<=120:=by
 have:=He.many U h.gd.nd λo g=>by
  obtain⟨e,c,rfl⟩:=aX.mp g;obtain⟨f,hf,rfl⟩:=aX.mp c;exact h.pm f hf
 rwa [aF,Su.uK]at this
def X8:Ok []:=⟨List.Pairwise.nil,nofun⟩
def Kn.put{N d r:Nat}{J:ae->Su.Ps}{K:Es}{o:ae}(Z:N<6)(h:Kn N J T d K)(po:o.Perm<|rg N)(hr:Sm T r es)(U:Su.sm es=J o) :
  ∃T' K',yw (.ref d) (.tup<|o.map .int) (.ref r) T=.ok Unit.unit T'/\Kn N J T' d K'/\zY (.ref d) (.tup<|o.map .int) T'=.ok (.ref r) T'/\Sm T' r es/\Kp (·=d) T T':=by
 have k:Kp (·=d) T (T.set d<|.dct<|(Su.mL K o r []).map Su.kv):=Kp.refl.tV<|.inl rfl;have dd:jV (T.set d<|.dct<|(Su.mL K o r []).map Su.kv) d=some ((Su.mL K o r []).map Su.kv):=Su.wJ<|Su.oJ h.dd;obtain⟨e,e1,e2⟩:=Su.Mu (D:=K) (o:=o) (r:=r) (p:=[]);have f:=h.many Z;refine⟨_,Su.mL K o r [],?_,⟨dd,?_,λe U=>?_,λe c=>?_⟩,?_,hr.Nj k h.dd,k⟩
 ·rw[Su.tW,h.dd,jS,Su.Ba (p:=[])];exact mV (show(K.map Su.kv).length<16777216 by rw[aF];lia)
 ·rw[Su.El];exact h.gd.put X8
 ·rcases Su.nM U with z|z
  ·exact h.pm e z
  ·rw[z];exact po
 ·rcases Su.nM c with z|z
  ·obtain⟨fs,a,b⟩:=h.at_ e z;exact⟨fs,a.Nj k h.dd,b⟩
  ·rw[z];exact⟨es,hr.Nj k h.dd,U⟩
 ·rw[Su.ym,dd,jS,Su.nP,e1,eL,jS,e2]
def Zj{d:Nat}{o:ae}:HM true (.tup<|o.map .int) (.ref d) S=opt (jV S d) λkvs=>.ok (.bl<|!(kH kvs o).isSome) S:=by
 show opt (jV S d) (λkvs=>opt (A.ints<|o.map .int) λc=>_)=_;rw[ints_map];rfl
open Po (Pl Ok Bd)
open Su (Es At Vl)
open He (Sz)
structure Nw (b L:Nat)(rs:Es):Prop where
 ap:Su.Ap rs
 nw:∀e∈rs,b<=e.2.1/\e.2.1<L
def Xc{S:jB}{n N P c:Nat}{fs:Es}(hN:N<5)(h0:1<=N)(h:Sm S n es)(h':Sm S m fs)(hz:Sz N P C<|Su.sm es)(hz':Sz N P c<|Su.sm fs)(hP:P<=15) :
  ∃(L:Nat) (S':jB) (rs:Es),u0 [.ref n,.ref m] S=.ok (.ref L) S'/\Sm S' L rs/\Su.sm rs=He.Cr (Su.sm es) (Su.sm fs)/\Nw S.length L rs/\S.length<=L/\kO S S':=by
 have nl:=DL h h' (λe k=>mG<|hz.pm _<|nW rfl k) λe k=>mG<|hz'.pm _<|nW rfl k;have t:=hz.m24 hN;have G:=hz'.m24 hN;rw[Su.uK]at t G;have hle:(es++fs).length=es.length+fs.length:=bq ..;have U:jA (S++[.dct []]) n=some (es.map Su.ent):=ki h.l;have n2:jA (S++[.dct []]) m=some (fs.map Su.ent):=ki h'.l;have F:=V1 U n2 (by rw[aF,aF];lia);rw[<- bB]at F;have B:kO S (S++[.dct []]++[.lst<|(es++fs).map Su.ent]):=Kp.refl.lay.lay;have hj:∀e∈es++fs,(Su.RB P e.2.2/\e.2.2.length<=2 * P+1)/\e.1≠[]:=λe k=>by
  have:e.1.length=N/\Su.RB P e.2.2/\e.2.2.length<=2 * P+1:=(bJ.mp k).elim (λz=>⟨mG<|hz.pm _<|nW rfl z,hz.rb<|nW rfl z,(hz.pb<|nW rfl z).2⟩) λz=>⟨mG<|hz'.pm _<|nW rfl z,hz'.rb<|nW rfl z,(hz'.pb<|nW rfl z).2⟩;exact⟨this.2,λz=>by rw[z]at this;have:=this.1;simp at this;lia⟩
 obtain⟨y3,y4,D,T,e1,f,kp⟩:=Su.AN (w:=1) (j:=P) (b:=S.length) (i0:=0) (S:=S++[.dct []]) (S1:=S++[.dct []]++[.lst<|(es++fs).map Su.ent]) (d:=S.length) (src:=wQ) (c:=wL) (g:=x_ 2<|pM (jX 3)<|pM (jX 4) xZ) (es:=es++fs) (λy z=>[.ref n,.ref m,.ref S.length,y,z]) (λe Q=>Su.Bw Q e.1 e.2.2) (λ_ _ _ _=>rfl) (x3:=.unb) (x4:=.unb)
  (show wQ _ _=_ from l_ (by dsimp[jW,bools,F]) jQ) jQ (Su.Fil3.new<|Su.EE Su.oR) λi e T Q D hi k p f=>by
   have O:=((h.a.app h'.a).wB B).Nj p<|Su.EE Su.oR;have tl:=p.len;have W:=B.len;rw[cC,fu]at f;rw[cC,fu];obtain⟨J,M⟩:=hj e k;obtain⟨D',Y,V,f',Z⟩:=f.add yH (o:=e.1) (O e k) J.1 J.2 M () hP ();exact⟨D',Y,by unfold wL;dsimp[jW,lA,bools,V],f',Z⟩
 rw[cC,fu,Su.My]at f;have p:kO S T:=B.old kp λq hq _ z=>()
 have fl:=f.ll;obtain⟨L,S',e2,r1,r2,r3,r4⟩:=IE f.dd f.aa f.kk ();have tl:=p.len;refine⟨L,S',_,?_,⟨r1,r2⟩,by rw[Su.Fe,f.ss,Su.xS];rfl,⟨f.pw.out _,λe k=>?_⟩,(),p.trans r4⟩
 ·unfold u0 DG ES;dsimp[jW,lA,bools,lX,Nat.reduceAdd,Nat.reduceSub,nl,Su.qk];rw[show ku wQ _ wL _ _=_ from e1];dsimp[jW,lA,bools,e2]
 ·obtain⟨t,G⟩:=Su.DW k;obtain⟨v1,v2,K⟩:=f.vv e t;have lt:=mw<|f.aa e t;exact⟨K,()⟩
abbrev Sn (N P C:Nat)(S:jB)(n:Nat)(l:Su.Ps):Prop:=Sz N P C l/\∃es,Sm S n es/\Su.sm es=l
def Sn.kp{N P n:Nat}{l:Su.Ps}(h:Sn N P C S n l)(k:kO S S'):Sn N P C S' n l:=by
 obtain⟨a,es,b,c⟩:=h;exact⟨a,es,b.kp k,c⟩
def Sn.add{N P c n:Nat}{l k:Su.Ps}(h:Sn N P C S n l)(h':Sn N P c S m k)(J:N<5)(h0:1<=N)(hP:P<=15) :
  ∃(L:Nat) (S':jB),u0 [.ref n,.ref m] S=.ok (.ref L) S'/\Sn N P (C+c) S' L (He.Cr l k)/\kO S S':=by
 obtain⟨a,es,b,rfl⟩:=h;obtain⟨d,fs,g,rfl⟩:=h';obtain⟨L,S',f,e1,p,j,_,_,q⟩:=Xc J h0 b g a d hP;exact⟨L,S',e1,⟨a.sum d,f,p,j⟩,q⟩
def Sn.mono{N P n:Nat}{l:Su.Ps}(h:Sn N P C S n l)(J:P<=P')(hc:C<=C'):Sn N P' C' S n l:=⟨h.1.mono J hc,h.2⟩
end K69
namespace K69
open PySem L2 Am
open Po (Pl Ok Bd)
open Su (Es At Vl AF)
open He (Sz PB)
open Fw (rg)
def UM{S:jB}{n N P c:Nat}{q:Pl}(f:Int×Int->A)(hf:∀p τ S,SK (f p) τ S=SK (Po.pA p) τ S)(hN:N<5)(h0:1<=N)(h:Sm S n es)(hz:Sz N P C<|Su.sm es)(hq:jA S m=some (q.map f))(pq:PB Q c q)(lq:q.length<=2)(hP:P+Q<=15)(hC:C<big)(hc:c<big) :
  ∃(L:Nat) (S':jB) (rs:Es),qY [.ref m,.ref n] S=.ok (.ref L) S'/\Sm S' L rs/\Su.sm rs=He.Nk q (Su.sm es)/\S.length<=L/\kO S S':=by
 have M:kO S (S++[.dct []]):=Kp.refl.lay;have Z:=hz.m24 hN;rw[Su.uK]at Z;obtain⟨y3,y4,D,T,e1,t,kp⟩:=Su.AN (w:=1) (j:=Q+P) (b:=S.length) (i0:=0) (S:=S++[.dct []]) (S1:=S++[.dct []]) (d:=S.length) (n:=n) (es:=es) (src:=uZ) (c:=uO) (g:=x_ 2<|pM (jX 3)<|pM (jX 4) xZ) (λy z=>[.ref m,.ref n,.ref S.length,y,z]) (λe Q=>Su.Bw Q e.1<|Po.times q e.2.2) (λ_ _ _ _=>rfl) (x3:=.unb) (x4:=.unb)
  (show uZ _ _=_ from l_ (by dsimp[jW,bools])<|ki h.l) (ki h.l) (Su.Fil3.new Su.oR) λi e T Q1 D hi B k J=>by
   have b:=hz.pb<|nW rfl B;have O:=k.len;rw[bq]at O;rw[cC,fu]at J;rw[cC,fu];have lb:e.2.2.length<=2 * P+1:=b.2;have ll:q.length * e.2.2.length<=2 * (2 * P+1):=jv lq lb;have K:Su.RB (Q+P) (Po.times q e.2.2):=Su.RB.times pq.p<|hz.rb<|nW rfl B;obtain⟨L,T1,U,l1,l2,F⟩:=zq f hf (k.lst _ _ (λz=>Su.qD (Su.oR (S:=S) (xs:=[])) (ki (o:=.dct []) hq) z.symm)<|ki hq) (((h.a.wB M).Nj k Su.oR) e B) () (λp G=>cQ (pq.c p G) hc) λp G=>cQ (b.1.c p G) hC;have k1l:=F.len;obtain⟨D',W,Y,f',V⟩:=(J.wB F).add yH (o:=e.1) l1 K (Su.RB.len (Po.A6 _ _) K) (λz=>by
    have:=mG<|hz.pm _<|nW rfl B;rw[show((e.1,e.2.2):ae×Pl).1=e.1 from rfl,z]at this;simp at this;lia) () () ()
   exact⟨D',W,by unfold uO;dsimp[jW,bools,U,Y],f',F.of0.trans V⟩
 rw[cC,fu,Su.M6]at t;have k:kO S T:=M.old kp λq hq _ z=>()
 have fl:=t.ll;obtain⟨L,S',e2,r1,r2,r3,r4⟩:=IE t.dd t.aa t.kk ();have O:=k.len;refine⟨L,S',_,?_,⟨r1,r2⟩,by rw[Su.Fe,t.ss];rfl,(),k.trans r4⟩;unfold qY BE BP;dsimp[jW,bools,lX,Nat.reduceAdd,Nat.reduceSub,Su.qk];rw[show ku uZ _ uO _ _=_ from e1];dsimp[jW,bools,e2]
def Sn.X7{N P c n:Nat}{l:Su.Ps}{q:Pl}(h:Sn N P C S n l)(f:Int×Int->A)(hf:∀p τ S,SK (f p) τ S=SK (Po.pA p) τ S)(U:N<5)(h0:1<=N)(Z:jA S m=some (q.map f))(J:PB Q c q)(lq:q.length<=2)(hP:P+Q<=15)(hC:C<big)(hc:c<big) :
  ∃(L:Nat) (S':jB),qY [.ref m,.ref n] S=.ok (.ref L) S'/\Sn N (P+Q) (q.length * (c * C)) S' L (He.Nk q l)/\kO S S':=by
 obtain⟨z,es,s,rfl⟩:=h;obtain⟨L,S',d,e1,j,g,_,k⟩:=UM f hf U h0 s z Z J lq hP hC hc;exact⟨L,S',e1,⟨z.Nk J,d,j,g⟩,k⟩
end K69
namespace Kl
open Su Po He
open Fw (rg)
def XY{n k:Nat}{o:ae}(p:o.Perm<|rg n)(h0:1<=k)(h1:k<n):pF (Wd.ex o k) k=!pF o k:=by
 have lo:o.length=n:=by rw[p.length_eq,Wd.j5]
 have ne:=Fw.U7 p h0 ();unfold Su.pF;rw[Fw.Wa h0 (),Fw.WK h0 (),<- decide_not];exact eo.mpr ⟨λz=>(),λz=>()⟩
theorem Jj:∀(l:ae),2 * Iv.inv l<=l.length * (l.length-1)
 | []=>aP _
 | x::l=>by
  have h1:l.countP (λy=>decide<|y<x)<=l.length:=List.countP_le_length;have h2:=Jj l;show 2 * (l.countP (λy=>decide<|y<x)+Iv.inv l)<=(l.length+1) * l.length
  cases c:l.length with
  | zero=>rw[c]at h1 h2;lia
  | succ m=>
   rw[c]at h1 h2;have:(m+1) * (m+1-1)+2 * (m+1)=(m+1+1) * (m+1):=by
    rw[Nat.add_sub_cancel,add_mul (m+1) 1<|m+1,fu,mul_add (m+1) m 1];lia
   lia
abbrev step (k:Nat)(low:ae->Ps)(J:Ps)(e:ae×Pl):Ps:=if val e.2 1≠0/\pF e.1 k=true then Cr J (Nk [(0,-val e.2 1)]<|low e.1)else J
abbrev first (k:Nat)(J:Ps):Ps:=Cr (Su.bx k J)<|Nk [(1,1)] J
abbrev Lo (n:Nat)(w o:ae):Prop:=o.Perm (rg n)/\(o=w\/Iv.inv o<Iv.inv w)
def Lo.le{n:Nat}{w:ae}(h:Lo n w o):Iv.inv o<=Iv.inv w:=by
 rcases h.2 with z|z
 ·rw[z];exact aP _
 ·exact d8 z
structure Dn (n:Nat)(w:ae)(k:Nat):Prop where
 h0:1<=k
 h1:k<n
 fw:pF w k=true
 pe:(Wd.ex w k).Perm (rg n)
 iv:Iv.inv w=Iv.inv (Wd.ex w k)+1
 ee:Wd.ex (Wd.ex w k) k=w
 fe:pF (Wd.ex w k) k=false
def Ny{n k:Nat}{w:ae}(J:w.Perm<|rg n)(a:1<=k)(b:k<n)(c:pF w k=true):Dn n w k:=by
 have d:w.length=n:=by rw[J.length_eq,Wd.j5]
 refine⟨a,b,c,w4 J a b,Fw.yW a () (by have:=bE c;lia),Fw.Hf a (),?_⟩;rw[XY J a b,c];rfl
def aaA{n:Nat}{w:ae}{k:Nat}(J:w.Perm<|rg n)(h:ff w=some k):Dn n w k:=by
 obtain⟨a,b,c⟩:=J9 h;have d:w.length=n:=by rw[J.length_eq,Wd.j5]
 exact Ny J a () c
abbrev lq (a b:ae):Bool:=(List.range a.length).all λi=>a.all λj=>(a.take i).countP (λx=>decide<|j<=x)<=(b.take i).countP λx=>decide<|j<=x
abbrev sg4 (a w:ae):Bool:=(w == [3,4,1,2] && lq a [1,3,2,4]) || (w == [4,2,3,1] && lq a [2,1,4,3])
abbrev K (w:ae):Ps:=((arr w.length<|rg w.length).filter λa=>lq a w).map λa=>
 (a,if sg4 a w=true then[((Iv.inv w:Int)-Iv.inv a-2,(1:Int)),((Iv.inv w:Int)-Iv.inv a,1)]else[((Iv.inv w:Int)-Iv.inv a,1)])
abbrev ck1 (n:Nat)(w:ae):Bool:=decide ((K w).map Prod.fst).Nodup && decide (toS (K w)=K w) && (K w).all λe=>decide (e.1.Perm<|rg n) && (decide<|e.1=w\/Iv.inv e.1<Iv.inv w) && decide (e.2.Pairwise λp q=>p.1<q.1) && decide (∀q∈e.2,q.2≠0/\q.2.natAbs<=9/\q.1.natAbs<=10)
def ab6{n:Nat}(hn:n<5){w:ae}(hw:w∈arr n (rg n)):((K w).map Prod.fst).Nodup/\toS (K w)=K w/\∀e∈K w,e.1.Perm (rg n)/\(e.1=w\/Iv.inv e.1<Iv.inv w)/\e.2.Pairwise (λp q=>p.1<q.1)/\∀q∈e.2,q.2≠0/\q.2.natAbs<=9/\q.1.natAbs<=10:=by
 have h:=(by decide +kernel:∀n<5,∀w∈arr n (rg n),ck1 n w=true) n hn w hw;unfold ck1 at h;rw[cJ,cJ]at h;refine⟨bE h.1.1,bE h.1.2,λe c=>?_⟩;have:=di.mp h.2 e c;rw[cJ,cJ,cJ]at this;exact⟨bE this.1.1.1,bE this.1.1.2,bE this.1.2,bE this.2⟩
def Z5:∀n<5,∀w∈arr n (rg n),match ff w with
 | none=>w=rg n/\K w=[(w,[(0,1)])]
 | some k=>K w=(K<|Wd.ex w k).foldl (step k K) (first k (K<|Wd.ex w k)):=by
 have:∀n<5,∀w∈arr n (rg n),(match ff w with
  | none=>decide (w=rg n) && decide (K w=[(w,[(0,1)])])
  | some k=>decide<|K w=(K<|Wd.ex w k).foldl (step k K) (first k (K<|Wd.ex w k)))=true:=by decide +kernel
 intro n hn w hw;have h:=this n hn w hw
 cases hf:ff w with
 | none=>rw[hf]at h;dsimp only at h ⊢;rw[cJ]at h;exact⟨bE h.1,bE h.2⟩
 | some k=>rw[hf]at h;exact bE h
def MQ{n:Nat}{w:ae}(J:w.Perm<|rg n):w∈arr n (rg n):=Ay J<|Wd.j5 n
def YR{n:Nat}(hn:n<5){w:ae}(J:w.Perm<|rg n)(h:ff w=none):K w=[(w,[(0,1)])]:=by
 have:=Z5 n hn w<|MQ J;rw[h]at this;exact this.2
def abI{n:Nat}(hn:n<5){w:ae}(J:w.Perm<|rg n)(h:ff w=none):w=rg n:=by
 have:=Z5 n hn w<|MQ J;rw[h]at this;exact this.1
def YM{n k:Nat}(hn:n<5){w:ae}(J:w.Perm<|rg n)(h:ff w=some k):K w=(K<|Wd.ex w k).foldl (step k K) (first k (K<|Wd.ex w k)):=by
 have:=Z5 n hn w<|MQ J;rw[h]at this;exact this
def P0{n:Nat}(hn:n<5){w:ae}(J:w.Perm<|rg n):∀e∈K w,Lo n w e.1:=λe c=>by
 have:=(ab6 hn<|MQ J).2.2 e c;exact⟨this.1,this.2.1⟩
abbrev Cb (_:Nat):Nat:=9
def abh{P:Nat}{p:Pl}(h:PB P C p)(t:Int):(val p t).natAbs<=C:=by
 unfold val
 cases hf:p.find? λq=>decide (q.1=t)with
 | none=>exact bW _
 | some q=>exact h.c q<|c_ hf
def Ff{n:Nat}(hn:n<5){w:ae}(J:w.Perm<|rg n):Sz n 10 (Cb 10) (K w):=by
 obtain⟨a,b,c⟩:=ab6 hn<|MQ J;exact Sz.of ⟨⟨a,λe d=>⟨(c e d).2.2.1,λq f=>((c e d).2.2.2 q f).1⟩⟩,b⟩ (λe d=>(c e d).1) λe d=>⟨λq f=>((c e d).2.2.2 q f).2.1,λq f=>((c e d).2.2.2 q f).2.2⟩
def abP(c:Int)(g:Int->Int)(t:Int):cv [((0:Int),c)] g t=c * g t:=by
 show c * g (t-0)+0=_;rw[jj,c9]
structure Nd (D:Ps):Prop where
 nd:(D.map Prod.fst).Nodup
 np:∀e∈D,(e.2.map Prod.fst).Nodup
def Fc{D:Ps}(h:(D.map Prod.fst).Nodup){e:ae×Pl}(J:e∈D)(t:Int):cS D e.1 t=cf e.2 t:=by
 induction D with
 | nil=>cases J
 | cons x D d=>
  have nd:x.1∉D.map Prod.fst/\(D.map Prod.fst).Nodup:=bZ.mp h;show(if x.1=e.1 then cf x.2 t else 0)+cS D e.1 t=_
  rcases bw.mp J with z|z
  ·subst z;rw[aR rfl,yk λy c q=>nd.1<|by rw[<- q];exact aX.mpr ⟨y,c,rfl⟩,c9]
  ·rw[aN λq=>nd.1<|by rw[q];exact aX.mpr ⟨e,z,rfl⟩,cP];exact d nd.2 z
theorem Nd.val{D:Ps}(h:Nd D){e:ae×Pl}(J:e∈D)(t:Int):val e.2 t=cS D e.1 t:=by rw[Fc h.nd J,zp<|h.np e J]
def Nd.has{D:Ps}{t:Int}(h:cS D o t≠0):∃e∈D,e.1=o:=f7 λq=>h<|yk λe c z=>q ⟨e,c,z⟩
abbrev shl (s:Int)(p:Pl):Pl:=p.map λq=>(q.1+s,q.2)
theorem HV(s t:Int):∀p:Pl,cf (shl s p) t=cf p (t-s)
 | []=>rfl
 | q::p=>by
  show(if q.1+s=t then q.2 else 0)+cf (shl s p) t=(if q.1=t-s then q.2 else 0)+cf p (t-s);rw[HV s t p];congr 1;by_cases c:q.1+s=t
  ·rw[aR c,aR ()]
  ·rw[aN c,aN ()]
abbrev xY (k:Nat)(o:ae):Bool:=pF (bk o) k
abbrev abL (k:Nat)(e:ae×Pl):Ps:=[(e.1.map<|Wd.sw k,e.2),(e.1,shl (if xY k e.1=true then -1 else 1) e.2)]
abbrev zR (k:Nat)(g:ae->Ps)(e:ae×Pl):Ps:=abL k e++if val e.2 1≠0/\xY k e.1=true then scl [((0:Int),-val e.2 1)] (g e.1)else[]
abbrev ck3 (n:Nat)(w:ae):Bool:=(List.range n).all λk=>k == 0 || !xY k w || decide (toS (adds []<|(K<|w.map<|Wd.sw k).flatMap<|zR k K)=K w)
def adY{n k:Nat}(hn:n<5){w:ae}(hw:w∈arr n (rg n))(h0:1<=k)(h1:k<n)(J:xY k w=true):toS (adds []<|(K<|w.map<|Wd.sw k).flatMap<|zR k K)=K w:=by
 have h:=di.mp ((by decide +kernel:∀n<5,∀w∈arr n (rg n),ck3 n w=true) n hn w hw) k<|c7.mpr h1;rw[J,beq_false_of_ne<|show k≠0 by lia]at h;exact bE h
abbrev ph (l:Ps):List (ae×(Int->Int)):=l.map λe=>(e.1,cf e.2)
structure Ne (m:Ps):Prop extends Nd m where
 nz:∀e∈m,∀q∈e.2,q.2≠0
 ne:∀e∈m,e.2≠[]
theorem yC{q:Int×Int}:∀{p:Pl},(p.map Prod.fst).Nodup->q∈p->val p q.1=q.2
 | [],_,h=>nomatch h
 | x::p,np,hq=>by
  have nd:x.1∉p.map Prod.fst/\(p.map Prod.fst).Nodup:=bZ.mp np;rw[oQ]
  rcases bw.mp hq with z|z
  ·rw[z,aR rfl]
  ·rw[aN λc=>nd.1<|by rw[c];exact aX.mpr ⟨q,z,rfl⟩];exact yC nd.2 z
def NU{l:Ps}(h:Ne l)(x:ae×(Int->Int)):x∈ph l ↔ x.2=cS l x.1/\∃t,cS l x.1 t≠0:=by
 constructor
 ·intro g;obtain⟨e,c,rfl⟩:=aX.mp g;refine⟨funext λt=>(Fc h.nd c t).symm,?_⟩;obtain⟨q,f⟩:=List.exists_mem_of_ne_nil _<|h.ne e c;refine⟨q.1,?_⟩;show cS l e.1 q.1≠0;rw[<- h.toNd.val c,yC (h.np e c) f];exact h.nz e c q f
 ·rintro⟨a,t,b⟩;obtain⟨e,c,d⟩:=Nd.has b;refine aX.mpr ⟨e,c,?_⟩;rw[show x=(x.1,x.2)from rfl,a,<- d];exact cH (Prod.mk e.1)<|funext λt=>(Fc h.nd c t).symm
def VU{l:Ps}(h:Ne l)(h':Ne m)(e:∀o t,cS l o t=cS m o t):(ph l).Perm (ph m):=by
 have nd:∀{l:Ps},Ne l->(ph l).Nodup:=λ{l} h=>by
  have:l.Pairwise λa b=>a.1≠b.1:=cN.mp h.nd;exact cN.mpr<|this.imp λ{a b} c z=>c<|cH (λx:ae×(Int->Int)=>x.1) z
 refine(fX (nd h)<|nd h').mpr λx=>?_;rw[NU h,NU h',show cS l=cS m from funext λo=>funext<|e o]
abbrev sg (G:ae×(Int->Int)->Int):List (ae×(Int->Int))->Int
 | []=>0
 | x::l=>G x+sg G l
def Vy{G:ae×(Int->Int)->Int}{l m:List<|ae×(Int->Int)}(h:l.Perm m):sg G l=sg G m:=by
 induction h with
 | nil=>rfl
 | cons x _ c=>exact cH (G x+·) c
 | swap x y l=>show G y+(G x+sg G l)=G x+(G y+sg G l);lia
 | trans _ _ a b=>exact a.trans b
abbrev gk (k:Nat)(g:ae->Ps)(o:ae)(t:Int)(x:ae×(Int->Int)):Int:=
 (if x.1.map (Wd.sw k)=o then x.2 t else 0)+((if x.1=o then x.2 (t-if xY k x.1=true then -1 else 1)else 0)+0)+if x.2 1≠0/\xY k x.1=true then -x.2 1 * cS (g x.1) o t else 0
theorem DF{k:Nat}{g:ae->Ps}(o:ae)(t:Int):∀{f:Ps},(∀e∈f,(e.2.map Prod.fst).Nodup)->cS (f.flatMap<|zR k g) o t=sg (gk k g o t) (ph f)
 | [],_=>rfl
 | e::f,h=>by
  rw[eV,xW,DF o t λx d=>h x<|aO _ d];refine cH (·+sg (gk k g o t) (ph f)) ?_;unfold zR gk;rw[xW];show(if e.1.map (Wd.sw k)=o then cf e.2 t else 0)+((if e.1=o then cf (shl _ e.2) t else 0)+0)+_=_;rw[HV,zp<|h e<|aJ ..];refine cH (λz:Int=>(if e.1.map (Wd.sw k)=o then cf e.2 t else 0)+((if e.1=o then cf e.2 (t-if xY k e.1=true then -1 else 1)else 0)+0)+z) (?_:_=if cf e.2 1≠0/\xY k e.1=true then -cf e.2 1 * cS (g e.1) o t else 0);by_cases c:cf e.2 1≠0/\xY k e.1=true
  ·rw[aR c,aR c,HR];exact abP _ _ _
  ·rw[aN c,aN c];rfl
structure Kept (n:Nat)(w:ae)(m:Ps):Prop where
 pm:∀x∈m,x.1.Perm (rg n)
 eq:EqP n (cS m) (cS<|K w)
 lo:∀o,o.Perm (rg n)->∀t,cS m o t≠0->Lo n w o
structure LK (n:Nat)(w:ae)(m:Ps):Prop extends Ne m where
 kp:Kept n w m
def abE{n:Nat}(hn:n<5){w:ae}(J:w.Perm<|rg n):Ne (K w):=by
 have z:=(Ff hn J).cn;exact⟨⟨z.gd.nd,λe c=>(z.gd.ok e c).nd⟩,λe c=>(z.gd.ok e c).nz,λe c=>z.ne c⟩
def Kept.of{n:Nat}(hn:n<5){w:ae}{m:Ps}(J:w.Perm<|rg n)(U:∀x∈m,x.1.Perm<|rg n)(e:EqP n (cS m)<|cS<|K w):Kept n w m:=⟨U,e,λo d t z=>by
 rw[e o d t]at z;obtain⟨x,c,rfl⟩:=Nd.has z;exact P0 hn J x c⟩
def LK.K{n:Nat}{w:ae}(hn:n<5)(J:w.Perm<|rg n)(h:LK n w m):EqP n (cS m) (cS<|Kl.K w):=h.kp.eq
def LK.step{n k:Nat}{w:ae}{f m:Ps}(hn:n<5)(J:w.Perm<|rg n)(h0:1<=k)(h1:k<n)(U:xY k w=true)(hf:LK n (w.map<|Wd.sw k) f)(nd:Nd m)(Z:∀e∈m,∀q∈e.2,q.2≠0)(ne:∀e∈m,e.2≠[])(pm:∀x∈m,x.1.Perm<|rg n)
  (hm:∀o,o.Perm (rg n)->∀t,cS m o t=cS (f.flatMap<|zR k Kl.K) o t):LK n w m:=by
 refine⟨⟨nd,Z,ne⟩,Kept.of hn J pm λo d t=>?_⟩;have ps:=JG J h0 h1;have c:=abE hn ps;rw[hm o d t,DF o t hf.np,Vy<|VU hf.toNe c<|Xu hf.kp.pm (Ff hn ps).pm hf.kp.eq,<- DF o t c.np,<- DN,adY hn (MQ J) h0 h1 U]
def LK.b{n:Nat}{w:ae}{m:Ps}(hn:n<5)(U:w.Perm<|rg n)(h:LK n w m){e:ae×Pl}(J:e∈m){q:Int×Int}(Z:q∈e.2):q.2.natAbs<=Cb 10/\q.1.natAbs<=10:=by
 have sz:=(Ff hn U).fb;have d:=h.kp.pm e J;have v:=yC (h.np e J) Z;rw[h.toNd.val J,h.K hn U _ d]at v;rw[<- v];refine⟨sz.c _ d _,?_⟩
 rcases gP 10 q.1.natAbs with z|z
 ·have:=sz.p _ d _ z;rw[v]at this;exact absurd this (h.nz e J q Z)
 ·exact z
def LK.many{n:Nat}{w:ae}{m:Ps}(hn:n<5)(h:LK n w m):m.length<=120:=by
 have:=He.many (n:=n) () h.nd λo d=>by obtain⟨e,c,rfl⟩:=aX.mp d;exact h.kp.pm e c
 rwa [aF]at this
def LK.len{n:Nat}{w:ae}{m:Ps}(hn:n<5)(U:w.Perm<|rg n)(h:LK n w m){e:ae×Pl}(J:e∈m):e.2.length<=21:=by
 have:=He.zy (L:=(List.range 21).map λi:Nat=>(i:Int)-10) (h.np e J) λx c=>by
  obtain⟨q,d,rfl⟩:=aX.mp c;have:=(h.b hn U J d).2;exact aX.mpr ⟨(q.1+10).toNat,c7.mpr (),()⟩
 rwa [aF,aF,b_]at this
def LK.one{n:Nat}{w:ae}(hn:n<5)(J:w.Perm<|rg n)(h:w=rg n):LK n w [(w,[((0:Int),(1:Int))])]:=by
 have c:Kl.K w=[(w,[((0:Int),(1:Int))])]:=by
  rw[h];exact(by decide +kernel:∀n<5,Kl.K (rg n)=[(rg n,[((0:Int),(1:Int))])]) n hn
 have k:=abE hn J;rw[c]at k;exact⟨k,Kept.of hn J (λx d=>by rw[aW.mp d];exact J) λo f t=>by rw[c]⟩
end Kl
namespace K69
open PySem L2 Am
def Sn.bx{N P n k:Nat}{l:Su.Ps}(h:Sn N P C S n l)(Z:N<5)(J:1<=k)(U:k<N)(hP:P<=14)(hC:C<big) :
  ∃(L:Nat) (S':jB),mY [.ref n,.int k] S=.ok (.ref L) S'/\Sn N (P+1) (3 * C) S' L (Su.bx k l)/\kO S S':=by
 obtain⟨z,es,s,rfl⟩:=h;have j:=z.m24 Z;rw[Su.uK]at j;obtain⟨L,B,d,m,g,q,_,_,_,_,D⟩:=Um (P:=P) s (k:=k) (N:=N) (λe f=>by
  have b:=z.pb<|nW rfl f;exact⟨mG<|z.pm _<|nW rfl f,⟨b.2,z.rb<|nW rfl f⟩,λp t=>cQ (b.1.c p t) hC⟩) J U () hP ()
 exact⟨L,B,m,⟨z.bx J U,d,g,q⟩,D⟩
open Po (Pl Ok)
open Su (Es)
open He (Sz PB)
open Fw (rg)
def RH{n:Nat}{p:Pl}(h:jA S n=some (Po.pl p))(J:Ok p):k8 [.ref n] S=.ok (.int<|Po.val p 1) (S++[.nQ<|Po.iv p]):=by
 unfold k8 qC qw;dsimp[jW,lA,bools,lX,Nat.reduceAdd,Nat.reduceSub,Af,CS,h,Po.Ph,Po.LS,Po.JZ J,EV,ud,eL,yg,Po.zI]
def xH:Kl.Cb 10<big:=by rw[z_];decide +kernel
def Sn.Nj{N P n d:Nat}{l:Su.Ps}(h:Sn N P C S n l)(k:Kp (·=d) S S')(J:jV S d=some kvs):Sn N P C S' n l:=by
 obtain⟨a,es,b,c⟩:=h;exact⟨a,es,b.Nj k J,c⟩
def WH{N n:Nat}{o:ae}(J:N<5)(U:o.Perm<|rg N)(h:Sm S n es)(e:Su.sm es=Kl.K o):Sn N 10 (Kl.Cb 10) S n (Kl.K o):=⟨Kl.Ff J U,es,h,e⟩
def BX(x y:A):gd (([x,y]:ab).length<=sizeLine)=λr:Am.R A=>r:=by funext r;exact pJ<|show 2<=16777216 by decide
def Ss(x:A)(S:jB):newL [x] S=.ok (.ref S.length) (S++[.lst [x]]):=pJ<|show 1<=16777216 by decide
abbrev Fnd (N d f:Nat)(Fs:ab->jB->R A):Prop:=∀(T:jB) (K:Es) (o:ae),Iv.inv o<f->o.Perm (rg N)->Kn N Kl.K T d K ->
  ∃(r:Nat) (c:jB) (j g:Es),Fs [.tup<|o.map .int,.ref d] T=.ok (.ref r) c/\Kn N Kl.K c d j/\Sm c r g/\Su.sm g=Kl.K o/\Kp (·=d) T c
def TN{Fs:ab->jB->R A}{N d f n L k:Nat}{K:Es}{e:Su.En}{x:A}(h5:N<5)(ih:Fnd N d f Fs)(hk:Kn N Kl.K T d K)(ht:Sn N 11 A' T L told)(pe:e.1.Perm<|rg N)(he:Iv.inv e.1<f)(le:jA T e.2.1=some (Po.pl e.2.2))(oe:Ok e.2.2)(be:(Po.val e.2.2 1).natAbs<big)(k1:1<=k)(k2:k<N) :
  ∃(v:A) (L' A'':Nat) (T':jB) (K':Es),nO Fs [x,.int k,.ref d,.ref n,.ref L,.tup<|e.1.map .int,.ref e.2.1,y] T=.nx [x,.int k,.ref d,.ref n,.ref L',.tup<|e.1.map .int,.ref e.2.1,v] T'/\Kn N Kl.K T' d K'/\Sn N 11 A'' T' L' (Kl.step k Kl.K told (e.1,e.2.2))/\Kp (·=d) T T':=by
 have hN:N<6:=()
 have h1:=RH le oe;have lo:=mG pe;obtain⟨T1,t⟩:∃T1,T1=T++[O.nQ<|Po.iv e.2.2]:=⟨_,rfl⟩;have D:kO T T1:=by rw[t];k_ne
 rw[<- t]at h1;unfold nO;by_cases h0:Po.val e.2.2 1=0
 ·have C:(Po.val e.2.2 1 == 0)=true:=jk.mpr h0;refine⟨.int<|Po.val e.2.2 1,L,A',T1,K,?_,hk.wB D,?_,D.of0⟩
  ·dsimp[jW,lA,bools,h1,C,b7]
  ·unfold Kl.step;rw[aN λz=>z.1 h0];exact ht.kp D
 ·have C:(Po.val e.2.2 1 == 0)=false:=cB.mpr h0;have F:=yu (S:=T1) (xs:=e.1) (n:=N) lo ();have g:Hv false (.int k) (.ref T1.length) (T1++[.lst<|(fl e.1 N).map .int])=.ok (.bl<|Su.pF e.1 k) (T1++[.lst<|(fl e.1 N).map .int]):=by
   show opt (jA _ _) _=_;rw[jQ,jS,ug,yG lo k1 k2];rfl
  obtain⟨T2,B⟩:∃T2,T2=T1++[O.lst<|(fl e.1 N).map .int]:=⟨_,rfl⟩;have q2:kO T1 T2:=by rw[B];k_ne
  rw[<- B]at g F;have m:=D.trans q2
  cases hf:Su.pF e.1 k with
  | false=>
   rw[hf]at g;refine⟨.int<|Po.val e.2.2 1,L,A',T2,K,?_,hk.wB m,?_,m.of0⟩
   ·dsimp[jW,lA,bools,h1,C,cU,F,g]
   ·unfold Kl.step;rw[aN λz=>by rw[hf]at z;exact nomatch z.2];exact ht.kp m
  | true=>
   rw[hf]at g;obtain⟨T3,p⟩:∃T3,T3=T2++[O.lst [.tup [.int 0,.int<|-Po.val e.2.2 1]]]:=⟨_,rfl⟩;have q3:kO T2 T3:=by rw[p];k_ne
   have W:jA T3 T2.length=some (([(0,-Po.val e.2.2 1)]:Pl).map Po.pA):=by rw[p];exact jQ
   have j:=m.trans q3;obtain⟨r,T4,K4,rs,x4,Z,s4,e4,J⟩:=ih T3 K e.1 he pe<|hk.wB j;have U:=(hk.wB j).dd;have l4:=J.lst _ _ (λz=>Su.qD U W z.symm) W;obtain⟨L5,T5,x5,s5,M⟩:=(WH h5 pe s4 e4).X7 Po.pA (λ_ _ _=>rfl) h5 () l4 (Q:=0) (c:=(Po.val e.2.2 1).natAbs) ⟨λq P=>by rw[aW.mp P];show(-_:Int).natAbs<=_;rw[Int.natAbs_neg];exact aP _,λq P=>by rw[aW.mp P];exact aP _⟩ (show 1<=2 by decide) ⋯ xH be;obtain⟨L6,T6,x6,V,Y⟩:=(((ht.kp j).Nj J U).kp M).add (s5.mono ⋯ (aP _)) h5 () ⋯;have st:Kl.step k Kl.K told (e.1,e.2.2)=He.Cr told (He.Nk [(0,-Po.val e.2.2 1)]<|Kl.K e.1):=by unfold Kl.step;rw[aR ⟨h0,hf⟩]
   rw[<- st]at V;refine⟨.int<|Po.val e.2.2 1,L6,_,T6,K4,?_,(Z.wB M).wB Y,V,((j.of0.trans J).trans M.of0).trans Y.of0⟩;have G:Cu (.int<|Po.val e.2.2 1) T2=.ok (.int<|-Po.val e.2.2 1) T2:=rfl;dsimp[jW,lA,bools,h1,C,cU,F,g,G,BX,Ss,<- p,x4,x5,x6]
end K69
namespace K69
open PySem L2 Am
open Po (Pl Ok)
open Su (Es)
open He (Sz PB)
open Fw (rg)
def Ls:gd (2<=sizeLine)=λr:Am.R A=>r:=by funext r;exact pJ<|show 2<=16777216 by decide
def Uj{Fs:ab->jB->R A}{N d f n k:Nat}{x:A}{wl:ae}(Z:N<5)(ih:Fnd N d f Fs)(hk:Kn N Kl.K S d K0)(ht:Sn N 11 A0 S L0 told)(pw:wl.Perm<|rg N)(iw:Iv.inv wl<f)(hs:Sm S n es)(U:Su.sm es=Kl.K wl)(k1:1<=k)(k2:k<N) :
  ∃(y5 y6 y7:A) (L' A'':Nat) (S':jB) (K':Es),ku (p_ Fs) (x_ 2<|pM (jX 5)<|pM (jX 6) xZ) (nO Fs) [x,.int k,.ref d,.ref n,.ref L0,.unb,.unb,.unb] S=.nx [x,.int k,.ref d,.ref n,.ref L',y5,y6,y7] S'/\Kn N Kl.K S' d K'/\Sn N 11 A'' S' L' ((Kl.K wl).foldl (Kl.step k Kl.K) told)/\Kp (·=d) S S':=by
 have m:(es.map Su.ent).length=es.length:=aF ..;have M:N<6:=()
 have t:=Kl.Ff Z pw;refine qe (n:=n) (xs:=es.map Su.ent) (S1:=S) (show p_ Fs _ _=_ from l_ (by dsimp[jW,bools]) hs.l)
  (λi τ T=>∃(y5 y6 y7:A) (L' A'':Nat) (K':Es),τ=[x,.int k,.ref d,.ref n,.ref L',y5,y6,y7]/\Kn N Kl.K T d K'/\Sn N 11 A'' T L' ((Su.sm<|es.take i).foldl (Kl.step k Kl.K) told)/\Kp (·=d) S T)
  (λr=>∃(y5 y6 y7:A) (L' A'':Nat) (S':jB) (K':Es),r=.nx [x,.int k,.ref d,.ref n,.ref L',y5,y6,y7] S'/\Kn N Kl.K S' d K'/\Sn N 11 A'' S' L' ((Kl.K wl).foldl (Kl.step k Kl.K) told)/\Kp (·=d) S S')
  ⟨_,_,_,L0,A0,K0,rfl,hk,ht,Kp.refl⟩ (λi τ T h=>?_) ?_ ?_
 ·obtain⟨_,_,_,_,_,_,_,_,_,kp⟩:=h;exact kp.lst _ _ (λz=>Su.qD hk.dd hs.l z.symm) hs.l
 ·rintro i z τ T B ⟨y5,y6,y7,L',A'',K',rfl,j,c,kp⟩;rw[aK]at B;obtain⟨e,p,rfl⟩:=aQ.mp B;have q:=aY p;have g:(e.1,e.2.2)∈Kl.K wl:=nW U q;have lo:=Kl.P0 Z pw _ g;have pb:=t.pb g;obtain⟨v,C,J,T1,D,e1,F,G,L⟩:=TN (Fs:=Fs) (n:=n) (x:=x) (y:=y7) Z ih j c (e:=e) lo.1 (cQ lo.le iw) ((hs.Nj kp hk.dd).a e q) (t.cn.gd.ok _ g) (cQ (Kl.abh pb.1 1) xH) k1 k2;refine⟨[x,.int k,.ref d,.ref n,.ref L',.tup<|e.1.map .int,.ref e.2.1,y7],T,rfl,.inl ⟨_,T1,e1,_,_,_,C,J,D,rfl,F,?_,kp.trans L⟩⟩;rw[b6,p,Su.xS,eU];exact G
 ·rintro τ T ⟨y5,y6,y7,L',A'',K',rfl,j,c,kp⟩;rw[m,b8,U]at c;exact⟨y5,y6,y7,L',A'',T,K',rfl,j,c,kp⟩
def VP{Fs:ab->jB->R A}{N d f k:Nat}{w:ae}(h5:N<5)(ih:Fnd N d f Fs)(hk:Kn N Kl.K S d K0)(pw:w.Perm<|rg N)(hf:He.ff w=some k)(iw:Iv.inv w<f+1) :
  ∃(r:Nat) (S':jB) (K' rs:Es),kX kW (kY Fs) [.tup<|w.map .int,.int k,.ref d] S=.ok (.ref r) S'/\Kn N Kl.K S' d K'/\Sm S' r rs/\Su.sm rs=Kl.K w/\Kp (·=d) S S':=by
 have hN:N<6:=()
 have g:=Kl.aaA pw hf;have iv:=g.iv;obtain⟨S1,U,F⟩:=LG (S:=S) (xs:=w) (k:=k) g.h0 (by rw[mG pw];exact g.h1) (by rw[mG pw];lia);obtain⟨r2,S2,K2,rs2,x2,n2,P,e2,V⟩:=ih S1 K0 (Wd.ex w k) () g.pe<|hk.wB F;have G:=WH h5 g.pe P e2;obtain⟨L3,S3,W,Y,L⟩:=G.bx h5 g.h0 g.h1 ⋯ xH;obtain⟨t,j⟩:∃t,t=S3++[O.lst [.tup [.int 1,.int 1]]]:=⟨_,rfl⟩;have J:kO S3 t:=by rw[j];k_ne
 have Z:jA t S3.length=some (([(1,1)]:Pl).map Po.pA):=by rw[j];exact jQ
 have B:=L.trans J;obtain⟨L5,S5,x5,s5,k5⟩:=(G.kp B).X7 Po.pA (λ_ _ _=>rfl) h5 (by have:=g.h1;lia) Z (Q:=1) (c:=1) ⟨λq C=>by rw[aW.mp C];exact aP _,λq C=>by rw[aW.mp C];exact aP _⟩ ⋯ ⋯ xH (by rw[z_];decide +kernel);have p:=J.trans k5;obtain⟨L6,S6,T,s6,k6⟩:=(Y.kp p).add s5 h5 (by have:=g.h1;lia) ⋯;have m:=(L.trans p).trans k6;obtain⟨y5,y6,y7,L7,A7,S7,K7,x7,n7,M,k7⟩:=Uj (x:=.tup<|w.map .int) h5 ih (n2.wB m) s6 g.pe () (P.kp m) e2 g.h0 g.h1;have eq:(Kl.K<|Wd.ex w k).foldl (Kl.step k Kl.K) (He.Cr (Su.bx k<|Kl.K<|Wd.ex w k)<|He.Nk [(1,1)]<|Kl.K<|Wd.ex w k)=Kl.K w:=(Kl.YM h5 pw hf).symm;rw[eq]at M;obtain⟨_,D,m7,e7⟩:=M;refine⟨L7,S7,K7,D,?_,n7,m7,e7,((F.of0.trans V).trans m.of0).trans k7⟩;unfold kY kW;dsimp[jW,lA,bools,lX,Nat.reduceAdd,Nat.reduceSub,U,x2,W,Ls,BX,Ss,<- j,x5,T,↓x7]
theorem Le{N d:Nat}(h5:N<5):∀(f:Nat),Fnd N d f (m8 f)
 | 0=>λ_ _ _ h _ _=>absurd h (fK _)
 | f+1=>λS K o hf C hK=>by
  have hN:N<6:=()
  have lo:=mG C;show ∃(r:Nat) (S':jB) (F rs:Es),kX oV (oZ<|m8 f) [.tup<|o.map .int,.ref d] S=.ok (.ref r) S'/\_;have q:HM true (.tup<|o.map .int) (.ref d) S=.ok (.bl<|!(kH (K.map Su.kv) o).isSome) S:=by rw[Zj,hK.dd,jS]
  unfold oZ oV
  cases Z:Su.fE K o with
  | some e=>
   obtain⟨m1,rfl⟩:=Su.pB Z;obtain⟨rs,r1,r2⟩:=hK.at_ e m1;have J:kH (K.map Su.kv) e.1=some (.ref e.2.1):=by rw[Su.nP,Z];rfl
   have p:zY (.ref d) (.tup<|e.1.map .int) S=.ok (.ref e.2.1) S:=by rw[Su.ym,hK.dd,jS,J,jS]
   rw[J]at q;refine⟨e.2.1,S,K,rs,?_,hK,r1,r2,Kp.refl⟩;dsimp[jW,lA,bools,lX,Nat.reduceAdd,Nat.reduceSub,q,gA,b7,p]
  | none=>
   have J:kH (K.map Su.kv) o=none:=by rw[Su.nP,Z];rfl
   rw[J]at q;have P:=yu (S:=S) (xs:=o) (n:=N) lo ();have D:(fl o N).head?=(He.ff o).map λk:Nat=>(k:Int):=by
    have:=He.VI (o:=o);rw[lo]at this;exact this
   obtain⟨S1,j⟩:∃S1,S1=S++[O.lst<|(fl o N).map .int]:=⟨_,rfl⟩;have U:kO S S1:=by rw[j];k_ne
   have L:jA S1 S.length=some ((fl o N).map .int):=by rw[j];exact jQ
   rw[<- j]at P;have M:=GI L
   cases c:He.ff o with
   | none=>
    have fe:fl o N=[]:=by
     rw[c]at D;exact List.head?_eq_none_iff.mp D
    obtain⟨S2,g⟩:∃S2,S2=S1++[O.lst [.tup [.int 0,.int 1]]]:=⟨_,rfl⟩;have k2:kO S1 S2:=by rw[g];k_ne
    have l2:jA S2 S1.length=some (Po.pl [(0,1)]):=by rw[g];exact jQ
    obtain⟨S3,m⟩:∃S3,S3=S2++[O.lst [.tup [.tup<|o.map .int,.ref S1.length]]]:=⟨_,rfl⟩;have G:kO S2 S3:=by rw[m];k_ne
    have l3:jA S3 S2.length=some (([(o,S1.length,[(0,1)])]:Es).map Su.ent):=by rw[m];exact jQ
    have sm:Sm S3 S2.length [(o,S1.length,[(0,1)])]:=⟨l3,λe he=>by rw[aW.mp he];exact G.lst _ _ (λz=>z) l2⟩;have kq:Su.sm [(o,S1.length,[((0:Int),(1:Int))])]=Kl.K o:=by rw[Kl.YR h5 C c];rfl
    have B:=(U.trans k2).trans G;obtain⟨V,F,e1,T,p,W,kp⟩:=(hK.wB B).put hN C sm kq;refine⟨S2.length,V,F,_,?_,T,W,kq,B.of0.trans kp⟩;rw[fe]at M;dsimp[jW,lA,bools,lX,Nat.reduceAdd,Nat.reduceSub,q,gE,cU,P,M,d9,iA,b7,Ls,BX,Ss,<- g,<- m,Su.ur,e1,p]
   | some k=>
    obtain⟨t,ft⟩:∃t,fl o N=(k:Int)::t:=by
     rw[c]at D;exact List.head?_eq_some_iff.mp D
    rw[ft]at M L;obtain⟨r3,S3,K3,Y,x3,n3,s3,q3,G⟩:=VP h5 (Le h5 f) (hK.wB U) C c hf;obtain⟨V,F,e1,T,p,W,kp⟩:=n3.put hN C s3 q3;refine⟨r3,V,F,Y,?_,T,W,q3,(U.of0.trans G).trans kp⟩;dsimp[jW,lA,bools,lX,Nat.reduceAdd,Nat.reduceSub,q,gE,cU,P,M,bF,iZ,b7];rw[bF]at L;dsimp[jW,lA,bools,L,xg,↓x3,Su.ur,e1,p]
end K69
namespace K69
open PySem L2 Am
def ZG{n:Nat}{d:List<|ny×A}(h:pS S n=some d)(h':jA S m=some xs):n≠m:=λz=>by
 subst z;have e1:=qi h;rw[jP h']at e1
 cases e1
def XJ{n:Nat}{d:List<|ny×A}(h:pS S n=some d)(h':jV S m=some xs):n≠m:=λz=>by
 subst z;have e1:=qi h;rw[lN h']at e1
 cases e1
def Kp.vQ{b:Nat->Prop}(h:Kp b S S')(n:Nat)(d:List<|ny×A)(hb:¬b n)(e:pS S n=some d):pS S' n=some d:=A4<|h.obj n _ hb<|qi e
def Mc(x w:ae):EU (.tup [.tup<|x.map .int,.tup<|w.map .int])=some (x,w):=by
 unfold EU;dsimp only;rw[ints_map,ints_map];rfl
def Ur{d:Nat}{S:jB}{x w:ae}{v:A}:FT (.ref d) (.tup [.tup<|x.map .int,.tup<|w.map .int]) v S=opt (pS S d) λkvs=>gd (kvs.length<sizeLine) (.ok Unit.unit<|S.set d<|.vQ<|zl kvs (x,w) v):=by
 show opt (pS S d) (λkvs=>opt (EU _) _)=_;rw[Mc];rfl
def UJ{co J:Ex}{a:A}:VH co J a τ S=(co τ S).bind λo S1=>(J τ S1).bind λi S2=>(FT o i a S2).bind λ_ S3=>.ok τ S3:=rfl
def Mk{S:jB}:IU τ S=.ok (.ref S.length) (S++[.vQ []]):=rfl
def PZ{k:ny}{v:A}{kvs:List<|ny×A}:(zl kvs k v).length<=kvs.length+1:=by
 unfold zl;split
 ·rw[aF];lia
 ·rw[bq];exact aP _
def isQ{kvs:List<|ny×A}{k:ny}:(qp kvs k).isSome=decide (k∈kvs.map (·.1)):=by
 unfold qp;rw[eS]
 cases h:kvs.find? λkv=>decide (kv.1=k)with
 | none=>
  refine(bH λz=>?_).symm;obtain⟨p,c,e⟩:=aX.mp z;have:=gC.mp h p c;exact this<|bg e
 | some p=>
  refine(bg ?_).symm;have h1:=c_ h;have h2:=gu h;have h2:=bE h2;exact aX.mpr ⟨p,h1,h2⟩
def Ms{kvs:List<|ny×A}{k q:ny}{v:A}:q∈(zl kvs k v).map (·.1) ↔ q∈kvs.map (·.1)\/q=k:=by
 unfold zl;split
 ·rename_i h;rw[isQ]at h;have h:=bE h;have:(kvs.map λp=>if p.1=k then(p.1,v)else p).map (·.1)=kvs.map (·.1):=by
   rw[bC];refine cg λp _=>?_;show(if p.1=k then(p.1,v)else p).1=p.1;split<;>rfl
  rw[this];constructor
  ·exact .inl
  ·rintro(z|z)
   ·exact z
   ·rw[z];exact h
 ·rw[bB,bJ,bF,d9,aW]
structure Ks (S:jB)(d m:Nat)(ps:List ny):Prop where
 ex:∃kvs,pS S d=some kvs/\kvs.length<=m/\(∀q,q∈kvs.map (·.1) ↔ q∈ps)/\∀p∈kvs,p.2=.int 1
def Ks.put{d:Nat}{x w:ae}{v:A}(h:Ks S d m ps)(J:m<16777216)(hv:v=.int 1):∃S',FT (.ref d) (.tup [.tup<|x.map .int,.tup<|w.map .int]) v S=.ok Unit.unit S'/\Ks S' d (m+1) (ps++[(x,w)])/\Kp (·=d) S S':=by
 obtain⟨c,h1,h2,h3,g⟩:=h.ex;have j:d<S.length:=(aG.mp<|qi h1).1;refine⟨S.set d<|.vQ<|zl c (x,w) v,?_,⟨zl c (x,w) v,A4<|by rw[bK j],bI PZ (),λq=>?_,λp f=>?_⟩,Kp.refl.tV<|.inl rfl⟩
 ·rw[Ur,h1,jS];exact mV ()
 ·rw[Ms,h3,bJ,aW]
 ·unfold zl at f;split at f
  ·obtain⟨q,k,rfl⟩:=aX.mp f;split
   ·exact hv
   ·exact g q k
  ·rcases bJ.mp f with z|z
   ·exact g p z
   ·rw[aW.mp z];exact hv
def Ks.kp{d:Nat}{b:Nat->Prop}(h:Ks S d m ps)(k:Kp b S S')(hb:¬b d):Ks S' d m ps:=by
 obtain⟨c,h1,h2⟩:=h.ex;exact⟨c,Kp.vQ k _ _ hb h1,h2⟩
def Ks.mono{d:Nat}(h:Ks S d m ps)(J:m<=m'):Ks S d m' ps:=by
 obtain⟨c,h1,h2,h3⟩:=h.ex;exact⟨c,h1,bI h2 J,h3⟩
def Ks.ne{d n:Nat}(h:Ks S d m ps)(h':jA S n=some xs):d≠n:=by
 obtain⟨c,h1,_⟩:=h.ex;exact ZG h1 h'
def Ks.nd{d n:Nat}(h:Ks S d m ps)(h':jV S n=some xs):d≠n:=by
 obtain⟨c,h1,_⟩:=h.ex;exact XJ h1 h'
def Ks.get{d:Nat}{ps:List ny}{x w:ae}(h:Ks S d m ps):C4 (.ref d) [.tup [.tup<|x.map .int,.tup<|w.map .int],.int 0] S=.ok (.int<|if (x,w)∈ps then 1 else 0) S:=by
 obtain⟨kvs,h1,h2,h3,f⟩:=h.ex;show opt (pS S d) (λkvs=>opt (EU _) _)=_;rw[h1,jS,Mc,jS];congr 1;have e:=isQ (kvs:=kvs) (k:=(x,w));rw[eo.mpr<|h3 (x,w)]at e
 cases c:qp kvs (x,w)with
 | none=>
  rw[c]at e;have:(x,w)∉ps:=dJ e.symm;rw[aN this];rfl
 | some v=>
  rw[c]at e;have:(x,w)∈ps:=bE e.symm;rw[aR this];unfold qp at c;obtain⟨p,g,rfl⟩:=aQ.mp c;exact f p<|c_ g
theorem Ks.dq{d:Nat}(h:Ks S d m ps):dq? (.ref d) S=some Unit.unit:=by
 obtain⟨c,h1,_⟩:=h.ex;show(pS S d).map _=_;rw[h1];rfl
open Po (Pl Ok)
open Su (Es)
open He (Sz PB)
open Fw (rg)
abbrev SM (u:ae)(e:ae×Pl):List ny:=if Po.val e.2 1=0 then[]else[(e.1,u),(u,e.1)]
abbrev ldK (u:ae):List ny:=(Kl.K u).flatMap<|SM u
abbrev Ld (J:List<|ae):List ny:=J.flatMap ldK
def Kn.kpq{N d L:Nat}{U:ae->Su.Ps}{K:Es}(h:Kn N U T d K)(k:Kp (·=L) T T')(J:Ks T L m ps):Kn N U T' d K:=⟨k.dct _ _ (λz=>J.nd h.dd z.symm) h.dd,h.gd,h.pm,λe c=>by
 obtain⟨es,a,b⟩:=h.at_ e c;exact⟨es,⟨k.lst _ _ (λz=>J.ne a.l z.symm) a.l,λe c=>k.lst _ _ (λz=>J.ne (a.a e c) z.symm)<|a.a e c⟩,b⟩⟩
def Sm.kpq{n L:Nat}(a:Sm T n es)(k:Kp (·=L) T T')(J:Ks T L m ps):Sm T' n es:=⟨k.lst _ _ (λz=>J.ne a.l z.symm) a.l,λe c=>k.lst _ _ (λz=>J.ne (a.a e c) z.symm)<|a.a e c⟩
def N5{N d L n c:Nat}{K:Es}{u:ae}{e:Su.En}(Z:Kn N Kl.K T d K)(J:Ks T L m ps)(le:jA T e.2.1=some (Po.pl e.2.2))(U:Ok e.2.2)(hm:m+2<16777216)(hv:Po.val e.2.2 1≠0->Po.val e.2.2 1=1) :
  ∃(v:A) (T':jB),qy [.ref n,.ref d,.ref L,.tup<|u.map .int,.tup<|e.1.map .int,.ref e.2.1,y] T=.nx [.ref n,.ref d,.ref L,.tup<|u.map .int,.tup<|e.1.map .int,.ref e.2.1,v] T'/\Ks T' L (m+2) (ps++SM u (e.1,e.2.2))/\Kp (·=L) T T':=by
 have h1:=RH le U;obtain⟨T1,f⟩:∃T1,T1=T++[O.nQ<|Po.iv e.2.2]:=⟨_,rfl⟩;have g:kO T T1:=by rw[f];k_ne
 rw[<- f]at h1;unfold qy;by_cases h0:Po.val e.2.2 1=0
 ·have j:(Po.val e.2.2 1 == 0)=true:=jk.mpr h0;refine⟨.int<|Po.val e.2.2 1,T1,?_,?_,g.of0⟩
  ·dsimp[jW,lA,bools,h1,j,b7]
  ·unfold SM;rw[aR h0,cj];exact(J.kp g λz=>z).mono ()
 ·have j:(Po.val e.2.2 1 == 0)=false:=cB.mpr h0;obtain⟨T2,q,p,B⟩:=(J.kp g λz=>z).put (x:=e.1) (w:=u) (v:=.int<|Po.val e.2.2 1) () (by rw[hv h0]);obtain⟨T3,C,k,t⟩:=p.put (x:=u) (w:=e.1) (v:=.int<|Po.val e.2.2 1) () (by rw[hv h0]);refine⟨.int<|Po.val e.2.2 1,T3,?_,?_,(g.of0.trans B).trans t⟩
  ·dsimp[jW,lA,bools,h1,j,cU,UJ,BX,q,C]
  ·unfold SM;rw[aN h0];rw[cG]at k;exact k
end K69
namespace K69
open PySem L2 Am
open Po (Pl Ok)
open Su (Es)
open He (Sz PB)
open Fw (rg)
def OF{N d L n r:Nat}{K:Es}{u:ae}{J:Es}(h5:N<5)(pu:u.Perm<|rg N)(hs:qA [.ref n,.ref d,.ref L,.tup<|u.map .int,y4,y5,y6] S=.ok (lJ r (J.map Su.ent).length) S1)(hk:Kn N Kl.K S1 d K)(U:Ks S1 L m ps)(Z:Sm S1 r J)(he:Su.sm J=Kl.K u)(hm:m+240<16777216)(hv:∀e∈Kl.K u,Po.val e.2 1≠0->Po.val e.2 1=1) :
  ∃(z4 z5 z6:A) (S':jB),oz [.ref n,.ref d,.ref L,.tup<|u.map .int,y4,y5,y6] S=.nx [.ref n,.ref d,.ref L,.tup<|u.map .int,z4,z5,z6] S'/\Ks S' L (m+240) (ps++ldK u)/\Kp (·=L) S1 S':=by
 have j:(J.map Su.ent).length=J.length:=aF ..;have t:=Kl.Ff h5 pu;have k:J.length<=120:=by have:=t.many ();rwa [<- he,Su.uK]at this
 unfold oz;refine qe (n:=r) (xs:=J.map Su.ent) (S1:=S1) hs
  (λi τ T=>∃(z4 z5 z6:A),τ=[.ref n,.ref d,.ref L,.tup<|u.map .int,z4,z5,z6]/\i<=J.length/\Ks T L (m+2 * i) (ps++(Su.sm<|J.take i).flatMap (SM u))/\Kp (·=L) S1 T)
  (λR=>∃(z4 z5 z6:A) (S':jB),R=.nx [.ref n,.ref d,.ref L,.tup<|u.map .int,z4,z5,z6] S'/\Ks S' L (m+240) (ps++ldK u)/\Kp (·=L) S1 S')
  ⟨_,_,_,rfl,bW _,by rw[iW];show Ks S1 L m (ps++[]);rw[cj];exact U,Kp.refl⟩ (λi τ T h=>?_) ?_ ?_
 ·obtain⟨_,_,_,_,_,_,kp⟩:=h;exact kp.lst _ _ (λz=>U.ne Z.l z.symm) Z.l
 ·rintro i z τ T B ⟨z4,z5,z6,rfl,_,g,kp⟩;rw[aK]at B;obtain⟨e,f,rfl⟩:=aQ.mp B;have q:=aY f;have p:(e.1,e.2.2)∈Kl.K u:=nW he q;have F:=(aG.mp f).1;obtain⟨v,T1,e1,C,D⟩:=N5 (n:=n) (u:=u) (e:=e) (y:=z6) (c:=0) (hk.kpq kp U) g ((Z.kpq kp U).a e q) (t.cn.gd.ok _ p) ()<|hv _ p;refine⟨[.ref n,.ref d,.ref L,.tup<|u.map .int,.tup<|e.1.map .int,.ref e.2.1,z6],T,rfl,.inl ⟨_,T1,e1,_,_,_,rfl,F,?_,kp.trans D⟩⟩;rw[b6,f,Su.xS,d7,<- cG];have:((Su.sm (some e).toList).flatMap<|SM u)=SM u (e.1,e.2.2):=cj _;rw[this];exact C
 ·rintro τ T ⟨z4,z5,z6,rfl,_,g,kp⟩;rw[j,b8,he]at g;exact⟨z4,z5,z6,T,rfl,g.mono (),kp⟩
def Rl{N n:Nat}{os:List<|ae}(h5:N<5)(hi:∀o∈os,o.Perm (rg N)/\Iv.inv o<8)(hv:∀o∈os,∀e∈Kl.K o,Po.val e.2 1≠0->Po.val e.2 1=1)(hn:jA S n=some (os.map λo=>.tup<|o.map .int))(hl:os.length<=120) :
  ∃(L:Nat) (S':jB),nY [.ref n] S=.ok (.ref L) S'/\Ks S' L 30000 (Ld os)/\kO S S':=by
 have hN:N<6:=()
 obtain⟨S1,c⟩:∃S1,S1=S++[O.dct []]:=⟨_,rfl⟩;have J:kO S S1:=by rw[c];k_ne
 obtain⟨S2,g⟩:∃S2,S2=S1++[O.vQ []]:=⟨_,rfl⟩;have t:kO S1 S2:=by rw[g];k_ne
 have d1:jV S1 S.length=some []:=by rw[c];exact Su.oR
 have d2:=t.dct _ _ (λz=>z) d1;have p2:pS S2 S1.length=some []:=A4 (by rw[g];exact D5);have l1:S1.length=S.length+1:=by rw[c,bq];rfl
 have h0:Kn N Kl.K S2 S.length []:=⟨d2,Su.Gd.nil,(nofun),(nofun)⟩;have B:Ks S2 S1.length 0 []:=⟨[],p2,aP _,λq=>Iff.rfl,nofun⟩;have k:=(J.trans t).lst _ _ (λz=>z) hn;have j:∃(f y4 y5 y6:A) (S':jB),ku qJ (jX 3) oz [.ref n,.ref S.length,.ref S1.length,.unb,.unb,.unb,.unb] S2=.nx [.ref n,.ref S.length,.ref S1.length,f,y4,y5,y6] S'/\Ks S' S1.length 30000 (Ld os)/\Kp (λx=>x=S.length\/x=S1.length) S2 S':=by
  refine qe (n:=n) (xs:=os.map λo=>.tup<|o.map .int) (S1:=S2) (show qJ _ _=_ from l_ (by dsimp[jW,bools]) k)
   (λi τ T=>∃(f y4 y5 y6:A) (K:Es),τ=[.ref n,.ref S.length,.ref S1.length,f,y4,y5,y6]/\i<=os.length/\Kn N Kl.K T S.length K/\Ks T S1.length (240 * i) (Ld<|os.take i)/\Kp (λx=>x=S.length\/x=S1.length) S2 T)
   (λR=>∃(f y4 y5 y6:A) (S':jB),R=.nx [.ref n,.ref S.length,.ref S1.length,f,y4,y5,y6] S'/\Ks S' S1.length 30000 (Ld os)/\Kp (λx=>x=S.length\/x=S1.length) S2 S')
   ⟨_,_,_,_,[],rfl,bW _,h0,by rw[iW];exact B,Kp.refl⟩ (λi τ T h=>?_) ?_ ?_
  ·obtain⟨_,_,_,_,_,_,_,_,_,kp⟩:=h;have:=mw hn;exact kp.lst _ _ (λz=>()) k
  ·rintro i z τ T Z ⟨f,y4,y5,y6,K,rfl,_,P,p,kp⟩;rw[aK]at Z;obtain⟨o,D,rfl⟩:=aQ.mp Z;have V:=aY D;obtain⟨U,io⟩:=hi o V;have C:=(aG.mp D).1;obtain⟨r,T1,K1,rs,x1,G,M,e1,W⟩:=Le (d:=S.length) h5 8 T K o io U P;have m:Ks T1 S1.length (240 * i) (Ld<|os.take i):=p.kp W λz=>()
   obtain⟨z4,z5,z6,T2,x2,Y,F⟩:=OF (S:=T) (S1:=T1) (n:=n) (y4:=y4) (y5:=y5) (y6:=y6) h5 U (show qA _ _=_ from l_ (by dsimp[jW,lA,bools,show uS=m8 8 from rfl,x1]) M.l) G m M e1 ()<|hv o V;refine⟨_,T,rfl,.inl ⟨_,T2,x2,_,_,_,_,K1,rfl,C,G.kpq F m,?_,(kp.trans<|W.mono λ_ _ z=>.inl z).trans<|F.mono λ_ _ z=>.inr z⟩⟩;unfold Ld at Y ⊢;rw[b6,D,d7];have:(some o).toList.flatMap ldK=ldK o:=cj _;rw[this];exact Y.mono ()
  ·rintro τ T ⟨f,y4,y5,y6,K,rfl,_,P,p,kp⟩;rw[aF,b8]at p;exact⟨f,y4,y5,y6,T,rfl,p.mono (),kp⟩
 obtain⟨f,y4,y5,y6,S',x3,s3,k3⟩:=j;refine⟨S1.length,S',?_,s3,((J.trans t)).old k3 λq hq _ z=>()⟩;unfold nY sJ sH;dsimp[jW,lA,bools,lX,Nat.reduceAdd,Nat.reduceSub,Su.qk,Mk,<- c,<- g,↓x3]
end K69
namespace K69
open PySem L2 Am
def Ae{s:Src}{xs:ab}{src:Ic}{t:Te}{e:Ex}(hs:src τ S=.ok s S1)(U:s.k=xs.length)(b:Nat->Prop)(hg:∀T,Kp b S1 T->∀i:Nat,i<xs.length->s.get i T=xs[i]?)(J:∀T,Kp b S1 T->s.fin T=true)(p:A->Bool)(f:A->A)
  (step:∀x∈xs,∀T,Kp b S1 T->∃T1,t (x::mj cap τ) T=.ok (p x) T1/\Kp b T T1/\(p x=true->∃T2,e (x::mj cap τ) T1=.ok (f x) T2/\Kp b T1 T2)) (Z:xs.length<=16777216) :
  ∃S',j8 (none::cap) src (jX 0) t e τ S=.ok (.ref S'.length) (S'++[.lst<|(xs.filter p).map f])/\Kp b S1 S':=by
 have B:∀i,i<xs.length->xs.getD i .unb∈xs:=λi c=>by
  rw[aL,aH c];exact cK c
 obtain⟨S',h1,h2⟩:=yE (s:=s) (g:=jX 0) (t:=t) (e:=e) (P:=λT=>Kp b S1 T) (T:=λd=>∃y,d=y::mj cap τ) (λi=>xs.getD i .unb) (λi=>p<|xs.getD i .unb) (λi=>f<|xs.getD i .unb) (λi T c h=>by
   rw[U]at c;rw[hg T h i c,aL,aH c];rfl) J
  (λi d T c C h=>by
   obtain⟨y,rfl⟩:=C;rw[U]at c;obtain⟨T1,e1,j,q⟩:=step _ (B i c) T h;refine⟨xs.getD i .unb::mj cap τ,T,T1,rfl,e1,⟨_,rfl⟩,λ_=>h.trans j,λD=>?_⟩;obtain⟨T2,e2,m⟩:=q D;exact⟨T2,e2,(h.trans j).trans m⟩) s.k 0 (mj (none::cap) τ) S1 rfl ⟨_,rfl⟩ Kp.refl
 refine⟨S',?_,h2⟩;unfold j8;rw[hs,R.nk,h1,R.kJ,U,<- fR,p6 xs p f .unb];refine kQ ?_;rw[aF];exact bI (cX _ _) Z
def Dq{n:Nat}{xs:ab}{src:Ic}{t:Te}{e:Ex}(hs:src τ S=.ok (lJ n xs.length) S1)(J:jA S1 n=some xs)(p:A->Bool)(f:A->A)
  (step:∀x∈xs,∀T,kO S1 T->∃T1,t (x::mj cap τ) T=.ok (p x) T1/\kO T T1/\(p x=true->∃T2,e (x::mj cap τ) T1=.ok (f x) T2/\kO T1 T2)) (U:xs.length<=16777216) :
  ∃S',j8 (none::cap) src (jX 0) t e τ S=.ok (.ref S'.length) (S'++[.lst<|(xs.filter p).map f])/\kO S1 S':=
 Ae hs rfl _ (λT k i _=>by show(jA T n).bind _=_;rw[k.lst _ _ (λz=>z) J];rfl) (λT k=>by
  show(match jA T n with
   | some ys=>decide (ys.length<=xs.length)
   | none=>false)=true
  rw[k.lst _ _ (λz=>z) J];exact bg<|aP _) p f step U
def abW(b:Bool)(xs:ab):A.Nr (.bl b::xs)=(A.Nr xs).map (b::·):=rfl
theorem Wl{α:Type}(f:α->Bool):∀(xs:List α),A.Nr (xs.map λx=>.bl<|f x)=some (xs.map f)
 | []=>rfl
 | x::xs=>by rw[bF,abW,Wl f xs];rfl
meta abbrev Os:=List<|ae
abbrev tq (o:ae):A:=.tup<|o.map .int
def uq(o:ae)(T:jB):uV (tq o) T=.ok (tq o) T:=rfl
abbrev isI:A->Int
 | .int k=>k
 | _=>0
abbrev un:A->ae
 | .tup xs=>xs.map isI
 | _=>[]
def Jv(o:ae):un (tq o)=o:=by
 show(o.map A.int).map isI=o;rw[bC];exact map_id _
end K69
namespace Nu
open PySem L2
abbrev fac:Nat->Nat
 | 0=>1
 | n+1=>(n+1) * fac n
abbrev unr:Nat->ae->Nat->ae
 | 0,_,_=>[]
 | n+1,l,m=>l.getD (m / fac n) 0::unr n (l.eraseIdx<|m / fac n) (m % fac n)
end Nu
namespace Stp
open PySem L2 Iv
abbrev mm (a:ae)(i j:Nat):ae:=(a.drop<|i+1).take<|j-i-1
end Stp
namespace Eu
open PySem L2 Bl
open Wd (ex)
open Fw (rg ER)
section
variable {n:Nat}
def ln{z:ae}(p:z.Perm<|rg n):z.length=n:=by rw[p.length_eq,Wd.j5]
end
abbrev al (n:Nat):List (ae):=(List.range<|Nu.fac n).map<|Nu.unr n<|rg n
abbrev sg (z:ae):Int:=if Iv.inv z % 2=1 then -1 else 1
open Classical in
abbrev sm (n:Nat)(P:ae->Prop):Int:=((al n).map λz=>if P z then sg z else 0).sum
end Eu
namespace Eu
open PySem L2 Bl Am
open Fw (rg)
abbrev ext (n:Nat)(p:ae):List (ae):=((rg n).filter λt=>decide<|t∉p).map λt=>p++[t]
abbrev inj (n:Nat):Nat->List (ae)
 | 0=>[[]]
 | k+1=>(inj n k).flatMap<|ext n
theorem Ak{n:Nat}:∀{k:Nat}{p:ae},p∈inj n k ↔ p.length=k/\p.Nodup/\∀t∈p,t∈rg n
 | 0,p=>by
  unfold inj;rw[aW];constructor
  ·rintro rfl;simp
  ·rintro⟨h,_⟩;exact cZ.mp h
 | k+1,p=>by
  unfold inj;rw[cL];constructor
  ·rintro⟨q,g,m⟩;obtain⟨t,f,rfl⟩:=aX.mp m;obtain⟨h1,h2⟩:=bO.mp f;obtain⟨a,b,c⟩:=Ak.mp g;have h2:t∉q:=bE h2;refine⟨by simp[a],?_,λx d=>?_⟩
   ·rw[bN];refine⟨b,by simp,λx d y j z=>h2 ?_⟩;have:y=t:=by simpa using j
    rw[<- this,<- z];exact d
   ·rcases bJ.mp d with z|z
    ·exact c x z
    ·have:x=t:=by simpa using z
     rw[this];exact h1
  ·rintro⟨h1,h2,h3⟩
   rcases List.eq_nil_or_concat p with c|⟨q,t,c⟩
   ·rw[c]at h1;simp at h1
   ·rw[ie]at c;subst c;rw[bN]at h2;refine⟨q,Ak.mpr ⟨by simpa using h1,h2.1,λx d=>h3 x<|c8 _ d⟩,aX.mpr ⟨t,bO.mpr ⟨h3 t<|by simp,bg λz=>h2.2.2 t z t (by simp) rfl⟩,rfl⟩⟩
def Ut{n:Nat}{p:ae}:p∈inj n n ↔ p.Perm (rg n):=by
 rw[Ak];constructor
 ·rintro⟨h1,h2,h3⟩;exact zL h2 h3 (by rw[h1,Wd.j5];exact aP _)
 ·intro c;exact⟨ln c,c.nodup_iff.mpr<|uU _ _,λt d=>c.mem_iff.mp d⟩
theorem La{n:Nat}:∀(k:Nat),(inj n k).length<=n ^ k
 | 0=>aP _
 | k+1=>by
  have:∀(l:List<|ae),(l.flatMap<|ext n).length<=l.length * n:=λl=>by
   induction l with
   | nil=>exact bW _
   | cons p l c=>
    rw[eV,bq,bR,add_mul,fu];have:(ext n p).length<=n:=by
     unfold ext;rw[aF];exact bI (cX _ _)<|by rw[Wd.j5];exact aP _
    lia
  unfold inj;exact bI (this _)<|by rw[Nat.pow_succ];exact Nat.mul_le_mul_right _<|La k
end Eu
namespace K69
open PySem L2 Am
open Bl
open Fw (rg)
open Eu (inj ext)
meta abbrev GN (w:ae):A:=.tup<|w.map .int
def aac{S:jB}{n:Nat}{xs ys:ab}(h1:jA S n=some xs)(h2:jA S m=some ys)(h3:xs.length+ys.length<=16777216):Ft (.ref n) [.ref m] S=.ok .non (S.set n<|.lst<|xs++ys):=by
 show opt (jA S n) _=_;rw[h1];show opt (jA S m) _=_;rw[h2];exact Up h3
theorem CP{f:A->A->bd}:∀{L:ab},(∀x∈L,f x x=some true)->pW f L L=some true
 | [],_=>rfl
 | x::L,h=>by
  show(f x x).bind (λp=>(pW f L L).map λq=>p && q)=_;rw[h x<|aJ ..,CP λy c=>h y<|aO _ c];rfl
def Z3{xs ys:ae}(h:xs.length+ys.length<=16777216):kZ (.tup<|xs.map .int) (.tup<|ys.map .int) S=.ok (.tup<|(xs++ys).map .int) S:=by
 skip
 rw[bB];exact Up<|by rw[aF,aF];exact h
def aaR{n k:Nat}(h:n<=6)(J:k<=n):n ^ k<=46656:=bI (Nat.pow_le_pow_left h k)<|bI (Nat.pow_le_pow_right ⋯ (show k<=6 by lia)) ⋯
theorem Bj{n:Nat}(h:n<=6):∀(l:List<|ae),(l.flatMap<|ext n).length<=l.length * 6
 | []=>bW _
 | p::l=>by
  rw[eV,bq,bR,add_mul,fu];have:(ext n p).length<=n:=by
   unfold ext;rw[aF];exact bI (cX _ _)<|by rw[Wd.j5];exact aP _
  have:=Bj h l
  lia
def SS{S:jB}{n:Nat}(h6:n<=6):∃(V:Nat) (S':jB),qW [.int n] S=.ok (.ref V) S'/\jA S' V=some ((inj n n).map GN)/\kO S S'/\S.length<=V:=by
 unfold qW zh zu;dsimp[jW,bools,lX,Nat.reduceAdd,Nat.reduceSub,pR<|show 0<=sizeLine from bW _];refine ED (lo:=0) (hi:=(n:Int)) (S1:=S++[O.lst [.tup []]]) (show zM _ _=_ from yJ (by dsimp[jW,bools])<|nU () ())
  (λi τ T=>∃(F:Nat) (M K G:A),τ=[.int n,.ref F,M,K,G]/\jA T F=some ((inj n i).map GN)/\kO S T/\S.length<=F)
  (λr=>∃(V:Nat) (S':jB),RS.end (RS.seq r _)=.ok (.ref V) S'/\jA S' V=some ((inj n n).map GN)/\kO S S'/\S.length<=V) ⟨S.length,_,_,_,rfl,jQ,Kp.refl.lay,aP _⟩ ?_ ?_
 ·rintro i τ T hi ⟨F,M,K,G,rfl,B,kp,C⟩;left;have lF:=mw B;have P:=kp.len;have hin:i<n:=()
  have il:=Eu.La (n:=n) i;have pw:=aaR h6 (show i<=n by lia);unfold zN;dsimp[jW,bools];have D:jA (T++[O.lst []]) F=some ((inj n i).map GN):=ki B;obtain⟨m,U,ef,hW,kU⟩:=qe (n:=F) (xs:=(inj n i).map GN) (S1:=T++[O.lst []]) (g:=jX 4) (c:=wg) (τ:=[.int n,.ref F,.int<|0+(i:Int),.ref T.length,G]) (S:=T++[O.lst []]) (show zQ _ _=_ from l_ (by dsimp[jW,bools]) D)
   (λj τ d=>(∃m,τ=[.int n,.ref F,.int<|0+(i:Int),.ref T.length,m])/\jA d F=some ((inj n i).map GN)/\jA d T.length=some ((((inj n i).take j).flatMap<|ext n).map GN)/\kO S d)
   (λr=>∃(m:A) (U:jB),r=.nx [.int n,.ref F,.int<|0+(i:Int),.ref T.length,m] U/\jA U T.length=some ((inj n<|i+1).map GN)/\kO S U) ⟨⟨_,rfl⟩,D,jQ,kp.lay⟩ (λj τ d hh=>hh.2.1) (by
    rintro j z τ d Y ⟨⟨m,rfl⟩,q,f,k⟩;rw[aK]at Y;obtain⟨p,W,rfl⟩:=aQ.mp Y;have L:=(Eu.Ak.mp<|aY W).1;refine⟨[.int n,.ref F,.int<|0+(i:Int),.ref T.length,GN p],d,rfl,.inl ?_⟩;have N:=vn (lo:=1) (hi:=(n:Int)+1) (cap:=[some 4]) (src:=nZ (eC<|.int 1)<|jH kZ (jx 0)<|eC<|.int 1) (t:=qh<|jH (Hv true) (jx 0)<|jx 1) (e:=jH kZ (jx 1)<|sQ<|jy (jx 0)<|jG) (τ:=[.int n,.ref F,.int<|0+(i:Int),.ref T.length,GN p]) (S:=d) (S1:=d)
     (tM (S1:=d) (by dsimp[jW,bools]) (by dsimp[jW,bools]) (nU () ())<|nU () ())
     (λt=>decide<|t∉p) (λt=>GN<|p++[t]) (λt _ _=>by
      have e:Hv true (.int t) (GN p) d=.ok (.bl<|decide<|t∉p) d:=by
       show opt (MQ d (.int t)<|p.map .int) _=_;rw[ug,jS];by_cases c:t∈p
       ·rw[bg c,bH λz=>z c];rfl
       ·rw[bH c,bg c];rfl
      dsimp[jW,bools,e]) (λt _ _ _=>by
      have e:kZ (GN p) (.tup [.int t]) d=.ok (GN<|p++[t]) d:=Z3 (ys:=[t]) (by rw[L];show _+1<=_;lia);dsimp[jW,bools,pJ<|show([_]:ab).length<=16777216 by simp,e]) ()
    have ee:(((lB 1<|(n:Int)+1).filter λt=>decide<|t∉p).map λt=>GN<|p++[t])=(ext n p).map GN:=by unfold ext;rw[bC];rfl
    rw[ee]at N;have ht:(inj n i).take (j+1)=(inj n i).take j++[p]:=by
     obtain⟨hj,e⟩:=aG.mp W;rw[List.take_succ_eq_append_getElem hj,e]
    have fl1:=Bj h6<|(inj n i).take j;have J:=Bj h6 [p];rw[eV,ja,cj]at J;have htl:((inj n i).take j).length<=46656:=by rw[cu];lia
    have Z:=aac (S:=d++[.lst<|(ext n p).map GN]) (ki f) jQ (by
     rw[aF,aF];have:[p].length=1:=rfl
     lia)
    have lW:=mw f;unfold wg;dsimp[jW,bools,f,N,Z];refine⟨_,_,rfl,⟨_,rfl⟩,?_,?_,k.lay.set<|.inr P⟩
    ·rw[kM ()];exact ki q
    ·rw[pK<|by rw[bq];exact bU lW<|Nat.le_add_right _ _,ht,d7,bB,eV,ja,cj]) (by
    rintro τ d ⟨⟨m,rfl⟩,q,f,k⟩;rw[aF,b8]at f;exact⟨m,d,rfl,f,k⟩)
  rw[ef];dsimp[jW,bools];exact⟨_,_,rfl,T.length,_,_,_,rfl,hW,kU,P⟩
 ·rintro τ T ⟨F,M,K,G,rfl,B,kp,C⟩;rw[show((n:Int)-0).toNat=n by lia]at B;dsimp[jW,bools];exact⟨F,T,rfl,B,kp,C⟩
end K69
namespace K69
open PySem L2 Am
abbrev Jb (r:ae)(x:Int):ae:=(lB 0 (r.length:Int)).filter λk=>decide<|r.getD k.toNat 0>x
meta abbrev AM:=List<|ae
abbrev tw (k:Int):Nat->AM->AM->Int->Nat->Option (AM×AM)
 | 0,_,_,_,_=>none
 | f+1,T0,Q0,x,p=>
  let T:=if p=T0.length then T0++[[]]else T0
  let Q:=if p=T0.length then Q0++[[]]else Q0
  if p<T.length/\p<Q.length/\T.length<=10/\Q.length<=10/\(T.getD p []).length<=10/\(Q.getD p []).length<=10 then
   match Jb (T.getD p []) x with
   | []=>some (T.set p<|T.getD p []++[x],Q.set p<|Q.getD p []++[k+1])
   | s::_=>tw k f (T.set p<|(T.getD p []).set s.toNat x) Q ((T.getD p []).getD s.toNat 0)<|p+1
  else none
structure Tw (B:Nat)(S:jB)(n m:Nat)(rs qs:ag)(T Q:AM):Prop where
 t:Tab S n rs T
 q:Tab S m qs Q
 dj:∀r∈n::rs,r∉m::qs
 ge:∀r,r∈n::rs\/r∈m::qs->B<=r
def Tw.wB{B n:Nat}(h:Tw B S n m rs qs T Q)(k:kO S S'):Tw B S' n m rs qs T Q:=⟨h.t.wB k,h.q.wB k,h.dj,h.ge⟩
def Tw.aaD{B n i r:Nat}{S:jB}{T:AM}{ys:ae}(h:Tw B S n m rs qs T Q)(hi:rs[i]?=some r):Tw B (S.set r<|.lst<|ys.map .int) n m rs qs (T.set i ys) Q/\Kp (λr=>B<=r) S (S.set r<|.lst<|ys.map .int):=by
 have c:r∈n::rs:=aO _<|aY hi;refine⟨⟨h.t.set hi,h.q.kp (show Kp (·=r) S _ from Kp.refl.tV<|.inl rfl) λa ha z=>h.dj r c<|z ▸ ha,h.dj,h.ge⟩,Kp.refl.tV<|.inl<|h.ge r<|.inl c⟩
def Tw.ac2{B n i r:Nat}{S:jB}{Q:AM}{ys:ae}(h:Tw B S n m rs qs T Q)(hi:qs[i]?=some r):Tw B (S.set r<|.lst<|ys.map .int) n m rs qs T (Q.set i ys)/\Kp (λr=>B<=r) S (S.set r<|.lst<|ys.map .int):=by
 have c:r∈m::qs:=aO _<|aY hi;refine⟨⟨h.t.kp (show Kp (·=r) S _ from Kp.refl.tV<|.inl rfl) λa ha z=>h.dj a ha<|z ▸ c,h.q.set hi,h.dj,h.ge⟩,Kp.refl.tV<|.inl<|h.ge r<|.inr c⟩
def Tw.Wr{B n:Nat}{S:jB}(h:Tw B S n m rs qs T Q):Tw B ((S++[O.lst []]).set n<|.lst<|(rs++[S.length]).map .ref) n m (rs++[S.length]) qs (T++[[]]) Q/\Kp (λr=>B<=r) S ((S++[O.lst []]).set n<|.lst<|(rs++[S.length]).map .ref):=by
 have hn:=h.ge n<|.inl<|aJ ..;have ln:=h.t.lt n<|aJ ..;have k:Kp (·=n) S ((S++[O.lst []]).set n<|.lst<|(rs++[S.length]).map .ref):=Kp.refl.lay.tV<|.inl rfl;refine⟨⟨h.t.push (ys:=[]),h.q.kp k λa ha z=>h.dj n (aJ ..)<|z ▸ ha,λr c d=>?_,λr c=>?_⟩,Kp.refl.lay.tV<|.inl hn⟩
 ·rcases bw.mp c with z|z
  ·exact h.dj r (by rw[z];exact aJ ..) d
  ·rcases bJ.mp z with z|z
   ·exact h.dj r (aO _ z) d
   ·have:=h.q.lt r d;rw[aW.mp z]at this;exact dQ _ this
 ·rcases c with c|c
  ·rcases bw.mp c with z|z
   ·rw[z];exact hn
   ·rcases bJ.mp z with z|z
    ·exact h.ge r (.inl<|aO _ z)
    ·rw[aW.mp z];lia
  ·exact h.ge r<|.inr c
def Tw.sw{B n:Nat}(h:Tw B S n m rs qs T Q):Tw B S m n qs rs Q T:=⟨h.q,h.t,λr c d=>h.dj r d c,λr c=>h.ge r c.symm⟩
def Yx{B n p:Nat}{T Q:AM}{row:A}(h:Tw B S n m rs qs T Q)(U:T.length<=10)(Z:Q.length<=10) :
  ∃(rs' qs':ag) (S':jB),vg (qh<|jH (s_ false) (jx 5)<|jZ (f1 nL)<|jy (jx 1) jG) (jT (mC<|CI lV (jx 1)<|jy (pN jG) jG)<|mC<|CI lV (jx 2)<|jy (pN jG) jG) pO [row,.ref n,.ref m,x3,x4,.int p,x6] S=.nx [row,.ref n,.ref m,x3,x4,.int p,x6] S' /\
   Tw B S' n m rs' qs' (if p=T.length then T++[[]]else T) (if p=T.length then Q++[[]]else Q)/\Kp (λr=>B<=r) S S':=by
 have g:=h.t.top;have ln:=h.t.len;have J:=h.q.len;by_cases c:p=T.length
 ·have D:((p:Int) == ((rs.length:Nat):Int))=true:=by rw[jk,ln,c]
  obtain⟨h1,F⟩:=h.Wr;obtain⟨S1,d⟩:∃S1,S1=(S++[O.lst []]).set n (.lst<|(rs++[S.length]).map .ref):=⟨_,rfl⟩;rw[<- d]at h1 F;obtain⟨h2,G⟩:=h1.sw.Wr;refine⟨_,_,_,?_,by rw[aR c,aR c];exact h2.sw,F.trans G⟩;have f:∀T:jB,newL ([]:ab) T=.ok (.ref T.length) (T++[.lst []]):=λT=>pJ (show 0<=16777216 by decide);have C:jA (S++[O.lst []]) n=some (rs.map .ref):=ki g;have j:jA (S1++[O.lst []]) m=some (qs.map .ref):=ki h1.q.top;have k:∀{T:jB} {a:Nat} {xs:ab},jA T a=some xs->(A.ref a).lst? T=some xs:=λz=>z;dsimp[jW,lA,bools,g,aF,D,k g,f,C,mV<|show rs.length<16777216 by lia,mV<|show qs.length<16777216 by lia];rw[show(S++[O.lst []]).set n (.lst<|rs.map A.ref++[.ref S.length])=S1 by rw[d,bB];rfl];dsimp[jW,lA,bools,h1.q.top,f,j,aF,mV<|show qs.length<16777216 by lia,bB];rfl
 ·have D:((p:Int) == ((rs.length:Nat):Int))=false:=by rw[cB,ln];lia
  refine⟨rs,qs,S,?_,by rw[aN c,aN c];exact h,Kp.refl⟩;dsimp[jW,lA,bools,g,aF,D]
end K69
namespace K69
open PySem L2 Am
def Vo{a b:Nat}{xs:ab}(h:jA S a=some xs)(h':jA S b=some []):rQ S 12 (.ref a) (.ref b)=some xs.isEmpty:=by
 show(jA S a).bind (λxs=>(jA S b).bind λys=>pW (rQ S 11) xs ys)=_;rw[h,bQ,h',bQ]
 cases xs<;>rfl
def TX{B n p r q:Nat}{S:jB}{T Q:AM}{x k:Int}{row:A}(h:Tw B S n m rs qs T Q)(hr:rs[p]?=some r)(hq:qs[p]?=some q)(hR:(T.getD p []).length<=10)(hQ:(Q.getD p []).length<=10)(bS:B<=S.length) :
  ∃(y4:A) (p':Nat) (y6:A) (S':jB) (T' Q':AM),jT (j7 (j8 [none,some 4,some 1,some 5] (t7<|jZ (f1 nL)<|jy (jH m_ (jx 1)<|jx 5) jG) (jX 0) (qh<|jH GB (jH m_ (jH m_ (jx 2)<|jx 3)<|jx 0)<|jx 1)<|jx 0)<|jX 6)
 (vg (qh<|jH (s_ false) (jx 6)<|pN jG)
 (jT (mC<|CI lV (jH m_ (jx 1)<|jx 5)<|jy (jx 4) jG)
 (jT (mC<|CI lV (jH m_ (jx 2)<|jx 5)<|jy (jH kZ (jx 3)<|eC<|.int 1) jG)
 (j7 (eC .non)<|jX 4)))
 (jT (j7 (sQ<|jy (jH m_ (jH m_ (jx 1)<|jx 5)<|jH m_ (jx 6)<|eC<|.int 0)<|jy (jx 4) jG)<|x_ 2<|pM (jX 4)<|pM (V6 (jH m_ (jx 1)<|jx 5)<|jH m_ (jx 6)<|eC<|.int 0) xZ)
 (j7 (jH kZ (jx 5)<|eC<|.int 1)<|jX 5))) [row,.ref n,.ref m,.int k,.int x,.int p,x6] S=.nx [row,.ref n,.ref m,.int k,y4,.int p',y6] S'/\Tw B S' n m rs qs T' Q'/\Kp (λr=>B<=r) S S' /\
   ((Jb (T.getD p []) x=[]/\y4=.non/\T'=T.set p (T.getD p []++[x])/\Q'=Q.set p (Q.getD p []++[k+1]))\/∃s t,Jb (T.getD p []) x=s::t/\y4=.int ((T.getD p []).getD s.toNat 0)/\p'=p+1/\T'=T.set p ((T.getD p []).set s.toNat x)/\Q'=Q):=by
 obtain⟨hp,c⟩:=h.t.rows.get hr;obtain⟨hpq,G⟩:=h.q.rows.get hq;have L:sN (rs.map A.ref) (p:Int)=some (.ref r):=zF rfl (by rw[aK,hr];rfl);have a2:sN (qs.map A.ref) (p:Int)=some (.ref q):=zF rfl (by rw[aK,hq];rfl);have tp:=h.t.top;have tq':=h.q.top;generalize hRR:T.getD p []=R at *
 generalize hQQ:Q.getD p []=U at *
 have K:=vn (lo:=0) (hi:=(R.length:Int)) (cap:=[some 4,some 1,some 5]) (t:=qh<|jH GB (jH m_ (jH m_ (jx 2)<|jx 3)<|jx 0)<|jx 1) (e:=jx 0) (τ:=[row,.ref n,.ref m,.int k,.int x,.int p,x6]) (src:=t7<|jZ (f1 nL)<|jy (jH m_ (jx 1)<|jx 5) jG) (S:=S) (S1:=S)
  (yJ (by dsimp[jW,lA,bools,tp,L,c,aF])<|nU () ()) (λk=>decide<|R.getD k.toNat 0>x) A.int
  (λk k0 Y=>by
   have:=O2 (r:=R) (i:=k) (k:=k.toNat) () ();show qh (jH GB (jH m_ (jH m_ (jx 2)<|jx 3)<|jx 0)<|jx 1) [.int k,.int x,.ref n,.int p] S=_;dsimp[jW,lA,bools,tp,L,c,this]) (λk _ _ _=>by
   show jx 0 (.int k::_) S=_;dsimp[jW,lA]) ()
 obtain⟨S1,F⟩:∃S1,S1=S++[O.lst<|(Jb R x).map .int]:=⟨_,rfl⟩;have K:j8 [none,some 4,some 1,some 5] (t7<|jZ (f1 nL)<|jy (jH m_ (jx 1)<|jx 5) jG) (jX 0) (qh<|jH GB (jH m_ (jH m_ (jx 2)<|jx 3)<|jx 0)<|jx 1) (jx 0) [row,.ref n,.ref m,.int k,.int x,.int p,x6] S=.ok (.ref S.length) S1:=by rw[F];exact K
 have Y:kO S S1:=by rw[F];k_ne
 have g1:jA S1 S.length=some ((Jb R x).map .int):=by rw[F];exact jQ
 obtain⟨S2,j⟩:∃S2,S2=S1++[O.lst []]:=⟨_,rfl⟩;have Z:newL ([]:ab) S1=.ok (.ref S1.length) S2:=by rw[j];exact pJ (show 0<=16777216 by decide)
 have W:kO S1 S2:=by rw[j];k_ne
 have g2:jA S2 S1.length=some []:=by rw[j];exact jQ
 have M:=W.lst _ _ (λz=>z) g1;have g:=HJ<|Vo M g2;have d:=Y.trans W;have h2:=h.wB d;have J:=h2.t.top;have N:=h2.q.top;have f:=d.lst _ _ (λz=>z) c;have D:=d.lst _ _ (λz=>z) G;have rq:r≠q:=λz=>h.dj r (aO _<|aY hr) (by rw[z];exact aO _<|aY hq);have rm:r≠m:=λz=>h.dj r (aO _<|aY hr) (by rw[z];exact aJ ..)
 cases hs:Jb R x with
 | nil=>
  rw[hs]at g;obtain⟨h3,P⟩:=h2.aaD (ys:=R++[x]) hr;obtain⟨h4,k4⟩:=h3.ac2 (ys:=U++[k+1]) hq;refine⟨.non,p,.ref S.length,_,_,_,?_,h4,(d.of0.trans P).trans k4,.inl ⟨rfl,rfl,rfl,rfl⟩⟩;have V:jA (S2.set r<|.lst<|R.map A.int++[.int x]) m=some (qs.map .ref):=rO (by rw[bG rm];exact jP N);have C:jA (S2.set r<|.lst<|R.map A.int++[.int x]) q=some (U.map .int):=rO (by rw[bG rq];exact jP D);have g:s_ false (.ref S.length) (.ref S1.length) S2=.ok (.bl true) S2:=g;dsimp[jW,lA,bools,↓K,Z,g,J,L,f,aF,mV<|show R.length<16777216 by lia,V,a2,C,mV<|show U.length<16777216 by lia,bB,bF,d9]
 | cons s t=>
  rw[hs]at g M;have ms:s∈Jb R x:=by rw[hs];exact aJ ..
  have ms:=o6.mp (bO.mp ms).1;have g:s_ false (.ref S.length) (.ref S1.length) S2=.ok (.bl false) S2:=g;rw[bF]at M;have e1:sN (R.map A.int) s=some (.int<|R.getD s.toNat 0):=O2 (k:=s.toNat) () ();have e2:DY R.length s=some s.toNat:=B0 () ();obtain⟨h3,P⟩:=h2.aaD (ys:=R.set s.toNat x) hr;refine⟨.int<|R.getD s.toNat 0,p+1,.ref S.length,_,_,_,?_,h3,d.of0.trans P,.inr ⟨s,t,rfl,rfl,rfl,rfl,rfl⟩⟩;dsimp[jW,lA,bools,↓K,Z,g,J,L,f,M,xg,e1,BX,aF,e2,iN];rfl
end K69
namespace K69
open PySem L2 Am
def adQ{x:Int}:IW true (.int x) .non S=.ok (.bl true) S:=rfl
def adO:IW true .non .non S=.ok (.bl false) S:=rfl
def Lw{t:Te}{c:Am.Sm}{N:Nat}(h:t τ S=.ok true S)(hb:c τ S=.nx τ' S'):nS t c (N+1) τ S=nS t c N τ' S':=by
 conv=>lhs;unfold nS
 rw[h];show(match c τ S with
  | .nx τ' S'=>nS t c N τ' S'
  | .ct τ' S'=>nS t c N τ' S'
  | .bk τ' S'=>.nx τ' S'
  | r=>r)=_
 rw[hb]
def Vm{t:Te}{c:Am.Sm}{N:Nat}(h:t τ S=.ok false S):nS t c (N+1) τ S=.nx τ S:=by
 conv=>lhs;unfold nS
 rw[h];rfl
theorem Pk{B n:Nat}{row:A}{k:Int}{res:AM×AM}:∀(f N:Nat) {S:jB}{rs qs:ag}{T Q:AM}{x:Int}{p:Nat}{x6:A},f+1<=N->tw k f T Q x p=some res->Tw B S n m rs qs T Q->B<=S.length ->
  ∃(y4 y5 y6:A) (rs' qs':ag) (S':jB),nS nK o_ N [row,.ref n,.ref m,.int k,.int x,.int p,x6] S=.nx [row,.ref n,.ref m,.int k,y4,y5,y6] S'/\Tw B S' n m rs' qs' res.1 res.2/\Kp (λr=>B<=r) S S'
 | 0,_,_,_,_,_,_,_,_,_,_,h,_,_=>nomatch h
 | f+1,0,_,_,_,_,_,_,_,_,hN,_,_,_=>absurd hN (Nat.not_succ_le_zero _)
 | f+1,N+1,S,rs,qs,T,Q,x,p,x6,hN,h,hT,bS=>by
  obtain⟨C,d⟩:∃C,C=(if p=T.length then T++[[]]else T):=⟨_,rfl⟩;obtain⟨Q',j⟩:∃Q',Q'=(if p=T.length then Q++[[]]else Q):=⟨_,rfl⟩;unfold tw at h;dsimp only at h;rw[<- d,<- j]at h;by_cases g:p<C.length/\p<Q'.length/\C.length<=10/\Q'.length<=10/\(C.getD p []).length<=10/\(Q'.getD p []).length<=10
  case neg=>rw[aN g]at h;cases h
  rw[aR g]at h;obtain⟨g1,g2,L,G,g5,Z⟩:=g;have lT:T.length<=10:=by
   by_cases c:p=T.length
   ·rw[d,aR c,bq]at L;lia
   ·rw[d,aN c]at L;exact L
  have lQ:Q.length<=10:=by
   by_cases c:p=T.length
   ·rw[j,aR c,bq]at G;lia
   ·rw[j,aN c]at G;exact G
  obtain⟨rs',qs',S1,V,h1,F⟩:=Yx (p:=p) (x3:=.int k) (x4:=.int x) (x6:=x6) (row:=row) hT lT lQ;rw[<- d,<- j]at h1;have l1:=h1.t.len;have l2:=h1.q.len;have O:=F.len;obtain⟨y4,M,y6,S2,T2,Q2,Y,h2,D,cs⟩:=TX (x:=x) (k:=k) (row:=row) (x6:=x6) h1 (aH<|show p<rs'.length by lia) (aH<|show p<qs'.length by lia) g5 Z ();have P:=D.len;have hb:o_ [row,.ref n,.ref m,.int k,.int x,.int p,x6] S=.nx [row,.ref n,.ref m,.int k,y4,.int M,y6] S2:=by
   unfold o_;dsimp[jW,↓V];exact Y
  have t0:nK [row,.ref n,.ref m,.int k,.int x,.int p,x6] S=.ok true S:=by
   unfold nK;dsimp[jW,lA,bools,adQ]
  rcases cs with⟨c1,rfl,rfl,rfl⟩|⟨s,t,c1,rfl,rfl,rfl,rfl⟩
  ·rw[c1]at h
   cases h
   obtain⟨U,rfl⟩:∃U,N=U+1:=⟨N-1,()⟩;refine⟨.non,.int M,y6,rs',qs',S2,?_,h2,F.trans D⟩;rw[Lw t0 hb];exact Vm (by
    unfold nK;dsimp[jW,lA,bools,adO])
  ·rw[c1]at h;obtain⟨W,z5,z6,J,K,S3,x3,h3,k3⟩:=Pk f N (x6:=y6) () h h2 ();refine⟨W,z5,z6,J,K,S3,?_,h3,(F.trans D).trans k3⟩;rw[Lw t0 hb];exact x3
abbrev B5:Nat->ae->AM->AM->Option (AM×AM)
 | _,[],T,Q=>some (T,Q)
 | k,x::xs,T,Q=>match tw (k:Int) 20 T Q x 0 with
  | some r=>B5 (k+1) xs r.1 r.2
  | none=>none
theorem G6:∀(xs:ae) (k:Nat) (x:Int) (T Q:AM),B5 k (xs++[x]) T Q=(B5 k xs T Q).bind λr=>(tw ((k+xs.length:Nat):Int) 20 r.1 r.2 x 0).bind λr=>some (r.1,r.2)
 | [],k,x,T,Q=>by
  show(match tw (k:Int) 20 T Q x 0 with
   | some r=>B5 (k+1) [] r.1 r.2
   | none=>none)=_
  show _=(tw ((k+0:Nat):Int) 20 T Q x 0).bind _;rw[Nat.add_zero]
  cases tw (k:Int) 20 T Q x 0<;>rfl
 | y::xs,k,x,T,Q=>by
  show(match tw (k:Int) 20 T Q y 0 with
   | some r=>B5 (k+1) (xs++[x]) r.1 r.2
   | none=>none)=Option.bind (match tw (k:Int) 20 T Q y 0 with
   | some r=>B5 (k+1) xs r.1 r.2
   | none=>none) _
  cases tw (k:Int) 20 T Q y 0 with
  | none=>rfl
  | some r=>
   show B5 (k+1) (xs++[x]) r.1 r.2=(B5 (k+1) xs r.1 r.2).bind _;rw[G6 xs (k+1) x r.1 r.2,bR,show k+1+xs.length=k+(xs.length+1)by lia]
def Uo {xs ys:ae}{k:Nat}{T Q:AM}(h:B5 k (xs++ys) T Q≠none):B5 k xs T Q≠none:=by
 revert k T Q
 induction xs with
 | nil=>intro k T Q _ z;cases z
 | cons x xs c=>
  intro k T Q h z;revert h z;show(match tw (k:Int) 20 T Q x 0 with
   | some r=>B5 (k+1) (xs++ys) r.1 r.2
   | none=>none)≠none->(match tw (k:Int) 20 T Q x 0 with
   | some r=>B5 (k+1) xs r.1 r.2
   | none=>none)=none->False
  cases tw (k:Int) 20 T Q x 0 with
  | none=>exact λh _=>h rfl
  | some r=>exact λh z=>c h z
def Sb{S:jB}{res:AM×AM}(h:B5 0 o [] []=some res) :
  ∃(n m:Nat) (rs qs:ag) (S':jB),kP [tq o] S=.ok (.tup [.ref n,.ref m]) S'/\Tw S.length S' n m rs qs res.1 res.2/\kO S S':=by
 obtain⟨S1,g⟩:∃S1,S1=S++[O.lst []]:=⟨_,rfl⟩;have V:kO S S1:=by rw[g];k_ne
 have l1:jA S1 S.length=some []:=by rw[g];exact jQ
 have n1:S1.length=S.length+1:=by rw[g,bq];rfl
 have F:newL ([]:ab) S=.ok (.ref S.length) S1:=by rw[g];exact pJ (show 0<=16777216 by decide)
 obtain⟨S2,k⟩:∃S2,S2=S1++[O.lst []]:=⟨_,rfl⟩;have K:kO S1 S2:=by rw[k];k_ne
 have Y:jA S2 S1.length=some []:=by rw[k];exact jQ
 have D:newL ([]:ab) S1=.ok (.ref S1.length) S2:=by rw[k];exact pJ (show 0<=16777216 by decide)
 have h0:Tw S.length S2 S.length S1.length [] [] [] []:=⟨Tab.nil<|K.lst _ _ (λz=>z) l1,Tab.nil Y,(λr B N=>by rw[aW.mp B]at N;have:=aW.mp N;lia),λr B=>by
  rcases B with z|z
  ·rw[aW.mp z];exact aP _
  ·rw[aW.mp z];lia⟩
 have t:∃(q j f d:A) (rs qs:ag) (S':jB),ku rf (x_ 2<|pM (jX 3)<|pM (jX 4) xZ) rG [tq o,.ref S.length,.ref S1.length,.unb,.unb,.unb,.unb] S2=.nx [tq o,.ref S.length,.ref S1.length,q,j,f,d] S'/\Tw S.length S' S.length S1.length rs qs res.1 res.2/\Kp (λr=>S.length<=r) S2 S':=by
  refine Zx (xs:=o.map .int) (S1:=S2) (show rf _ _=_ from Yl<|by dsimp[jW,lA,uq];rfl)
   (λi τ T=>∃(q j f d:A) (rs qs:ag) (r:AM×AM),τ=[tq o,.ref S.length,.ref S1.length,q,j,f,d]/\B5 0 (o.take i) [] []=some r/\Tw S.length T S.length S1.length rs qs r.1 r.2/\Kp (λr=>S.length<=r) S2 T)
   (λZ=>∃(q j f d:A) (rs qs:ag) (S':jB),Z=.nx [tq o,.ref S.length,.ref S1.length,q,j,f,d] S'/\Tw S.length S' S.length S1.length rs qs res.1 res.2/\Kp (λr=>S.length<=r) S2 S')
   ⟨_,_,_,_,[],[],([],[]),rfl,by rw[iW];rfl,h0,Kp.refl⟩ ?_ ?_
  ·rintro i z τ T P ⟨q,j,f,d,rs,qs,r,rfl,e,J,kp⟩;rw[aK]at P;obtain⟨x,M,rfl⟩:=aQ.mp P;have hi:=(aG.mp M).1;have e1:o.take (i+1)=o.take i++[x]:=by rw[b6,M];rfl
   have ne:B5 0 (o.take<|i+1) [] []≠none:=by
    refine Uo (ys:=o.drop<|i+1) ?_;rw[g_,h];exact λz=>nomatch z
   have e2:=G6 (o.take i) 0 x [] [];rw[e,cu,cC,Nat.min_eq_left<|d8 hi]at e2;have e2:B5 0 (o.take i++[x]) [] []=(tw (i:Int) 20 r.1 r.2 x 0).bind λr=>some (r.1,r.2):=e2
   cases c:tw (i:Int) 20 r.1 r.2 x 0 with
   | none=>rw[c,<- e1]at e2;exact absurd e2 ne
   | some r2=>
    rw[c,<- e1]at e2;have len:=kp.len;have L:S2.length=S1.length+1:=by rw[k,bq];rfl
    obtain⟨W,z5,z6,C,G,T1,U,h1,q1⟩:=Pk (row:=tq o) (p:=0) (x6:=d) 20 1000000 ⋯ c J ();refine⟨[tq o,.ref S.length,.ref S1.length,.int i,.int x,f,d],T,rfl,.inl ⟨[tq o,.ref S.length,.ref S1.length,.int i,W,z5,z6],T1,?_,_,_,_,_,C,G,r2,rfl,e2,h1,kp.trans q1⟩⟩;unfold rG;dsimp[jW,lA,bools];exact U
  ·rintro τ T ⟨q,j,f,d,rs,qs,r,rfl,e,J,kp⟩;rw[aF,b8,h]at e
   cases e
   exact⟨q,j,f,d,rs,qs,T,rfl,J,kp⟩
 obtain⟨q,j,f,d,rs,qs,S3,x3,h3,k3⟩:=t;refine⟨S.length,S1.length,rs,qs,S3,?_,h3,(V.trans K).old k3 λn hn _ z=>()⟩;unfold kP uw uF;dsimp[jW,lA,bools,lX,Nat.reduceAdd,Nat.reduceSub,F,D,↓x3,BX,Ls]
end K69
namespace Am
open Su (Es En)
open Po (Pl iv)
abbrev fzO:O->O
 | .dct c=>.dcf c
 | .nQ c=>.dkf c
 | o=>o
def Qx(o:O):fzO (fzO o)=fzO o:=by cases o<;>rfl
structure Kz (P Q:Nat->Prop)(S S':jB):Prop where
 len:S.length<=S'.length
 obj:∀(n:Nat) (o:O),¬P n->S[n]?=some o->S'[n]?=some o\/(¬Q n/\S'[n]?=some (fzO o))
section
variable {P Q P' Q':Nat->Prop}{S S1 S2:jB}{n:Nat}
def Kp.kz(h:Kp P S S1):Kz P Q S S1:=⟨h.len,λn o a b=>.inl<|h.obj n o a b⟩
def Kz.refl:Kz P Q S S:=Kp.refl.kz
def Kz.old(h:Kz P Q S S1)(h':Kz P' Q' S1 S2)(J:∀n,n<S.length->¬P n->¬P' n)(U:∀n,n<S.length->Q n->Q' n):Kz P Q S S2:=⟨bI h.len h'.len,λn o hn e=>by
 have lt:=yY e;have f:=J n lt hn
 rcases h.obj n o hn e with z|⟨q,z⟩
 ·rcases h'.obj n o f z with y|⟨d,y⟩
  ·exact .inl y
  ·exact .inr ⟨λc=>d<|U n lt c,y⟩
 ·rcases h'.obj n _ f z with y|⟨d,y⟩
  ·exact .inr ⟨q,y⟩
  ·exact .inr ⟨q,by rw[y,Qx]⟩⟩
def Kz.trans(h:Kz P Q S S1)(h':Kz P Q S1 S2):Kz P Q S S2:=h.old h' (λ_ _ z=>z) λ_ _ z=>z
def Kz.lst(h:Kz P Q S S1)(hb:¬P n)(e:jA S n=some xs):jA S1 n=some xs:=rO<|by rcases h.obj n _ hb (jP e)with z|⟨_,z⟩<;>exact z
def Kz.dct(h:Kz P Q S S1)(hb:¬P n)(J:Q n)(e:jV S n=some xs):jV S1 n=some xs:=qZ (by
 rcases h.obj n _ hb (lN e)with z|⟨q,_⟩
 ·exact z
 ·exact absurd J q)
def Kz.dk(h:Kz P Q S S1)(hb:¬P n)(J:Q n)(e:kc S n=some xs):kc S1 n=some xs:=rY (by
 rcases h.obj n _ hb (mD e)with z|⟨q,_⟩
 ·exact z
 ·exact absurd J q)
def E9(h:lz S n=some kvs):S[n]?=some (.dct kvs)\/S[n]?=some (.dcf kvs):=by
 unfold lz at h;split at h
 ·rename_i e;cases h;exact .inl e
 ·rename_i e;cases h;exact .inr e
 ·cases h
def Ig(h:S[n]?=some (.dct kvs)\/S[n]?=some (.dcf kvs)):lz S n=some kvs:=by
 unfold lz
 rcases h with z|z<;>rw[z]
def BC(h:j_ S n=some kvs):S[n]?=some (.nQ kvs)\/S[n]?=some (.dkf kvs):=by
 unfold j_ at h;split at h
 ·rename_i e;cases h;exact .inl e
 ·rename_i e;cases h;exact .inr e
 ·cases h
def DO(h:S[n]?=some (.nQ kvs)\/S[n]?=some (.dkf kvs)):j_ S n=some kvs:=by
 unfold j_
 rcases h with z|z<;>rw[z]
def wK(h:jV S n=some kvs):lz S n=some kvs:=Ig<|.inl<|lN h
def xR(h:kc S n=some kvs):j_ S n=some kvs:=DO<|.inl<|mD h
def Kz.dcr(h:Kz P Q S S1)(hb:¬P n)(e:lz S n=some xs):lz S1 n=some xs:=Ig (by
 rcases E9 e with e|e<;>rcases h.obj n _ hb e with z|⟨_,z⟩
 ·exact .inl z
 ·exact .inr z
 ·exact .inr z
 ·exact .inr z)
def Kz.Sd(h:Kz P Q S S1)(hb:¬P n)(e:j_ S n=some xs):j_ S1 n=some xs:=DO (by
 rcases BC e with e|e<;>rcases h.obj n _ hb e with z|⟨_,z⟩
 ·exact .inl z
 ·exact .inr z
 ·exact .inr z
 ·exact .inr z)
def Kz.fz{f:O}(h:Kz P Q S S1)(hf:∀o,S1[n]?=some o->fzO o=f)(J:¬Q n\/S.length<=n):Kz P Q S (S1.set n f):=⟨by rw[cz];exact h.len,λm o d e=>by
 by_cases c:n=m
 ·subst c;have lt:=yY e;have g:¬Q n:=J.elim id λz=>absurd lt ();refine .inr ⟨g,?_⟩;rw[bK<|bU lt h.len]
  rcases h.obj n o d e with z|⟨_,z⟩
  ·rw[hf _ z]
  ·have:=hf _ z;rw[Qx]at this;rw[this]
 ·rw[bG c];exact h.obj m o d e⟩
def Kz.fzD(h:Kz P Q S S1)(hn:lz S1 n=some kvs)(J:¬Q n\/S.length<=n):Kz P Q S (S1.set n<|.dcf kvs):=h.fz (λo e=>by
 rcases E9 hn with z|z<;>rw[z]at e<;>cases e<;>rfl) J
def Kz.fzK(h:Kz P Q S S1)(hn:j_ S1 n=some kvs)(J:¬Q n\/S.length<=n):Kz P Q S (S1.set n<|.dkf kvs):=h.fz (λo e=>by
 rcases BC hn with z|z<;>rw[z]at e<;>cases e<;>rfl) J
def GQ(h:j_ S n=some kvs):j_ (S.set n<|.dkf kvs) n=some kvs:=DO<|.inr<|bK<|AD h
def zg(h:jV S n=some xs)(h':j_ S m=some ys):m≠n:=λz=>by
 subst z;have e:=lN h
 rcases BC h' with z|z<;>rw[z]at e<;>cases e
end
structure Rw (Q:Nat->Prop)(T:jB)(r:Nat)(es:Es):Prop where
 l:lz T r=some (es.map Su.kv)
 a:∀e∈es,j_ T e.2.1=some (iv e.2.2)/\¬Q e.2.1
 q:¬Q r
def Rw.go{G J P Q':Nat->Prop}{T:jB}{r:Nat}(h:Rw G T r es)(k:Kz P Q' T T')(U:∀n,n<T.length->P n->G n)(hg:∀n,n<T.length->J n->G n):Rw J T' r es:=by
 have d:=NX h.l;refine⟨k.dcr (λz=>h.q<|U _ d z) h.l,λe f=>?_,λz=>h.q<|hg _ d z⟩;obtain⟨a,b⟩:=h.a e f;have c:=AD a;exact⟨k.Sd (λz=>b<|U _ c z) a,λz=>b<|hg _ c z⟩
structure Md (T:jB)(M c:Nat)(D:Es):Prop where
 dd:jV T M=some (D.map Su.kv)
 aa:∀e∈D,kc T e.2.1=some (iv e.2.2)
 ap:Su.Ap D
 np:∀e∈D,(e.2.2.map Prod.fst).Nodup
 ln:∀e∈D,e.2.2.length<=c
abbrev ow (M:Nat)(D:Es)(x:Nat):Prop:=x=M\/∃e∈D,e.2.1=x
def Md.O0{T:jB}{c x:Nat}{D:Es}(h:Md T M c D)(z:ow M D x):x<T.length:=by
 rcases z with z|⟨e,d,z⟩
 ·rw[z];exact Su.oJ h.dd
 ·rw[<- z];exact C3<|h.aa e d
def Md.kz{P Q:Nat->Prop}{c:Nat}{D:Es}(h:Md T M c D)(k:Kz P Q T T')(J:∀x,ow M D x->¬P x/\Q x):Md T' M c D:=
 ⟨k.dct (J _<|.inl rfl).1 (J _<|.inl rfl).2 h.dd,λe d=>k.dk (J _<|.inr ⟨e,d,rfl⟩).1 (J _<|.inr ⟨e,d,rfl⟩).2<|h.aa e d,h.ap,h.np,h.ln⟩
def Md.mono{c:Nat}{D:Es}(h:Md T M c D)(l:c<=c'):Md T M c' D:=⟨h.dd,h.aa,h.ap,h.np,λe d=>bI (h.ln e d) l⟩
def eW9:jx 9 (x0::x1::x2::x3::x4::x5::x6::x7::x8::x9::xs) S=uV x9 S:=oh
def Qk:jx 10 (x0::x1::x2::x3::x4::x5::x6::x7::x8::x9::x10::xs) S=uV x10 S:=oh
def adh{a:A}:jX 10 a (x0::x1::x2::x3::x4::x5::x6::x7::x8::x9::x10::xs) S=.ok (x0::x1::x2::x3::x4::x5::x6::x7::x8::x9::a::xs) S:=rfl
def Vf:jx 11 (x0::x1::x2::x3::x4::x5::x6::x7::x8::x9::x10::x11::xs) S=uV x11 S:=oh
def aa8{a:A}:jX 11 a (x0::x1::x2::x3::x4::x5::x6::x7::x8::x9::x10::x11::xs) S=.ok (x0::x1::x2::x3::x4::x5::x6::x7::x8::x9::x10::a::xs) S:=rfl
def WY{n:Nat}(h:lz S n=some kvs):dr? (.ref n) S=some Unit.unit:=by
 show(if ((j_ S n).isSome || (lz S n).isSome)=true then some Unit.unit else none)=_;rw[h];simp
def Qy{n:Nat}(h:j_ S n=some kvs):dr? (.ref n) S=some Unit.unit:=by
 show(if ((j_ S n).isSome || (lz S n).isSome)=true then some Unit.unit else none)=_;rw[h];simp
def Ge{n:Nat}{o:ae}:w6 (.ref n) [.tup<|o.map .int,y] S=opt (lz S n) λkvs=>.ok ((kH kvs o).getD y) S:=by
 show opt (lz S n) (λkvs=>opt (A.ints<|o.map .int) λk=>_)=_;rw[ints_map];rfl
def AU{n:Nat}{k:Int}:u7 (.ref n) [.int k,y] S=opt (j_ S n) λkvs=>.ok ((lD kvs k).getD y) S:=rfl
def AA{n:Nat}{k:Int}:Cj (.ref n) (.int k) S=opt (j_ S n) λkvs=>opt (lD kvs k) λv=>.ok v S:=rfl
def KU{n:Nat}{o:ae}:zV (.ref n) (.tup<|o.map .int) S=opt (lz S n) λkvs=>opt (kH kvs o) λv=>.ok v S:=by
 show opt (lz S n) (λkvs=>opt (A.ints<|o.map .int) λk=>_)=_;rw[ints_map];rfl
def J8{c:Ex}{S1:jB}{n:Nat}{p:Pl}(h:c τ S=.ok (.ref n) S1)(hn:j_ S1 n=some (iv p)):ND c τ S=.ok (o8<|p.map λq=>.int q.1) (S1.set n<|.dkf<|iv p):=by
 unfold ND;rw[h,R.nk];show opt (j_ S1 n) _=_;rw[hn,jS];unfold iv;rw[bC];rfl
def EN{c:Ex}{S1:jB}{n:Nat}{es:Es}(h:c τ S=.ok (.ref n) S1)(hn:lz S1 n=some (es.map Su.kv)):MA c τ S=.ok (o8<|es.map λe=>.tup<|e.1.map .int) (S1.set n<|.dcf<|es.map Su.kv):=by
 unfold MA;rw[h,R.nk];show opt (lz S1 n) _=_;rw[hn,jS,bC];rfl
end Am
namespace Kl
open Su Po He
open Fw (rg)
def F9{D:Ps}(h:(D.map Prod.fst).Nodup)(o:ae)(t:Int):cS D o t=cf (vS D o) t:=by
 rcases vd (D:=D) (o:=o)with⟨e,c,e1,e2⟩|⟨e1,e2⟩
 ·rw[e2,<- e1];exact Fc h c t
 ·rw[e2];exact yk λe c z=>e1<|by rw[<- z];exact aX.mpr ⟨e,c,rfl⟩
def K8{D:Ps}{p:Pl}(h:(D.map Prod.fst).Nodup):((zB D o p).map Prod.fst).Nodup:=by
 rw[C6];split
 ·exact h
 ·rename_i c;rw[bN];refine⟨h,by simp,λa ha b hb e=>?_⟩;rw[aW.mp hb]at e;exact c<|QZ.mpr<|by rw[<- e];exact ha
def SW{D:Ps}{p:Pl}(h:(D.map Prod.fst).Nodup)(u:ae)(t:Int):cS (zB D o p) u t=if u=o then cf p t else cS D u t:=by
 rw[F9<|K8 h,SE];split
 ·rfl
 ·rw[F9 h]
def _root_.Su.Ap.put2{D:Es}{r:Nat}{p:Pl}(h:Ap D)(J:∀e∈D,e.1≠o->e.2.1≠r):Ap (mL D o r p):=by
 unfold mL;split
 ·refine cN.mpr<|h.imp_of_mem λ{a b} ha hb hab=>?_;by_cases c:a.1=o
  ·rw[aR c];have c2:b.1≠o:=λz=>hab.1<|c.trans z.symm;rw[aN c2];exact⟨hab.1,λz=>J b hb c2 z.symm⟩
  ·rw[aN c];by_cases c2:b.1=o
   ·rw[aR c2];exact⟨hab.1,λz=>J a ha c z⟩
   ·rw[aN c2];exact hab
 ·rename_i hn;have no:∀e∈D,e.1≠o:=λe d z=>hn (by unfold fE;rw[fP];exact⟨e,d,bg z⟩);refine List.pairwise_append.mpr ⟨h,c5 _ _,λa ha b hb=>?_⟩;rw[aW.mp hb];exact⟨no a ha,J a ha<|no a ha⟩
def Rr{D:Es}{r:Nat}{p:Pl}{e:En}(h:e∈mL D o r p):(e∈D/\e.1≠o)\/e=(o,r,p):=by
 unfold mL at h;split at h
 ·obtain⟨f,hf,rfl⟩:=aX.mp h;by_cases c:f.1=o
  ·rw[aR c,c];exact .inr rfl
  ·rw[aN c];exact .inl ⟨hf,c⟩
 ·rename_i hn
  rcases bJ.mp h with z|z
  ·exact .inl ⟨z,λc=>hn<|by unfold fE;rw[fP];exact⟨e,z,bg c⟩⟩
  ·exact .inr<|aW.mp z
theorem Qc(s m:Int)(t:Int):∀p:Pl,cf (p.map λq=>(q.1+s,m * q.2)) t=m * cf p (t-s)
 | []=>(fH m).symm
 | q::p=>by
  show(if q.1+s=t then m * q.2 else 0)+cf (p.map _) t=m * ((if q.1=t-s then q.2 else 0)+cf p (t-s));rw[Qc s m t p,ju];congr 1;by_cases c:q.1+s=t
  ·rw[aR c,aR ()]
  ·rw[aN c,aN (),fH]
def VW{d:Pl}(h:(d.map Prod.fst).Nodup)(t:Int):cf (pP d ps) t=cf d t+cf ps t:=by
 rw[<- zp (rW ps h),v9,zp h]
theorem Jq(t:Int):∀p:Pl,cf (p.filter λq=>q.2 != 0) t=cf p t
 | []=>rfl
 | q::p=>by
  rw[fZ];show _=(if q.1=t then q.2 else 0)+cf p t;by_cases c:q.2=0
  ·rw[aN<|by simp[c],Jq t p,c,ite_self,cP]
  ·rw[aR<|by simp[c]];show(if q.1=t then q.2 else 0)+cf (p.filter _) t=_;rw[Jq t p]
def N8{p:Pl}(h:(p.map Prod.fst).Nodup){i:Nat}{q:Int×Int}(J:p[i]?=some q):(p.take<|i+1).filter (λq=>q.2 != 0)=if q.2≠0 then put ((p.take i).filter λq=>q.2 != 0) q.1 q.2 else(p.take i).filter λq=>q.2 != 0:=by
 rw[b6,J,List.filter_append];show _++[q].filter _=_;by_cases c:q.2=0
 ·rw[aN<|by simp[c]];simp[c]
 ·rw[aR c];have t:has ((p.take i).filter λq=>q.2 != 0) q.1=false:=by
   rw[Bool.eq_false_iff];intro z;obtain⟨f,hf,e⟩:=aX.mp<|uh.mp z;have g:=(bO.mp hf).1;obtain⟨j,d⟩:=fN.mp g;have lt:j<i:=by
    have:=(aG.mp d).1;rw[cu]at this;lia
   rw[eW lt]at d;have e1:(p.map Prod.fst)[j]?=some q.1:=by rw[aK,d,<- e];rfl
   have e2:(p.map Prod.fst)[i]?=some q.1:=by rw[aK,J];rfl
   obtain⟨C,k⟩:=aG.mp e1;obtain⟨B,m⟩:=aG.mp e2;have:=(cI h).mp (k.trans m.symm)
   lia
  unfold put;rw[aN<|by rw[t];exact br];simp[c]
abbrev Gv (D:Ps):Ps:=(D.map λe=>(e.1,e.2.filter λq=>q.2 != 0)).filter λe=>!e.2.isEmpty
theorem NY(o:ae)(t:Int):∀D:Ps,cS (Gv D) o t=cS D o t
 | []=>rfl
 | e::D=>by
  have c:=NY o t D;unfold Gv at c ⊢;rw[bF,fZ];show _=(if e.1=o then cf e.2 t else 0)+cS D o t
  cases hf:e.2.filter (λq=>q.2 != 0)with
  | nil=>
   rw[aN<|by simp,c,<- Jq t e.2,hf];show _=(if e.1=o then 0 else 0)+_;rw[ite_self,cP]
  | cons q l=>
   rw[aR<|by simp];show(if e.1=o then cf (q::l) t else 0)+cS _ o t=_;rw[c,<- hf,Jq t e.2]
def Xr{D:Ps}(h:Nd D):Nd (Gv D):=by
 refine⟨?_,λe c=>?_⟩
 ·have:((D.map λe=>(e.1,e.2.filter λq=>q.2 != 0)).map Prod.fst)=D.map Prod.fst:=by rw[bC];rfl
  exact List.Sublist.nodup (List.Sublist.map _ List.filter_sublist)<|by rw[this];exact h.nd
 ·obtain⟨f,hf,rfl⟩:=aX.mp (bO.mp c).1;exact List.Sublist.nodup (List.Sublist.map _ List.filter_sublist)<|h.np f hf
def Yj{D:Ps}:∀e∈Gv D,∀q∈e.2,q.2≠0:=λe c q d=>by
 obtain⟨f,hf,rfl⟩:=aX.mp (bO.mp c).1;have:=(bO.mp d).2;simpa using this
def ZZ{D:Ps}:∀e∈Gv D,e.2≠[]:=λe c z=>by
 have:=(bO.mp c).2;rw[z]at this;cases this
def Xv{D:Ps}{P:ae->Prop}(h:∀e∈D,P e.1):∀e∈Gv D,P e.1:=λe c=>by
 obtain⟨f,hf,rfl⟩:=aX.mp (bO.mp c).1;exact h f hf
def JE(a b:Ps):Gv (a++b)=Gv a++Gv b:=by unfold Gv;rw[bB,List.filter_append]
end Kl
namespace K69
open PySem L2 Am
open Po (Pl Ok iv)
open Su (Es En)
open Fw (rg)
def NR{S:jB}{a:Nat}{p d:Pl}{s m:Int}{q:Int×Int}{z:A}(J:kc S h=some (iv d))(ha:j_ S a=some (iv p))(U:lD (iv p) q.1=some (.int q.2))(Z:d.length<16777216)(hm:m.natAbs<big)(hq:q.2.natAbs<big) :
  r9 [.ref M,o',.ref a,.int s,.int m,.ref h,.int q.1] S=.nx [.ref M,o',.ref a,.int s,.int m,.ref h,.int q.1] (S.set h<|.nQ<|iv<|Po.acc d (q.1+s)<|m * q.2):=by
 unfold r9;dsimp[jW,bools,Af,EV,J,eL,yg,Po.zI,AA,ha,U,ab0 hm hq,Ag,yq,mV<|show(iv d).length<16777216 by rw[EC];exact Z,Po.yQ];rfl
def Q9{T:jB}{a:Nat}{p d0:Pl}{s m:Int}(ha:j_ T a=some (iv p))(J:kc T h=some (iv d0))(ne:h≠a)(U:(p.map Prod.fst).Nodup)(hl:d0.length+p.length<16777216)(Z:m.natAbs<big)(hp:∀q∈p,q.2.natAbs<big) :
  ∃(y:A) (T':jB),ku vj (jX 6) r9 [.ref M,o',.ref a,.int s,.int m,.ref h,z] T=.nx [.ref M,o',.ref a,.int s,.int m,.ref h,y] T'/\kc T' h=some (iv<|Po.pP d0<|p.map λq=>(q.1+s,m * q.2))/\Kp (·=h) (T.set a<|.dkf<|iv p) T':=by
 obtain⟨T1,c⟩:∃T1,T1=T.set a (O.dkf<|iv p):=⟨_,rfl⟩;rw[<- c];have B:j_ T1 a=some (iv p):=by rw[c];exact GQ ha
 have h1:kc T1 h=some (iv d0):=rY (by rw[c,bG<|Ne.symm ne];exact mD J);refine wN (xs:=p.map λq=>A.int q.1) (S1:=T1) (show vj _ _=_ from by rw[c];exact J8 (by dsimp[jW,bools]) ha) (λi τ S=>∃y,τ=[.ref M,o',.ref a,.int s,.int m,.ref h,y]/\kc S h=some (iv<|Po.pP d0<|(p.take i).map λq=>(q.1+s,m * q.2))/\Kp (·=h) T1 S)
  (λr=>∃y T',r=.nx [.ref M,o',.ref a,.int s,.int m,.ref h,y] T'/\kc T' h=some (iv<|Po.pP d0<|p.map λq=>(q.1+s,m * q.2))/\Kp (·=h) T1 T') ⟨_,rfl,h1,Kp.refl⟩ ?_ ?_
 ·rintro i C τ S j ⟨y,rfl,hS,kp⟩;rw[aK]at j;obtain⟨q,g,rfl⟩:=aQ.mp j;have f:=aY g;have k:j_ S a=some (iv p):=(kp.kz (Q:=λ_=>True)).Sd (λz=>ne z.symm) B;have t:lD (iv p) q.1=some (.int q.2):=by rw[Po.wD<|aX.mpr ⟨q,f,rfl⟩,Kl.yC U f]
  have d:=Po.rC ((p.take i).map λq=>(q.1+s,m * q.2)) d0;have D:=(aG.mp g).1;rw[aF,cu]at d;refine⟨[.ref M,o',.ref a,.int s,.int m,.ref h,.int q.1],S,rfl,.inl ⟨_,_,NR (z:=y) hS k t () Z<|hp q f,⟨_,rfl,?_,kp.tV<|.inl rfl⟩⟩⟩;rw[Fp<|C3 hS,b6,g,bB,Po.yD];rfl
 ·rintro τ S ⟨y,rfl,hS,kp⟩;rw[aF,b8]at hS;exact⟨y,S,rfl,hS,kp⟩
def VG{T:jB}{c a:Nat}{D:Es}{o:ae}{p:Pl}{s m:Int}(h:Md T M c D)(ha:j_ T a=some (iv p))(na:¬ow M D a)(np:(p.map Prod.fst).Nodup)(l21:p.length<=21)(hm:m.natAbs<big)(hp:∀q∈p,q.2.natAbs<big)(hD:D.length<16777216)(hc:c+21<16777216) :
  ∃(T':jB) (D':Es),mZ [.ref M,.tup<|o.map .int,.ref a,.int s,.int m] T=.ok .non T'/\Md T' M (c+21) D'/\(∀u t,Su.cS (Su.sm D') u t=Su.cS (Su.sm D) u t+if o=u then m * Po.cf p (t-s)else 0)/\(∀e∈D',e.1=o\/∃f∈D,f.1=e.1)/\(∀x,ow M D' x->ow M D x\/T.length<=x)/\Kz (ow M D) (·≠a) T T':=by
 obtain⟨T1,B⟩:∃T1,T1=T++[O.nQ []]:=⟨_,rfl⟩;have J:kO T T1:=by rw[B];k_ne
 have n1:kc T1 T.length=some (iv []):=by rw[B];exact ud
 have a1:j_ T1 a=some (iv p):=(J.kz (Q:=λ_=>True)).Sd (λz=>z) ha;have alt:=AD ha;have Mlt:=Su.oJ h.dd;have F:((Su.sm D).map Prod.fst).Nodup:=by
  have:=h.ap.nd
  rwa [show(Su.sm D).map Prod.fst=D.map Prod.fst from by unfold Su.sm;rw[bC];rfl]
 obtain⟨j,d0,g1,g2,g3,g4,g5,g6,N⟩:∃(j:Nat) (d0:Pl),(kH (D.map Su.kv) o).getD (.ref T.length)=.ref j/\kc T1 j=some (iv d0)/\(d0.map Prod.fst).Nodup/\d0.length<=c/\(∀t,Po.cf d0 t=Su.cS (Su.sm D) o t)/\(∀e∈D,e.1≠o->e.2.1≠j)/\(j=T.length\/∃e∈D,e.2.1=j):=by
  cases hf:Su.fE D o with
  | none=>
   refine⟨T.length,[],by rw[Su.nP,hf];rfl,n1,cT,bW _,λt=>?_,λe d _=>bD<|C3<|h.aa e d,.inl rfl⟩;rw[Kl.F9 F,Su.E3,hf];rfl
  | some e=>
   obtain⟨d,rfl⟩:=Su.pB hf;refine⟨e.2.1,e.2.2,by rw[Su.nP,hf];rfl,J.dk _ _ (λz=>z)<|h.aa e d,h.np e d,h.ln e d,λt=>?_,λf U ne=>h.ap.at f U e d ne,.inr ⟨e,d,rfl⟩⟩;rw[Kl.F9 F,Su.E3,hf];rfl
 have V:j≠a:=by
  rcases N with z|z
  ·lia
  ·exact λq=>na<|.inr<|by rw[<- q];exact z
 have L:j≠M:=by
  rcases N with z|⟨e,d,z⟩
  ·lia
  ·rw[<- z];exact zg h.dd<|xR<|h.aa e d
 have aM:a≠M:=zg h.dd ha;obtain⟨y,T3,x3,d3,P⟩:=Q9 (M:=M) (o':=.tup<|o.map .int) (z:=.unb) a1 g2 V np () hm hp (s:=s);obtain⟨T2,k⟩:∃T2,T2=T1.set a (O.dkf<|iv p):=⟨_,rfl⟩;rw[<- k]at P;have z1:Kz (ow M D) (·≠a) T T1:=J.of0.kz;have z2:Kz (ow M D) (·≠a) T T2:=by rw[k];exact z1.fzK a1 (.inl λz=>z rfl)
 have z3:Kz (ow M D) (·≠a) T T3:=z2.old (P.kz (Q:=λ_=>True)) (λn hn g e=>by
  rcases N with z|z
  ·lia
  ·exact g<|.inr<|by rw[e];exact z) λ_ _ _=>trivial
 have M2:jV T2 M=some (D.map Su.kv):=qZ (by rw[k,bG aM];exact lN<|J.dct _ _ (λz=>z) h.dd);have Z:jV T3 M=some (D.map Su.kv):=P.dct _ _ (Ne.symm L) M2;obtain⟨G,g⟩:∃G,G=Po.pP d0 (p.map λq=>(q.1+s,m * q.2)):=⟨_,rfl⟩;rw[<- g]at d3;obtain⟨K,C⟩:∃K,K=T3.set M (O.dct<|(Su.mL D o j G).map Su.kv):=⟨_,rfl⟩;have st:yw (.ref M) (.tup<|o.map .int) (.ref j) T3=.ok Unit.unit K:=by
  rw[Su.tW,Z,jS,Su.Ba (p:=G),C];exact mV<|show(D.map Su.kv).length<16777216 by rw[aF];exact hD
 have W:Kp (·=M) T3 K:=by rw[C];exact Kp.refl.tV (.inl rfl)
 refine⟨K,Su.mL D o j G,?_,⟨by rw[C];exact Su.wJ<|Su.oJ Z,λe d=>?_,h.ap.put2 g6,λe d=>?_,λe d=>?_⟩,λu t=>?_,λe d=>?_,λx hx=>?_,z3.old (W.kz (Q:=λ_=>True)) (λn _ hn e=>hn<|.inl e) λ_ _ _=>trivial⟩
 ·unfold mZ yZ yT;dsimp[jW,bools,lX,Nat.reduceAdd,Nat.reduceSub,z0,WY<|wK h.dd,qV,<- B,Ge,wK<|J.dct _ _ (λz=>z) h.dd,g1,x3,Su.ur,st]
 ·rcases Kl.Rr d with⟨z,ne⟩|z
  ·have e1:=h.aa e z;have Y:e.2.1≠a:=λq=>na<|.inr ⟨e,z,q⟩;have e2:kc T2 e.2.1=some (iv e.2.2):=rY (by rw[k,bG<|Ne.symm Y];exact mD<|J.dk _ _ (λz=>z) e1);have e3:=P.dk _ _ (g6 e z ne) e2;exact W.dk _ _ (zg Z<|xR e3) e3
  ·rw[z];exact W.dk _ _ L d3
 ·rcases Su.nM d with z|z
  ·exact h.np e z
  ·rw[z,g];exact Po.rW _ g3
 ·rcases Su.nM d with z|z
  ·exact bI (h.ln e z) ()
  ·rw[z];show G.length<=_;have:=Po.rC (p.map λq=>(q.1+s,m * q.2)) d0;rw[aF]at this;rw[g];lia
 ·rw[Su.El,Kl.SW F];by_cases c:u=o
  ·rw[aR c,aR c.symm,g,Kl.VW g3,Kl.Qc,c,g5]
  ·rw[aN c,aN λz=>c z.symm,c9]
 ·rcases Su.nM d with z|z
  ·exact .inr ⟨e,z,rfl⟩
  ·rw[z];exact .inl rfl
 ·rcases hx with z|⟨e,d,z⟩
  ·exact .inl (.inl z)
  ·rcases Su.nM d with q|q
   ·exact .inl (.inr ⟨e,q,z⟩)
   ·rw[q]at z;have z:j=x:=z
    rcases N with w|w
    ·right;lia
    ·left;right;rw[<- z];exact w
def X3{T:jB}{a:Nat}{p:Pl}(ha:j_ T a=some (iv p))(np:(p.map Prod.fst).Nodup)(hl:p.length<16777216) :
  ∃(T':jB),kj [.ref a] T=.ok (.ref T.length) T'/\kc T' T.length=some (iv<|p.filter λq=>q.2 != 0)/\Kz (λ_=>False) (·≠a) T T':=by
 obtain⟨T1,f⟩:∃T1,T1=T++[O.nQ []]:=⟨_,rfl⟩;have B:kO T T1:=by rw[f];k_ne
 have K:kc T1 T.length=some (iv []):=by rw[f];exact ud
 have m:j_ T1 a=some (iv p):=(B.kz (Q:=λ_=>True)).Sd (λz=>z) ha;have M:=AD ha;obtain⟨T2,d⟩:∃T2,T2=T1.set a (O.dkf<|iv p):=⟨_,rfl⟩;have V:j_ T2 a=some (iv p):=by rw[d];exact GQ m
 have Y:kc T2 T.length=some (iv []):=rY (by rw[d,bG ()];exact mD K);have g:∃(y:A) (T':jB),ku mJ (jX 2) mE [.ref a,.ref T.length,.unb] T1=.nx [.ref a,.ref T.length,y] T'/\kc T' T.length=some (iv<|p.filter λq=>q.2 != 0)/\Kp (·=T.length) T2 T':=by
  refine wN (xs:=p.map λq=>A.int q.1) (S1:=T2) (show mJ _ _=_ from by rw[d];exact J8 (by dsimp[jW,bools]) m) (λi τ S=>∃y,τ=[.ref a,.ref T.length,y]/\kc S T.length=some (iv<|(p.take i).filter λq=>q.2 != 0)/\Kp (·=T.length) T2 S)
   (λr=>∃y T',r=.nx [.ref a,.ref T.length,y] T'/\kc T' T.length=some (iv<|p.filter λq=>q.2 != 0)/\Kp (·=T.length) T2 T') ⟨_,rfl,Y,Kp.refl⟩ ?_ ?_
  ·rintro i Z τ S J ⟨y,rfl,hS,kp⟩;rw[aK]at J;obtain⟨q,G,rfl⟩:=aQ.mp J;have D:=aY G;have t:j_ S a=some (iv p):=(kp.kz (Q:=λ_=>True)).Sd () V;have F:lD (iv p) q.1=some (.int q.2):=by rw[Po.wD<|aX.mpr ⟨q,D,rfl⟩,Kl.yC np D]
   have C:((p.take i).filter λq=>q.2 != 0).length<=p.length:=by
    have h1:=cX (λq:Int×Int=>q.2 != 0)<|p.take i;rw[cu]at h1;lia
   refine⟨[.ref a,.ref T.length,.int q.1],S,rfl,.inl ?_⟩;have j:=Kl.N8 np G;unfold mE;by_cases c:q.2=0
   ·have k:(q.2 == 0)=true:=jk.mpr c;rw[aN λz=>z c]at j;refine⟨[.ref a,.ref T.length,.int q.1],S,?_,_,rfl,by rw[j];exact hS,kp⟩;dsimp[jW,lA,bools,AA,t,F,k,b7]
   ·have k:(q.2 == 0)=false:=cB.mpr c;rw[aR c]at j;refine⟨[.ref a,.ref T.length,.int q.1],_,?_,_,rfl,?_,kp.tV (o:=.nQ<|iv<|Po.put ((p.take i).filter λq=>q.2 != 0) q.1 q.2)<|.inl rfl⟩
    ·dsimp[jW,lA,bools,AA,t,F,k,cU,Ag,yq,hS,mV<|show(iv<|(p.take i).filter λq=>q.2 != 0).length<16777216 by rw[EC];lia,Po.yQ]
    ·rw[Fp<|C3 hS,j]
  ·rintro τ S ⟨y,rfl,hS,kp⟩;rw[aF,b8]at hS;exact⟨y,S,rfl,hS,kp⟩
 obtain⟨y,T3,L,N,U⟩:=g;have P:Kz (λ_=>False) (·≠a) T T1:=B.kz;have W:Kz (λ_=>False) (·≠a) T T2:=by rw[d];exact P.fzK m (.inl λz=>z rfl)
 refine⟨T3,?_,N,W.old (U.kz (Q:=λ_=>True)) (λn hn _ e=>()) λ_ _ _=>trivial⟩;unfold kj m9 ng;dsimp[jW,bools,lX,Nat.reduceAdd,Nat.reduceSub,qV,<- f,L]
def QA(k:Nat)(x:Int):(lD (sO [((k:Int),A.int<|(k:Int)+1)] ((k:Int)+1)<|.int k) x).getD (.int x)=.int (Wd.sw k x):=by
 have e:sO [((k:Int),A.int<|(k:Int)+1)] ((k:Int)+1) (.int k)=iv [((k:Int),(k:Int)+1),((k:Int)+1,(k:Int))]:=by
  have:=Po.yQ [((k:Int),(k:Int)+1)] ((k:Int)+1) k;refine Eq.trans this<|cH iv ?_;unfold Po.put;rw[aN<|by simp[Po.has];lia];rfl
 rw[e,Po.Ao];unfold Wd.sw;by_cases c:x=k
 ·subst c;rw[aR rfl,b5,bg<|show((k:Int),(k:Int)+1).1=(k:Int)from rfl];rfl
 ·by_cases d:x=(k:Int)+1
  ·subst d;rw[aN c,aR rfl,b5,bH<|show ¬((k:Int),(k:Int)+1).1=(k:Int)+1 from λz=>c z.symm,b5,bg<|show((k:Int)+1,(k:Int)).1=(k:Int)+1 from rfl];rfl
  ·rw[aN c,aN d];simp[show ¬(k:Int)=x from λz=>c z.symm,show ¬(k:Int)+1=x from λz=>d z.symm]
abbrev swA (k:Nat)(x:A):A:=match x with
 | .int i=>.int (Wd.sw k i)
 | v=>v
def Ql{o:ae}{k:Nat}(J:o.length<=1000):∃T',mh [.tup<|o.map .int,.int k] T=.ok (.tup<|(o.map<|Wd.sw k).map .int) T'/\kO T T':=by
 obtain⟨c,e1,g⟩:=Ae (s:=o8<|o.map .int) (xs:=o.map .int) (cap:=[some 1]) (src:=ly<|jx 0) (t:=nN) (e:=yf u7 (VZ (jx 1) (jH kZ (jx 1)<|eC<|.int 1) (jH kZ (jx 1)<|eC<|.int 1)<|jx 1)<|jy (jx 0)<|jy (jx 0) jG) (τ:=[.tup<|o.map .int,.int k]) (S:=T) (S1:=T)
  (Xb<|by dsimp[jW,bools]) rfl (λ_=>False) (λ_ _ _ _=>rfl) (λ_ _=>rfl) (λ_=>true) (swA k) (λx d U _=>by
   obtain⟨i,_,rfl⟩:=aX.mp d;refine⟨U,rfl,Kp.refl,λ_=>⟨U++[.nQ<|sO [((k:Int),A.int<|(k:Int)+1)] ((k:Int)+1)<|.int k],?_,Kp.refl.lay⟩⟩;have r:j_ (U++[O.nQ<|sO [((k:Int),A.int<|(k:Int)+1)] ((k:Int)+1)<|.int k]) U.length=some (sO [((k:Int),A.int<|(k:Int)+1)] ((k:Int)+1)<|.int k):=xR ud;dsimp[jW,bools,z0,Ve,Qy r,AU,r,QA];rfl) (by rw[aF];lia)
 have e2:((o.map A.int).filter λ_=>true).map (swA k)=(o.map<|Wd.sw k).map .int:=by
  rw[iL.mpr λ_ _=>rfl,bC,bC];rfl
 rw[e2]at e1;refine⟨c++[.lst<|(o.map<|Wd.sw k).map .int],?_,g.lay⟩;have f:jA (c++[O.lst<|(o.map<|Wd.sw k).map .int]) c.length=some ((o.map<|Wd.sw k).map .int):=jQ;unfold mh sU sW;dsimp[jW,bools,lX,Nat.reduceAdd,Nat.reduceSub,e1,f]
def eix{co:Ex}{d:qu}{o:ae}{v:Int}(h1:co τ S=.ok (.tup<|o.map .int) S)(h2:d τ S=.ok [.int v] S)(h:v∈o):Bf co d τ S=.ok (.int (o.idxOf v:Nat)) S:=by
 have e:o.findIdx? (· == v)=some (o.idxOf v):=by
  cases hf:o.findIdx? (· == v)with
  | none=>
   rw[List.findIdx?_eq_none_iff]at hf;have:=hf v h;simp at this
  | some k=>rw[<- (List.findIdx?_eq_some_iff_findIdx_eq.mp hf).2];rfl
 have e2:(o.map A.int).findIdx? (λz=>eqF z<|.int v)=some (o.idxOf v):=by
  rw[List.findIdx?_map];exact e
 have c:(o.map A.int).all A.flat=true:=by rw[all_map];exact di.mpr λ_ _=>rfl
 unfold Bf;rw[h1,R.nk];show opt (some<|o.map A.int) _=_;rw[jS,h2,R.nk];unfold ZM;rw[show A.seq S (.tup<|o.map .int)=some (o.map .int)from rfl];dsimp[jS,pR<|show A.flat (.int v)=true/\(o.map A.int).all A.flat=true from⟨rfl,c⟩,e2]
def V8{N k:Nat}{o:ae}(J:o.Perm<|rg N)(h0:1<=k)(h1:k<N):decide (((o.idxOf (k:Int):Nat):Int)>((o.idxOf ((k:Int)+1):Nat):Int))=Kl.xY k o:=by
 have lo:=mG J;unfold Kl.xY Su.pF;have g:∀i,i<N->(He.bk o).getD i 0=((o.idxOf ((i:Int)+1):Nat):Int)+1:=λi c=>by
  unfold He.bk;rw[aL,aK,dc ()];rfl
 rw[g (k-1) (),g k (),show((k-1:Nat):Int)+1=k by lia];exact eo.mpr ()
def LB{N:Nat}{o:ae}(J:o.Perm<|rg N){v:Int}(h1:1<=v)(h2:v<=N):v∈o:=J.mem_iff.mpr<|o6.mpr ()
abbrev Rp (N:Nat)(o:ae):ae:=(lB 1 (N:Int)).filter λk=>Kl.xY k.toNat o
def UL{S:jB}{N:Nat}{o:ae}(J:o.Perm<|rg N)(U:N<=20):j8 [none,some 0] (nZ (eC<|.int 1)<|jZ (f1 nL)<|jy (jx 0) jG) (jX 0) (qh<|jH GB (Bf (jx 1)<|jy (jx 0) jG)<|Bf (jx 1)<|jy (jH kZ (jx 0)<|eC<|.int 1) jG) (jx 0) (.tup (o.map .int)::cap) S=.ok (.ref S.length) (S++[.lst<|(Rp N o).map .int]):=by
 have lo:=mG J;have f:=vn (lo:=1) (hi:=(N:Int)) (cap:=[some 0]) (src:=nZ (eC<|.int 1)<|jZ (f1 nL)<|jy (jx 0) jG) (t:=qh<|jH GB (Bf (jx 1)<|jy (jx 0) jG)<|Bf (jx 1)<|jy (jH kZ (jx 0)<|eC<|.int 1) jG) (e:=jx 0) (τ:=.tup (o.map .int)::cap) (S:=S) (S1:=S)
  (tM (S1:=S) (by dsimp[jW,bools]) (by dsimp[jW,bools,aF,lo]) (nU () ())<|nU () ())
  (λk=>Kl.xY k.toNat o) (λk=>.int k) (λk h1 h2=>by
   have d:=V8 J (k:=k.toNat) () ();rw[Int.toNat_of_nonneg ()]at d;have c:=eix (co:=jx 1) (d:=jy (jx 0) jG) (τ:=[.int k,.tup<|o.map .int]) (S:=S) (v:=k) (by dsimp[jW,bools]) (by dsimp[jW,bools])<|LB J () ();have g:=eix (co:=jx 1) (d:=jy (jH kZ (jx 0)<|eC<|.int 1) jG) (τ:=[.int k,.tup<|o.map .int]) (S:=S) (v:=k+1) (by dsimp[jW,bools]) (by dsimp[jW,bools])<|LB J () ();show qh _ [.int k,.tup<|o.map .int] S=_;dsimp[jW,bools,c,g,d]) (λk _ _ _=>by dsimp[jW,bools]) ()
 rw[f];rfl
end K69
namespace K69
open PySem L2 Am
open Po (Pl Ok iv)
open Su (Es En)
open Fw (rg)
def abr{D:Es}(nd:(D.map Prod.fst).Nodup){e:En}(J:e∈D):Su.fE D e.1=some e:=by
 obtain⟨f,hf⟩:=Su.FQ<|aX.mpr ⟨e,J,rfl⟩;rw[hf];obtain⟨a,b⟩:=Su.pB hf;obtain⟨i,d⟩:=fN.mp a;obtain⟨j,c⟩:=fN.mp J;have e1:(D.map Prod.fst)[i]?=some e.1:=by rw[aK,d,<- b];rfl
 have e2:(D.map Prod.fst)[j]?=some e.1:=by rw[aK,c];rfl
 obtain⟨p,g⟩:=aG.mp e1;obtain⟨m,k⟩:=aG.mp e2;have:=(cI nd).mp<|g.trans k.symm;subst this;rw[d]at c;exact c
def Ah(D:Es):(Su.sm D).map Prod.fst=D.map Prod.fst:=by unfold Su.sm;rw[bC];rfl
structure Kw (N:Nat)(Q:Nat->Prop)(T:jB)(d:Nat)(K:Es):Prop where
 dd:jV T d=some (K.map Su.kv)
 nd:(K.map Prod.fst).Nodup
 pm:∀e∈K,e.1.Perm (rg N)
 at_:∀e∈K,∃es,Rw (λx=>Q x\/x=d) T e.2.1 es/\Kl.LK N e.1 (Su.sm es)
def Kw.go{N d:Nat}{Q G P Q':Nat->Prop}{T:jB}{K:Es}(h:Kw N Q T d K)(k:Kz P Q' T T')(J:∀n,n<T.length->P n->Q n)(hg:∀n,n<T.length->G n->Q n)(U:¬P d)(Z:Q' d):Kw N G T' d K:=
 ⟨k.dct U Z h.dd,h.nd,h.pm,λe c=>by
  obtain⟨es,a,b⟩:=h.at_ e c;exact⟨es,a.go k (λn ln z=>.inl<|J n ln z) λn ln z=>z.imp (hg n ln) id,b⟩⟩
def Kw.many{N d:Nat}{Q:Nat->Prop}{K:Es}(J:N<5)(h:Kw N Q T d K):K.length<=120:=by
 have:=He.many (n:=N) () h.nd λo f=>by
  obtain⟨e,c,rfl⟩:=aX.mp f;exact h.pm e c
 rwa [aF]at this
def Kw.put{N d r:Nat}{Q:Nat->Prop}{K:Es}{o:ae}(Z:N<5)(h:Kw N Q T d K)(po:o.Perm<|rg N)(U:Rw (λx=>Q x\/x=d) T r es)(J:Kl.LK N o<|Su.sm es) :
  ∃T' K',yw (.ref d) (.tup<|o.map .int) (.ref r) T=.ok Unit.unit T'/\Kw N Q T' d K'/\Rw (λx=>Q x\/x=d) T' r es/\Kp (·=d) T T':=by
 have k:Kp (·=d) T (T.set d<|.dct<|(Su.mL K o r []).map Su.kv):=Kp.refl.tV<|.inl rfl;have dd:jV (T.set d<|.dct<|(Su.mL K o r []).map Su.kv) d=some ((Su.mL K o r []).map Su.kv):=Su.wJ<|Su.oJ h.dd;have f:=h.many Z;have go:∀{s:Nat} {fs:Es},Rw (λx=>Q x\/x=d) T s fs->Rw (λx=>Q x\/x=d) (T.set d<|.dct<|(Su.mL K o r []).map Su.kv) s fs:=λa=>a.go (k.kz (Q:=λ_=>True)) (λ_ _ z=>.inr z) λ_ _ z=>z;refine⟨_,Su.mL K o r [],?_,⟨dd,?_,λe J=>?_,λe c=>?_⟩,go U,k⟩
 ·rw[Su.tW,h.dd,jS,Su.Ba (p:=[])];exact mV (show(K.map Su.kv).length<16777216 by rw[aF];lia)
 ·have:=Kl.K8 (o:=o) (p:=[]) (by rw[Ah];exact h.nd:((Su.sm K).map Prod.fst).Nodup)
  rwa [<- Su.El (r:=r),Ah]at this
 ·rcases Su.nM J with z|z
  ·exact h.pm e z
  ·rw[z];exact po
 ·rcases Su.nM c with z|z
  ·obtain⟨fs,a,b⟩:=h.at_ e z;exact⟨fs,go a,b⟩
  ·rw[z];exact⟨es,go U,J⟩
structure Kin (N:Nat)(Q:Nat->Prop)(d M:Nat)(S0 T:jB)(c:Nat)(D K:Es):Prop where
 md:Md T M c D
 kw:Kw N (λx=>Q x\/ow M D x) T d K
 pm:∀e∈D,e.1.Perm (rg N)
 fr:Kz (λx=>x=d) Q S0 T
 ml:∀x,ow M D x->S0.length<=x
 dl:d<S0.length
 ql:∀x,Q x->x<S0.length
 qd:¬Q d
abbrev Gm (Q:Nat->Prop)(d M:Nat)(D:Es)(x:Nat):Prop:=(Q x\/ow M D x)\/x=d
section
variable {N d M c:Nat}{Q:Nat->Prop}{S0 T:jB}{D K:Es}
def Kin.many(J:N<5)(h:Kin N Q d M S0 T c D K):D.length<=120:=by
 have:=He.many (n:=N) () h.md.ap.nd λo g=>by
  obtain⟨e,f,rfl⟩:=aX.mp g;exact h.pm e f
 rwa [aF]at this
def Kin.go{Q':Nat->Prop}(h:Kin N Q d M S0 T c D K)(k:Kz (λ_=>False) Q' T T')(J:∀x,x<T.length->Gm Q d M D x->Q' x):Kin N Q d M S0 T' c D K/\∀r es,Rw (Gm Q d M D) T r es->Rw (Gm Q d M D) T' r es:=by
 have dT:d<T.length:=Su.oJ h.kw.dd;refine⟨⟨h.md.kz k λx f=>⟨λz=>z,J x (h.md.O0 f)<|.inl<|.inr f⟩,h.kw.go k (λ_ _ z=>z.elim) (λ_ _ z=>z) (λz=>z)<|J d dT<|.inr rfl,h.pm,h.fr.old k (λ_ _ _ z=>z) λn ln z=>J n (bU ln h.fr.len)<|.inl<|.inl z,h.ml,h.dl,h.ql,h.qd⟩,λr es g=>g.go k (λ_ _ z=>z.elim) λ_ _ z=>z⟩
def Kin.lay(h:Kin N Q d M S0 T c D K)(o:O):Kin N Q d M S0 (T++[o]) c D K/\∀r es,Rw (Gm Q d M D) T r es->Rw (Gm Q d M D) (T++[o]) r es:=
 h.go (Q':=λ_=>True) (Kp.refl.lay).kz λ_ _ _=>trivial
def Kin.wB(h:Kin N Q d M S0 T c D K)(k:kO T T'):Kin N Q d M S0 T' c D K/\∀r es,Rw (Gm Q d M D) T r es->Rw (Gm Q d M D) T' r es:=
 h.go (Q':=λ_=>True) k.kz λ_ _ _=>trivial
def Kin.fz{r:Nat}{es:Es}(h:Kin N Q d M S0 T c D K)(J:Rw (Gm Q d M D) T r es):Kin N Q d M S0 (T.set r<|.dcf<|es.map Su.kv) c D K/\∀s fs,Rw (Gm Q d M D) T s fs->Rw (Gm Q d M D) (T.set r<|.dcf<|es.map Su.kv) s fs:=
 h.go (Q':=λx=>x≠r) (Kz.refl.fzD J.l<|.inl λz=>z rfl) λx _ z e=>J.q<|by rw[<- e];exact z
def Kin.put{a:Nat}{o:ae}{p:Pl}{s m:Int}(Z:N<5)(h:Kin N Q d M S0 T c D K)(po:o.Perm<|rg N)(ha:j_ T a=some (iv p))(na:¬Gm Q d M D a)(np:(p.map Prod.fst).Nodup)(U:p.length<=21)(hm:m.natAbs<big)(hp:∀q∈p,q.2.natAbs<big)(hc:c+21<16777216) :
  ∃(T':jB) (D':Es),mZ [.ref M,.tup<|o.map .int,.ref a,.int s,.int m] T=.ok .non T'/\Kin N Q d M S0 T' (c+21) D' K/\(∀u t,Su.cS (Su.sm D') u t=Su.cS (Su.sm D) u t+if o=u then m * Po.cf p (t-s)else 0)/\∀r es,Rw (Gm Q d M D) T r es->Rw (Gm Q d M D') T' r es:=by
 obtain⟨T',D',e1,J,c1,C,j,g⟩:=VG (o:=o) (s:=s) (m:=m) h.md ha (λz=>na<|.inl<|.inr z) np U hm hp (by have:=h.many Z;lia) hc;have L:d≠a:=λz=>na<|.inr z.symm;have nd:¬ow M D d:=λz=>by have:=h.ml d z;have:=h.dl;lia
 have k:∀n,n<T.length->ow M D' n->ow M D n:=λn ln z=>(j n z).elim id λq=>absurd ln ();refine⟨T',D',e1,⟨J,h.kw.go g (λ_ _ z=>.inr z) (λn ln z=>z.imp id<|k n ln) nd L,λe F=>?_,h.fr.old g (λn ln _ z=>by have:=h.ml n z;lia) λn _ z e=>na<|.inl<|.inl<|by rw[<- e];exact z,λx G=>?_,h.dl,h.ql,h.qd⟩,c1,λr es B=>B.go g (λ_ _ z=>.inl<|.inr z) λn ln z=>z.imp (λq=>q.imp id<|k n ln) id⟩
 ·rcases C e F with z|⟨f,hf,z⟩
  ·rw[z];exact po
  ·rw[<- z];exact h.pm f hf
 ·rcases j x G with z|z
  ·exact h.ml x z
  ·have:=h.fr.len;lia
abbrev Fnw (N d f:Nat)(Fs:ab->jB->R A):Prop:=∀(Q:Nat->Prop) (T:jB) (K:Es) (o:ae),Iv.inv o<f->o.Perm (rg N)->Kw N Q T d K->(∀x,Q x->x<T.length)->¬Q d ->
  ∃(r:Nat) (c:jB) (j g:Es),Fs [.tup<|o.map .int,.ref d] T=.ok (.ref r) c/\Kw N Q c d j/\Rw (λx=>Q x\/x=d) c r g/\Kl.LK N o (Su.sm g)/\Kz (λx=>x=d) Q T c
def Kin.aan{f:Nat}{Fs:ab->jB->R A}{o:ae}(J:Fnw N d f Fs)(h:Kin N Q d M S0 T c D K)(hf:Iv.inv o<f)(U:o.Perm<|rg N) :
  ∃(r:Nat) (T':jB) (K' rs:Es),Fs [.tup<|o.map .int,.ref d] T=.ok (.ref r) T'/\Kin N Q d M S0 T' c D K'/\Rw (Gm Q d M D) T' r rs/\Kl.LK N o (Su.sm rs)/\∀s es,Rw (Gm Q d M D) T s es->Rw (Gm Q d M D) T' s es:=by
 have nd:¬ow M D d:=λz=>by have:=h.ml d z;have:=h.dl;lia
 obtain⟨r,T',K',rs,e1,m,r1,p,g⟩:=J _ T K o hf U h.kw (λx z=>z.elim (λq=>by have:=h.ql x q;have:=h.fr.len;lia) h.md.O0) λz=>z.elim h.qd nd;exact⟨r,T',K',rs,e1,⟨h.md.kz g λx j=>⟨λz=>nd<|by rw[<- z];exact j,.inr j⟩,m,h.pm,h.fr.old g (λ_ _ z=>z) λ_ _ z=>.inl z,h.ml,h.dl,h.ql,h.qd⟩,r1,p,λs es k=>k.go g (λ_ _ z=>.inr z) λ_ _ z=>z⟩
end
end K69
namespace K69
open PySem L2 Am
open Po (Pl Ok iv)
open Su (Es En)
open Fw (rg)
def X6{N:Nat}{w:ae}{m:Su.Ps}(J:N<5)(U:w.Perm<|rg N)(h:Kl.LK N w m){e:ae×Pl}(Z:e∈m)(t:Int):(Po.val e.2 t).natAbs<=Kl.Cb 10:=by
 have d:=h.kp.pm e Z;rw[h.toNd.val Z,h.K J U _ d];exact(Kl.Ff J U).fb.c _ d _
def S9{p:Pl}{t:Int}(h:Po.val p t≠0):t∈p.map Prod.fst:=by
 rw[<- Po.uh]
 cases c:Po.has p t with
 | true=>rfl
 | false=>exact absurd (Po.IY c) h
def xT{N:Nat}{w:ae}{J:Es}(h:Kl.LK N w<|Su.sm J){e:En}(U:e∈J):(e.1,e.2.2)∈Su.sm J:=aX.mpr ⟨e,U,rfl⟩
def CW{N:Nat}{w:ae}{J:Es}(h:Kl.LK N w<|Su.sm J):(J.map Prod.fst).Nodup:=by rw[<- Ah];exact h.nd
def HX{r:Nat}{es:Es}{e:En}(h:lz T r=some (es.map Su.kv))(nd:(es.map Prod.fst).Nodup)(J:e∈es):zV (.ref r) (.tup<|e.1.map .int) T=.ok (.ref e.2.1) T:=by
 rw[KU,h,jS,Su.nP,abr nd J];rfl
section
variable {N d M c:Nat}{Q:Nat->Prop}{S0 T:jB}{D K bs:Es}
def Kin.mL{R:Nat}{U:Es}{w o:ae}{e:En}{s m:Int}(Z:N<5)(h:Kin N Q d M S0 T c D K)(pw:w.Perm<|rg N)(po:o.Perm<|rg N)(hr:Rw (Gm Q d M D) T R U)(J:Kl.LK N w<|Su.sm U)(he:e∈U)(hm:m.natAbs<big)(hc:c+21<16777216) :
  ∃(T':jB) (D':Es),mZ [.ref M,.tup<|o.map .int,.ref e.2.1,.int s,.int m] T=.ok .non T'/\Kin N Q d M S0 T' (c+21) D' K/\(∀u t,Su.cS (Su.sm D') u t=Su.cS (Su.sm D) u t+if o=u then m * Po.cf e.2.2 (t-s)else 0)/\∀r es,Rw (Gm Q d M D) T r es->Rw (Gm Q d M D') T' r es:=by
 obtain⟨a,b⟩:=hr.a e he;have f:=xT J he;exact h.put Z po a b (J.np _ f) (J.len Z pw f) hm (λq g=>cQ (J.b Z pw f g).1 xH) hc
def Zh{B:Nat}{Fs:ab->jB->R A}{e:En}{w o:ae}(hN:N<5)(h:Kin N Q d M S0 T c D K)(pw:w.Perm<|rg N)(po:o.Perm<|rg N)(hb:Rw (Gm Q d M D) T B bs)(lb:Kl.LK N w<|Su.sm bs)(he:e∈bs)(h0:Po.val e.2.2 1≠0)(hr:Rw (Gm Q d M D) T W rs)(Z:Kl.LK N o<|Su.sm rs)(hc:c+21 * 120<16777216) :
  ∃(y:A) (T':jB) (D':Es),ku (qR Fs) (jX 9) (qP Fs) [x0,.ref d,x2,.ref M,x4,.ref B,.tup<|e.1.map .int,x7,.ref W,x9,x10,x11] T=.nx [x0,.ref d,x2,.ref M,x4,.ref B,.tup<|e.1.map .int,x7,.ref W,y,x10,x11] T'/\Kin N Q d M S0 T' (c+21 * 120) D' K/\(∀u t,Su.cS (Su.sm D') u t=Su.cS (Su.sm D) u t+-Po.val e.2.2 1 * Su.cS (Su.sm rs) u t)/\∀r es,Rw (Gm Q d M D) T r es->Rw (Gm Q d M D') T' r es:=by
 obtain⟨h1,p⟩:=h.fz hr;obtain⟨T1,g⟩:∃T1,T1=T.set W (O.dcf<|rs.map Su.kv):=⟨_,rfl⟩;rw[<- g]at h1 p;have ln:=Z.many hN;rw[Su.uK]at ln;have vb:=X6 hN pw lb (xT lb he) 1;refine wN (xs:=rs.map λe=>.tup<|e.1.map .int) (S1:=T1) (show qR Fs _ _=_ from by rw[g];exact EN (by dsimp[jW,bools]) hr.l)
  (λi τ S=>∃(y:A) (D':Es),τ=[x0,.ref d,x2,.ref M,x4,.ref B,.tup<|e.1.map .int,x7,.ref W,y,x10,x11]/\Kin N Q d M S0 S (c+21 * i) D' K/\(∀u t,Su.cS (Su.sm D') u t=Su.cS (Su.sm D) u t+-Po.val e.2.2 1 * Su.cS (Su.sm<|rs.take i) u t)/\∀r es,Rw (Gm Q d M D) T r es->Rw (Gm Q d M D') S r es)
  (λr=>∃(y:A) (T':jB) (D':Es),r=.nx [x0,.ref d,x2,.ref M,x4,.ref B,.tup<|e.1.map .int,x7,.ref W,y,x10,x11] T'/\Kin N Q d M S0 T' (c+21 * 120) D' K/\(∀u t,Su.cS (Su.sm D') u t=Su.cS (Su.sm D) u t+-Po.val e.2.2 1 * Su.cS (Su.sm rs) u t)/\∀r es,Rw (Gm Q d M D) T r es->Rw (Gm Q d M D') T' r es)
  ⟨_,D,rfl,h1,λu t=>by rw[iW];show _=_+_ * (0:Int);rw[fH,c9],p⟩ ?_ ?_
 ·rintro i z τ S C ⟨y,D',rfl,hS,cS,j⟩;rw[aK]at C;obtain⟨f,hf,rfl⟩:=aQ.mp C;have k:=aY hf;have V:=(aG.mp hf).1;have rS:=j _ _ hr;have q:=j _ _ hb;obtain⟨T2,F,e2,G,c2,U⟩:=hS.mL (s:=0) (m:=0-Po.val e.2.2 1) (o:=f.1) hN po (Z.kp.pm _<|xT Z k) rS Z k (by rw[Int.zero_sub,Int.natAbs_neg];exact cQ vb xH) ();have L:=HX rS.l (CW Z) k;have J:=HX q.l (CW lb) he;have P:Cj (.ref e.2.1) (.int 1) S=.ok (.int<|Po.val e.2.2 1) S:=by
   rw[AA,(q.a e he).1,jS,Po.wD<|S9 h0,jS]
  refine⟨[x0,.ref d,x2,.ref M,x4,.ref B,.tup<|e.1.map .int,x7,.ref W,.tup<|f.1.map .int,x10,x11],S,rfl,.inl ⟨[x0,.ref d,x2,.ref M,x4,.ref B,.tup<|e.1.map .int,x7,.ref W,.tup<|f.1.map .int,x10,x11],T2,?_,.tup<|f.1.map .int,F,rfl,by rw[mul_add,<- i8];exact G,λu t=>?_,λr es z=>U r es<|j r es z⟩⟩
  ·unfold qP;dsimp[jW,lA,bools,eW9,L,J,P,e2]
  ·rw[c2,cS,b6,hf,Su.xS];rw[Su.xW,ju,<- eZ];congr 1;show(if f.1=u then(0-Po.val e.2.2 1) * Po.cf f.2.2 (t-0)else 0)=-Po.val e.2.2 1 * ((if f.1=u then Po.cf f.2.2 t else 0)+0);rw[c9,jj,Int.zero_sub];split
   ·rfl
   ·rw[fH]
 ·rintro τ S ⟨y,D',rfl,hS,cS,j⟩;rw[aF,b8]at cS;rw[aF]at hS;exact⟨y,S,D',rfl,⟨hS.md.mono (),hS.kw,hS.pm,hS.fr,hS.ml,hS.dl,hS.ql,hS.qd⟩,cS,j⟩
def T8{B k f:Nat}{Fs:ab->jB->R A}{e:En}{w:ae}{x6:A}(hN:N<5)(ih:Fnw N d f Fs)(h:Kin N Q d M S0 T c D K)(pw:w.Perm<|rg N)(hb:Rw (Gm Q d M D) T B bs)(lb:Kl.LK N w<|Su.sm bs)(he:e∈bs)(hf:Po.val e.2.2 1≠0->Iv.inv e.1<f)(k1:1<=k)(k2:k<N)(hc:c+2562<16777216) :
  ∃(y7 y8 y9:A) (T':jB) (D' K':Es),oS Fs [x0,.ref d,x2,.ref M,.int k,.ref B,.tup<|e.1.map .int,x7,x8,x9,x10,x11] T=.nx [x0,.ref d,x2,.ref M,.int k,.ref B,.tup<|e.1.map .int,y7,y8,y9,x10,x11] T'/\Kin N Q d M S0 T' (c+2562) D' K'/\(∀u,u.Perm (rg N)->∀t,Su.cS (Su.sm D') u t=Su.cS (Su.sm D) u t+Su.cS (Kl.zR k Kl.K (e.1,e.2.2)) u t)/\∀r es,Rw (Gm Q d M D) T r es->Rw (Gm Q d M D') T' r es:=by
 have em:=xT lb he;have p:e.1.Perm (rg N):=lb.kp.pm _ em;have le:=mG p;have one:(1:Int).natAbs<big:=cQ (by decide:(1:Int).natAbs<=Kl.Cb 10) xH;have dn:=V8 p k1 k2;have x1:=λS:jB=>eix (co:=jx 6) (d:=jy (jx 4) jG) (τ:=[x0,.ref d,x2,.ref M,.int k,.ref B,.tup<|e.1.map .int,x7,x8,x9,x10,x11]) (S:=S) (v:=(k:Int)) (by dsimp[jW,bools]) (by dsimp[jW,bools])<|LB p () ();have Z:=λS:jB=>eix (co:=jx 6) (d:=jy (jH kZ (jx 4)<|eC<|.int 1) jG) (τ:=[x0,.ref d,x2,.ref M,.int k,.ref B,.tup<|e.1.map .int,x7,x8,x9,x10,x11]) (S:=S) (v:=(k:Int)+1) (by dsimp[jW,bools]) (by dsimp[jW,bools])<|LB p () ();obtain⟨T1,e1,q1⟩:=Ql (T:=T) (o:=e.1) (k:=k) ();obtain⟨h1,g1⟩:=h.wB q1;have Y:=g1 _ _ hb;obtain⟨T2,D2,e2,h2,c2,g2⟩:=h1.mL (s:=0) (m:=1) (o:=e.1.map<|Wd.sw k) hN pw (He.JG p k1 k2) Y lb he one ();have b2:=g2 _ _ Y;obtain⟨h3,g3⟩:=h2.lay<|.lst [.int 1,.int<|-1];obtain⟨T3,F⟩:∃T3,T3=T2++[O.lst [.int 1,.int<|-1]]:=⟨_,rfl⟩;rw[<- F]at h3 g3;have b3:=g3 _ _ b2;obtain⟨C,V,e4,j,c4,g4⟩:=h3.mL (s:=if Kl.xY k e.1=true then -1 else 1) (m:=1) (o:=e.1) hN pw p b3 lb he one ();have b4:=g4 _ _ b3;have l3:jA T3 T2.length=some [.int 1,.int<|-1]:=by rw[F];exact jQ
 have n3:newL [.int 1,.int<|-1] T2=.ok (.ref T2.length) T3:=by rw[F];exact pJ (show 2<=16777216 by decide)
 have ixb:m_ (.ref T2.length) (.int<|if Kl.xY k e.1=true then 1 else 0) T3=.ok (.int<|if Kl.xY k e.1=true then -1 else 1) T3:=by
  cases Kl.xY k e.1 with
  | true=>
   show m_ (.ref T2.length) (.int 1) T3=.ok (.int<|-1) T3;dsimp[jW,l3,KS]
  | false=>
   show m_ (.ref T2.length) (.int 0) T3=.ok (.int 1) T3;dsimp[jW,l3,xg]
 have d1:=λS:jB=>KU (n:=B) (o:=e.1) (S:=S);have i1:=HX Y.l (CW lb) he;have i3:=HX b3.l (CW lb) he;have i2:=HX b2.l (CW lb) he;have i4:=HX b4.l (CW lb) he;have r4:j_ C e.2.1=some (iv e.2.2):=(b4.a e he).1;have U:∀u t,Su.cS (Su.sm V) u t=Su.cS (Su.sm D) u t+Su.cS (Kl.abL k (e.1,e.2.2)) u t:=λu t=>by
  rw[c4,c2];show _=_+((if e.1.map (Wd.sw k)=u then Po.cf e.2.2 t else 0)+((if e.1=u then Po.cf (Kl.shl (if Kl.xY k e.1=true then -1 else 1) e.2.2) t else 0)+0));rw[Kl.HV,c9,eZ,one_mul,one_mul,jj]
 have L:∀r es,Rw (Gm Q d M D) T r es->Rw (Gm Q d M V) C r es:=λr es z=>g4 r es<|g3 r es<|g2 r es<|g1 r es z;have g:Hi (u_<|jx 7) (qh<|jH (s_ true) (yf u7 (jH zV (jx 5)<|jx 6)<|jy (eC<|.int 1)<|jy (eC<|.int 0) jG)<|eC<|.int 0) [x0,.ref d,x2,.ref M,.int k,.ref B,.tup<|e.1.map .int,.bl<|Kl.xY k e.1,x8,x9,x10,x11] C=.ok (Kl.xY k e.1 && !(Po.val e.2.2 1 == 0)) C:=by
  cases hd:Kl.xY k e.1 with
  | true=>dsimp[jW,lA,bools,z0,i4,Qy r4,AU,r4,Po.zI,Bool.true_and]
  | false=>dsimp[jW,lA,bools,Bool.false_and]
 have G:∀(b:Bool) (S:jB),f1 CM [.bl b] S=.ok (.int<|if b=true then 1 else 0) S:=λb S=>by cases b<;>rfl
 have J:∀(y8 y9:A) (T':jB) (D' K':Es),vg (Hi (u_<|jx 7)<|qh<|jH (s_ true) (yf u7 (jH zV (jx 5)<|jx 6)<|jy (eC<|.int 1)<|jy (eC<|.int 0) jG)<|eC<|.int 0) (jT (j7 (eFn Fs<|jy (jx 6)<|jy (jx 1) jG)<|jX 8)<|ku (qR Fs) (jX 9)<|qP Fs) pO [x0,.ref d,x2,.ref M,.int k,.ref B,.tup<|e.1.map .int,.bl<|Kl.xY k e.1,x8,x9,x10,x11] C=.nx [x0,.ref d,x2,.ref M,.int k,.ref B,.tup<|e.1.map .int,.bl<|Kl.xY k e.1,y8,y9,x10,x11] T' ->
   oS Fs [x0,.ref d,x2,.ref M,.int k,.ref B,.tup<|e.1.map .int,x7,x8,x9,x10,x11] T=.nx [x0,.ref d,x2,.ref M,.int k,.ref B,.tup<|e.1.map .int,.bl<|Kl.xY k e.1,y8,y9,x10,x11] T':=λy8 y9 T' D' K' hh=>by
  unfold oS;dsimp[jW,lA,bools,x1,Z,dn,e1,i1,e2,i2,n3,G,ixb,e4,↓hh]
 cases hw:(Kl.xY k e.1 && !(Po.val e.2.2 1 == 0))with
 | false=>
  rw[hw]at g;refine⟨_,x8,x9,C,V,K,J x8 x9 C V K<|by dsimp[jW,↓g],⟨j.md.mono (),j.kw,j.pm,j.fr,j.ml,j.dl,j.ql,j.qd⟩,λu pu t=>?_,L⟩;rw[U];unfold Kl.zR;rw[aN λz=>by rw[z.2,cB.mpr z.1]at hw;exact Bool.noConfusion hw];rw[cj]
 | true=>
  rw[hw]at g;rw[cJ]at hw;obtain⟨W,P⟩:=hw;have h0:Po.val e.2.2 1≠0:=by
   intro z;rw[z]at P;cases P
  obtain⟨R,T5,K5,rs,e5,h5,r5,l5,g5⟩:=j.aan ih (hf h0) p;obtain⟨y,T6,D6,e6,q,c6,g6⟩:=Zh (Fs:=Fs) (x0:=x0) (x2:=x2) (x4:=.int k) (x7:=.bl<|Kl.xY k e.1) (x9:=x9) (x10:=x10) (x11:=x11) hN h5 pw p (g5 _ _ b4) lb he h0 r5 l5 ();refine⟨_,.ref R,y,T6,D6,K5,J _ _ T6 D6 K5<|by dsimp[jW,↓g,e5,↓e6],⟨q.md.mono (),q.kw,q.pm,q.fr,q.ml,q.dl,q.ql,q.qd⟩,λu pu t=>?_,λr es z=>g6 r es<|g5 r es<|L r es z⟩;rw[c6,U];unfold Kl.zR;rw[aR ⟨h0,W⟩,Su.xW,eZ,He.HR];show _+(_+_)=_+(_+He.cv [((0:Int),-Po.val e.2.2 1)] (Su.cS (Kl.K e.1) u) t);rw[Kl.abP,l5.K hN p _ pu]
end
end K69
namespace K69
open PySem L2 Am
open Po (Pl iv)
open Su (Es En)
open Fw (rg)
section
variable {N d M:Nat}{Q:Nat->Prop}{S0 T:jB}{D K bs:Es}
def Pc{B k f:Nat}{Fs:ab->jB->R A}{w:ae}(hN:N<5)(ih:Fnw N d f Fs)(h:Kin N Q d M S0 T 0 [] K)(pw:w.Perm<|rg N)(hb:Rw (Gm Q d M []) T B bs)(Z:Kl.LK N w<|Su.sm bs)(hf:Iv.inv w<f)(k1:1<=k)(k2:k<N) :
  ∃(y6 y7 y8 y9:A) (T':jB) (D' K':Es),ku (uR Fs) (jX 6) (oS Fs) [x0,.ref d,x2,.ref M,.int k,.ref B,x6,x7,x8,x9,x10,x11] T=.nx [x0,.ref d,x2,.ref M,.int k,.ref B,y6,y7,y8,y9,x10,x11] T'/\Kin N Q d M S0 T' 307440 D' K'/\∀u,u.Perm (rg N)->∀t,Su.cS (Su.sm D') u t=Su.cS ((Su.sm bs).flatMap<|Kl.zR k Kl.K) u t:=by
 obtain⟨h1,q⟩:=h.fz hb;obtain⟨T1,c⟩:∃T1,T1=T.set B (O.dcf<|bs.map Su.kv):=⟨_,rfl⟩;rw[<- c]at h1 q;have ln:=Z.many hN;rw[Su.uK]at ln;refine wN (xs:=bs.map λe=>.tup<|e.1.map .int) (S1:=T1) (show uR Fs _ _=_ from by rw[c];exact EN (by dsimp[jW,bools]) hb.l)
  (λi τ S=>∃(y6 y7 y8 y9:A) (D' K':Es),τ=[x0,.ref d,x2,.ref M,.int k,.ref B,y6,y7,y8,y9,x10,x11]/\Kin N Q d M S0 S (2562 * i) D' K'/\(∀u,u.Perm (rg N)->∀t,Su.cS (Su.sm D') u t=Su.cS ((Su.sm<|bs.take i).flatMap<|Kl.zR k Kl.K) u t)/\Rw (Gm Q d M D') S B bs)
  (λr=>∃(y6 y7 y8 y9:A) (T':jB) (D' K':Es),r=.nx [x0,.ref d,x2,.ref M,.int k,.ref B,y6,y7,y8,y9,x10,x11] T'/\Kin N Q d M S0 T' 307440 D' K'/\∀u,u.Perm (rg N)->∀t,Su.cS (Su.sm D') u t=Su.cS ((Su.sm bs).flatMap<|Kl.zR k Kl.K) u t)
  ⟨_,_,_,_,[],K,rfl,h1,λu _ t=>rfl,q _ _ hb⟩ ?_ ?_
 ·rintro i z τ S D ⟨y6,y7,y8,y9,D',K',rfl,hS,cS,p⟩;rw[aK]at D;obtain⟨e,g,rfl⟩:=aQ.mp D;have j:=aY g;have P:=(aG.mp g).1;have le:Po.val e.2.2 1≠0->Iv.inv e.1<f:=λz=>cQ (Z.kp.lo e.1 (Z.kp.pm _<|xT Z j) 1 (by have:=Z.toNd.val (xT Z j) 1;rw[<- this];exact z)).le hf;obtain⟨U,V,L,T2,J,F,e2,m,c2,G⟩:=T8 (x0:=x0) (x2:=x2) (x6:=y6) (x7:=y7) (x8:=y8) (x9:=y9) (x10:=x10) (x11:=x11) hN ih hS pw p Z j le k1 k2 ();refine⟨[x0,.ref d,x2,.ref M,.int k,.ref B,.tup<|e.1.map .int,y7,y8,y9,x10,x11],S,rfl,.inl ⟨_,T2,e2,_,_,_,_,J,F,rfl,by rw[mul_add,Nat.mul_one];exact m,λu C t=>?_,G _ _ p⟩⟩;rw[c2 u C t,cS u C t,b6,g,Su.xS,d7,Su.xW];show _=_+Su.cS (Kl.zR k Kl.K (e.1,e.2.2)++[]) u t;rw[cj]
 ·rintro τ S ⟨y6,y7,y8,y9,D',K',rfl,hS,cS,p⟩;rw[aF]at hS cS;rw[b8]at cS;exact⟨y6,y7,y8,y9,S,D',K',rfl,⟨hS.md.mono (),hS.kw,hS.pm,hS.fr,hS.ml,hS.dl,hS.ql,hS.qd⟩,cS⟩
structure Fnd3 (N:Nat)(Q:Nat->Prop)(d M F:Nat)(S0 T:jB)(D K E:Es):Prop where
 rd:Rw (λx=>Q x\/x=d\/x=F) T M D
 kw:Kw N (λx=>Q x\/x=F) T d K
 ff:jV T F=some (E.map Su.kv)
 ee:∀f∈E,j_ T f.2.1=some (iv f.2.2)/\S0.length<=f.2.1/\f.2.1≠F
 fr:Kz (λx=>x=d) Q S0 T
 fl:S0.length<=F
def OQ{c:Nat}{Fs:ab->jB->R A}(hN:N<5)(h:Kin N Q d M S0 T c D K)(hc:c<16777216)(hF:jV T F=some [])(fl:S0.length<=F)(fm:¬Gm Q d M D F)(fk:Kw N (λx=>(Q x\/ow M D x)\/x=F) T d K) :
  ∃(y6 y11:A) (T':jB) (E:Es),ku (qT Fs) (jX 6) (qS Fs) [x0,.ref d,x2,.ref M,x4,x5,x6,x7,x8,x9,.ref F,x11] T=.nx [x0,.ref d,x2,.ref M,x4,x5,y6,x7,x8,x9,.ref F,y11] T'/\Fnd3 N Q d M F S0 T' D K E/\Su.sm E=Kl.Gv (Su.sm D):=by
 have Mlt:=Su.oJ h.md.dd;have dM:d≠M:=λz=>by have:=h.ml M<|.inl rfl;have:=h.dl;lia
 have FM:F≠M:=λz=>fm<|.inl<|.inr<|.inl z;have dF:F≠d:=λz=>fm<|.inr z;obtain⟨T1,J⟩:∃T1,T1=T.set M (O.dcf<|D.map Su.kv):=⟨_,rfl⟩;have z1:Kz (λ_=>False) (λx=>x≠M) T T1:=by rw[J];exact Kz.refl.fzD (wK h.md.dd) (.inl λz=>z rfl)
 have U:∀e∈D,e.2.1≠d/\¬Q e.2.1/\e.2.1≠F:=λe m=>by
  have:=h.ml e.2.1<|.inr ⟨e,m,rfl⟩;refine⟨λz=>by have:=h.dl;lia,λz=>by have:=h.ql _ z;lia,λz=>fm<|.inl<|.inr<|.inr ⟨e,m,z⟩⟩
 have f1:Fnd3 N Q d M F S0 T1 D K []:=⟨⟨z1.dcr (λz=>z)<|wK h.md.dd,λe m=>⟨z1.Sd (λz=>z)<|xR<|h.md.aa e m,λz=>z.elim (U e m).2.1 λq=>q.elim (U e m).1 (U e m).2.2⟩,λz=>by
   have:=h.ml M (.inl rfl)
   rcases z with z|z|z
   ·have:=h.ql _ z;lia
   ·exact dM z.symm
   ·exact FM z.symm⟩,fk.go z1 (λ_ _ z=>z.elim) (λ_ _ z=>z.imp .inl id) (λz=>z) dM,z1.dct (λz=>z) FM hF,(nofun),h.fr.old z1 (λ_ _ _ z=>z) (λn _ z e=>by have:=h.ml M<|.inl rfl;have:=h.ql n z;lia),fl⟩
 have ln:=h.many hN;refine wN (xs:=D.map λe=>.tup<|e.1.map .int) (S1:=T1) (show qT Fs _ _=_ from by rw[J];exact EN (by dsimp[jW,bools])<|wK h.md.dd)
  (λi τ S=>∃(y6 y11:A) (E:Es),τ=[x0,.ref d,x2,.ref M,x4,x5,y6,x7,x8,x9,.ref F,y11]/\Fnd3 N Q d M F S0 S D K E/\Su.sm E=Kl.Gv (Su.sm<|D.take i))
  (λr=>∃(y6 y11:A) (T':jB) (E:Es),r=.nx [x0,.ref d,x2,.ref M,x4,x5,y6,x7,x8,x9,.ref F,y11] T'/\Fnd3 N Q d M F S0 T' D K E/\Su.sm E=Kl.Gv (Su.sm D))
  ⟨_,_,[],rfl,f1,rfl⟩ ?_ ?_
 ·rintro i z τ S hz ⟨y6,y11,E,rfl,hS,B⟩;rw[aK]at hz;obtain⟨e,m,rfl⟩:=aQ.mp hz;have P:=aY m;have hi:=(aG.mp m).1;obtain⟨ea,eb⟩:=hS.rd.a e P;obtain⟨S1,e1,r1,q1⟩:=X3 ea (h.md.np e P)<|cQ (h.md.ln e P) hc;have i1:=HX hS.rd.l h.md.ap.nd P;have dS:d≠e.2.1:=λz=>eb<|.inr<|.inl z.symm;have FS:F≠e.2.1:=λz=>eb<|.inr<|.inr z.symm;have lF:=Su.oJ hS.ff;have ld:=Su.oJ hS.kw.dd;have sd:∀G:Nat->Prop,Fnd3 N Q d M F S0 S1 D K E:=λ_=>⟨hS.rd.go q1 (λ_ _ z=>z.elim) λ_ _ z=>z,hS.kw.go q1 (λ_ _ z=>z.elim) (λ_ _ z=>z) (λz=>z) dS,q1.dct (λz=>z) FS hS.ff,λf hf=>⟨q1.Sd (λz=>z) (hS.ee f hf).1,(hS.ee f hf).2⟩,hS.fr.old q1 (λ_ _ _ z=>z) λn _ z q=>eb<|.inl<|by rw[<- q];exact z,hS.fl⟩;have h1:=sd λ_=>False;obtain⟨k,L⟩:∃k,k=e.2.2.filter λq=>q.2 != 0:=⟨_,rfl⟩;rw[<- L]at r1;obtain⟨S2,t⟩:∃S2,S2=S1++[O.nQ []]:=⟨_,rfl⟩;have k2:kO S1 S2:=by rw[t];k_ne
  have n2:kc S2 S1.length=some []:=by rw[t];exact ud
  have r2:=k2.dk _ _ (λz=>z) r1;have ne:Qa (.ref S.length) (.ref S1.length) S2=.ok (.bl<|!k.isEmpty) S2:=by
   show opt (j_ S2 S.length) (λkvs=>opt (kc S2 S1.length) λms=>_)=_;rw[xR r2,jS,n2,jS];have:(iv k).isEmpty=k.isEmpty:=by cases k<;>rfl
   rw[this];rfl
  have k2z:Kz (λ_=>False) (λ_=>True) S1 S2:=k2.kz;have h2:Fnd3 N Q d M F S0 S2 D K E:=⟨h1.rd.go k2z (λ_ _ z=>z.elim) λ_ _ z=>z,h1.kw.go k2z (λ_ _ z=>z.elim) (λ_ _ z=>z) (λz=>z) trivial,k2z.dct (λz=>z) trivial h1.ff,λf hf=>⟨k2z.Sd (λz=>z) (h1.ee f hf).1,(h1.ee f hf).2⟩,h1.fr.old k2z (λ_ _ _ z=>z) λ_ _ _=>trivial,h1.fl⟩;have tk:Su.sm (D.take<|i+1)=Su.sm (D.take i)++[(e.1,e.2.2)]:=by
   rw[b6,m,Su.xS];rfl
  have one:Kl.Gv [(e.1,e.2.2)]=if k.isEmpty=true then[]else[(e.1,k)]:=by
   show List.filter _ [(e.1,e.2.2.filter λq=>q.2 != 0)]=_;rw[<- L]
   cases k<;>rfl
  refine⟨[x0,.ref d,x2,.ref M,x4,x5,.tup<|e.1.map .int,x7,x8,x9,.ref F,y11],S,rfl,.inl ?_⟩;unfold qS
  cases hb:k.isEmpty with
  | true=>
   rw[hb]at ne one;refine⟨[x0,.ref d,x2,.ref M,x4,x5,.tup<|e.1.map .int,x7,x8,x9,.ref F,.ref S.length],S2,?_,_,_,E,rfl,h2,?_⟩
   ·dsimp[jW,lA,bools,Qk,Vf,aa8,i1,e1,qV,<- t,ne,b7]
   ·rw[tk,Kl.JE,one,B];exact(cj _).symm
  | false=>
   rw[hb]at ne one;have nE:Su.fE E e.1=none:=by
    cases hf:Su.fE E e.1 with
    | none=>rfl
    | some f=>
     exfalso;obtain⟨a,b⟩:=Su.pB hf;have m1:f.1∈(Su.sm E).map Prod.fst:=aX.mpr ⟨_,aX.mpr ⟨f,a,rfl⟩,rfl⟩;rw[B]at m1;obtain⟨g,hg,e3⟩:=aX.mp m1;obtain⟨g',hg',rfl⟩:=aX.mp (bO.mp hg).1;obtain⟨g2,Z,rfl⟩:=aX.mp hg';obtain⟨j,V⟩:=fN.mp Z;have lt:j<i:=by
      have:=(aG.mp V).1;rw[cu]at this;lia
     rw[eW lt]at V;have e1':(D.map Prod.fst)[j]?=some e.1:=by rw[aK,V,<- b,<- e3];rfl
     have W:(D.map Prod.fst)[i]?=some e.1:=by rw[aK,m];rfl
     obtain⟨l1,g1⟩:=aG.mp e1';obtain⟨l2,Y⟩:=aG.mp W;have:=(cI h.md.ap.nd).mp (g1.trans Y.symm)
     lia
   have pE:Su.mL E e.1 S.length k=E++[(e.1,S.length,k)]:=by
    unfold Su.mL;rw[nE];rfl
   have lE:E.length<=120:=by
    rw[<- Su.uK,B];unfold Kl.Gv;refine bI (cX _ _) ?_;rw[aF,Su.uK,cu];lia
   obtain⟨S3,C⟩:∃S3,S3=S2.set F (O.dct<|(E++[(e.1,S.length,k)]).map Su.kv):=⟨_,rfl⟩;have st:yw (.ref F) (.tup<|e.1.map .int) (.ref S.length) S2=.ok Unit.unit S3:=by
    rw[Su.tW,h2.ff,jS,Su.Ba (p:=k),pE,C];exact mV<|show(E.map Su.kv).length<16777216 by rw[aF];lia
   have k3:Kp (·=F) S2 S3:=by rw[C];exact Kp.refl.tV (.inl rfl)
   have k3z:Kz (·=F) (λ_=>True) S2 S3:=k3.kz;have lS:=q1.len;refine⟨[x0,.ref d,x2,.ref M,x4,x5,.tup<|e.1.map .int,x7,x8,x9,.ref F,.ref S.length],S3,?_,_,_,E++[(e.1,S.length,k)],rfl,⟨h2.rd.go k3z (λ_ _ z=>.inr<|.inr z) λ_ _ z=>z,h2.kw.go k3z (λ_ _ z=>.inr z) (λ_ _ z=>z) (λz=>dF z.symm) trivial,by rw[C];exact Su.wJ<|Su.oJ h2.ff,λf hf=>?_,h2.fr.old k3z (λn ln _ z=>by have:=h2.fl;lia) λ_ _ _=>trivial,h2.fl⟩,?_⟩
   ·dsimp[jW,lA,bools,Qk,Vf,aa8,i1,e1,qV,<- t,ne,cU,Su.ur,st]
   ·rcases bJ.mp hf with z|z
    ·obtain⟨a,b,c'⟩:=h2.ee f z;exact⟨k3z.Sd c' a,b,c'⟩
    ·rw[aW.mp z];have l0:=hS.fr.len;exact⟨k3z.Sd (show ¬S.length=F by lia)<|xR r2,l0,by show S.length≠F;lia⟩
   ·rw[tk,Kl.JE,one,Su.xS,B];rfl
 ·rintro τ S ⟨y6,y11,E,rfl,hS,B⟩;rw[aF,b8]at B;exact⟨y6,y11,S,E,rfl,hS,B⟩
end
end K69
namespace K69
open PySem L2 Am
open Po (Pl iv)
open Su (Es En)
open Fw (rg)
def Ud{N:Nat}{k:Int}(h:k∈Rp N o):∃j:Nat,k=j/\1<=j/\j<N/\Kl.xY j o=true:=by
 obtain⟨a,b⟩:=bO.mp h;have:=o6.mp a;exact⟨k.toNat,(),(),(),b⟩
def Th{N:Nat}{o:ae}(U:N<5)(J:o.Perm<|rg N)(h:Rp N o=[]):o=rg N:=by
 have hb:He.ff (He.bk o)=none:=by
  cases hf:He.ff (He.bk o)with
  | none=>rfl
  | some k=>
   exfalso;obtain⟨a,b,c⟩:=He.J9 hf;rw[mG<|He.EF J]at b;have:(k:Int)∈Rp N o:=bO.mpr ⟨o6.mpr (),by
    show Kl.xY (k:Int).toNat o=true;rw[eO];exact c⟩
   rw[h]at this;cases this
 have:=Kl.abI U (He.EF J) hb;rw[<- He.aa9 J,this,He.abZ]
def aaZ{N k:Nat}{o:ae}(J:o.Perm<|rg N)(U:1<=k)(Z:k<N)(h:Kl.xY k o=true):Iv.inv o=Iv.inv (o.map<|Wd.sw k)+1:=by
 have d:=Kl.Ny (He.EF J) U Z h;have:=d.iv;rw[<- He.aaI J U Z,He.P1 J,He.P1<|He.JG J U Z]at this;exact this
section
variable {N d M:Nat}{Q:Nat->Prop}{S0 T:jB}{D K:Es}
def ya{c:Nat}{Fs:ab->jB->R A}{o:ae}(hN:N<5)(h:Kin N Q d M S0 T c D K)(hc:c<16777216)(po:o.Perm<|rg N)(lk:Kl.LK N o<|Kl.Gv<|Su.sm D) :
  ∃(r:Nat) (T':jB) (K' rs:Es),jT (j7 wY<|jX 10) (jT (ku (qT Fs) (jX 6)<|qS Fs)<|jT (j7 (jx 10)<|Ca (jx 1)<|jx 0)<|lH<|jx 10) [.tup<|o.map .int,.ref d,x2,.ref M,x4,x5,x6,x7,x8,x9,x10,x11] T=.rt (.ref r) T'/\Kw N Q T' d K'/\Rw (λx=>Q x\/x=d) T' r rs/\Kl.LK N o (Su.sm rs)/\Kz (λx=>x=d) Q S0 T':=by
 obtain⟨T1,g⟩:∃T1,T1=T++[O.dct []]:=⟨_,rfl⟩;obtain⟨h1,W⟩:=h.lay<|.dct [];rw[<- g]at h1;have k:jV T1 T.length=some []:=by rw[g];exact Su.oR
 have t:=h.fr.len;have dT:d<T.length:=Su.oJ h.kw.dd;have G:¬Gm Q d M D T.length:=λz=>by
  rcases z with(z|z)|z
  ·have:=h.ql _ z;lia
  ·have:=h.md.O0 z;lia
  ·lia
 have j:Kz (λ_=>False) (λ_=>True) T T1:=by rw[g];exact(Kp.refl.lay).kz
 have V:Kw N (λx=>(Q x\/ow M D x)\/x=T.length) T1 d K:=h.kw.go j (λ_ _ z=>z.elim) (λn ln z=>z.elim id λq=>absurd ln ()) (λz=>z) trivial;obtain⟨Y,J,T2,E,e2,f2,L⟩:=OQ (Fs:=Fs) (x0:=.tup<|o.map .int) (x2:=x2) (x4:=x4) (x5:=x5) (x6:=x6) (x7:=x7) (x8:=x8) (x9:=x9) (x11:=x11) hN h1 hc k t G V;have C:Rw (λx=>Q x\/x=d) T2 T.length E:=⟨wK f2.ff,λf hf=>by
   obtain⟨a,b,Z⟩:=f2.ee f hf;refine⟨a,λz=>?_⟩
   rcases z with z|z
   ·have:=h.ql _ z;lia
   ·have:=h.dl;lia,λz=>by
   rcases z with z|z
   ·have:=h.ql _ z;lia
   ·lia⟩
 have m:Kw N Q T2 d K:=f2.kw.go (P:=λ_=>False) (Q':=λ_=>True) Kz.refl (λ_ _ z=>z.elim) (λ_ _ z=>.inl z) (λz=>z) trivial;rw[<- L]at lk;obtain⟨T3,B,e3,F,p,U⟩:=m.put hN po C lk;refine⟨T.length,T3,B,E,?_,F,p,lk,f2.fr.old (U.kz (Q:=λ_=>True)) (λ_ _ z=>z) λ_ _ _=>trivial⟩;dsimp[jW,lA,bools,Qk,adh,Su.qk,<- g,↓e2,Su.ur,e3]
end
theorem BF{N d:Nat}(hN:N<5):∀(f:Nat),Fnw N d f (mK f)
 | 0=>λ_ _ _ _ h _ _ _ _=>absurd h (fK _)
 | f+1=>λQ T K o hf C hK ql qd=>by
  have ih:=BF (d:=d) hN f;have lo:=mG C;have dT:d<T.length:=Su.oJ hK.dd;show ∃(r:Nat) (T':jB) (K' Y:Es),kX rE (rj<|mK f) [.tup<|o.map .int,.ref d] T=.ok (.ref r) T'/\_;have i1:HM false (.tup<|o.map .int) (.ref d) T=.ok (.bl (kH (K.map Su.kv) o).isSome) T:=by
   show opt (jV T d) (λkvs=>opt (A.ints<|o.map .int) λns=>_)=_;rw[hK.dd,jS,ints_map];rfl
  unfold rj rE
  cases hL:Su.fE K o with
  | some e=>
   obtain⟨m1,rfl⟩:=Su.pB hL;obtain⟨Y,r1,r2⟩:=hK.at_ e m1;have lk:kH (K.map Su.kv) e.1=some (.ref e.2.1):=by rw[Su.nP,hL];rfl
   have x1:zY (.ref d) (.tup<|e.1.map .int) T=.ok (.ref e.2.1) T:=by rw[Su.ym,hK.dd,jS,lk,jS]
   rw[lk]at i1;refine⟨e.2.1,T,K,Y,?_,hK,r1,r2,Kz.refl⟩;dsimp[jW,lA,bools,lX,Nat.reduceAdd,Nat.reduceSub,i1,gA,x1]
  | none=>
   have lk:kH (K.map Su.kv) o=none:=by rw[Su.nP,hL];rfl
   rw[lk]at i1;have wo:=UL (S:=T) (cap:=[.ref d,.unb,.unb,.unb,.unb,.unb,.unb,.unb,.unb,.unb,.unb]) C ();obtain⟨T1,F⟩:∃T1,T1=T++[O.lst<|(Rp N o).map .int]:=⟨_,rfl⟩;have k1:kO T T1:=by rw[F];k_ne
   have l1:jA T1 T.length=some ((Rp N o).map .int):=by rw[F];exact jQ
   obtain⟨T2,G⟩:∃T2,T2=T1++[O.dct []]:=⟨_,rfl⟩;have k2:kO T1 T2:=by rw[G];k_ne
   have M2:jV T2 T1.length=some []:=by rw[G];exact Su.oR
   have l2:=k2.lst _ _ (λz=>z) l1;obtain⟨T3,M⟩:∃T3,T3=T2++[O.lst []]:=⟨_,rfl⟩;have k3:kO T2 T3:=by rw[M];k_ne
   have J:kO T T3:=(k1.trans k2).trans k3;have n3:newL [] T2=.ok (.ref T2.length) T3:=by rw[M];exact kQ (show 0<=16777216 by decide)
   have q3:s_ false (.ref T.length) (.ref T2.length) T3=.ok (.bl ((Rp N o).map A.int).isEmpty) T3:=HJ (eq_nil (k3.lst _ _ (λz=>z) l2)<|by rw[M];exact jQ);have lT1:=k1.len;have M3:=k3.dct _ _ (λz=>z) M2;have ow0:∀x,ow T1.length [] x->x=T1.length:=λx z=>z.elim id λ⟨_,h,_⟩=>nomatch h;have md3:Md T3 T1.length 0 []:=⟨M3,(nofun),List.Pairwise.nil,(nofun),(nofun)⟩;have L:Kin N Q d T1.length T T3 0 [] K:=⟨md3,hK.go (P:=λ_=>False) (Q':=λ_=>True) J.kz (λ_ _ z=>z.elim) (λn ln z=>z.elim id λq=>by have:=ow0 n q;lia) (λz=>z) trivial,(nofun),J.of0.kz,λx hx=>by rw[ow0 x hx];lia,dT,ql,qd⟩
   rcases List.eq_nil_or_concat (Rp N o)with hw|⟨ws,k',hw⟩
   ·
    have oe:=Th hN C hw;rw[hw]at q3;have M3':jV T3 T1.length=some []:=M3;obtain⟨D,W⟩:∃D,D=T3++[O.nQ [((0:Int),A.int 1)]]:=⟨_,rfl⟩;have h4:kc D T3.length=some (iv [((0:Int),(1:Int))]):=by rw[W];exact ud
    have k4:kO T3 D:=by rw[W];k_ne
    obtain⟨m,_⟩:=L.wB k4;obtain⟨U,V⟩:∃U,U=D.set T1.length (O.dct<|([(o,T3.length,[((0:Int),(1:Int))])]:Es).map Su.kv):=⟨_,rfl⟩;have k5:Kp (·=T1.length) D U:=by rw[V];exact Kp.refl.tV (.inl rfl)
    have M4:=k4.dct _ _ (λz=>z) M3;have lT3:=J.len;have lM:=Su.oJ M3;have d4:¬T3.length=T1.length:=()
    have st:yw (.ref T1.length) (.tup<|o.map .int) (.ref T3.length) D=.ok Unit.unit U:=by
     rw[Su.tW,M4,jS,V];exact mV<|show 0<16777216 by decide
    have ds:ZR (eC<|.int 0) (eC<|.int 1) [.tup<|o.map .int,.ref d,.ref T.length,.ref T1.length,.unb,.unb,.unb,.unb,.unb,.unb,.unb,.unb] T3=.ok (.ref T3.length) D:=by rw[W];rfl
    have p:Kin N Q d T1.length T U 1 [(o,T3.length,[((0:Int),(1:Int))])] K:=by
     refine⟨⟨by rw[V];exact Su.wJ<|Su.oJ M4,λe j=>?_,c5 _ _,λe j=>?_,λe j=>?_⟩,?_,λe j=>?_,?_,λx hx=>?_,dT,ql,qd⟩
     ·rw[aW.mp j];exact k5.dk _ _ d4 h4
     ·rw[aW.mp j];simp
     ·rw[aW.mp j];exact aP _
     ·refine hK.go (P:=λx=>x=T1.length) (Q':=λ_=>True) (T':=U) ((J.trans k4).of0.kz.old (k5.kz (Q:=λ_=>True)) (λ_ _ z=>z) λ_ _ z=>z) (λn ln z=>()) (λn ln z=>?_) () trivial
      rcases z with z|z|⟨e,j,z⟩
      ·exact z
      ·lia
      ·rw[aW.mp j]at z;have z:T3.length=n:=z
       lia
     ·rw[aW.mp j];exact C
     ·exact m.fr.old (k5.kz (Q:=λ_=>True)) (λn ln _ z=>()) λ_ _ _=>trivial
     ·rcases hx with z|⟨e,j,z⟩
      ·lia
      ·rw[aW.mp j]at z;have z:T3.length=x:=z
       lia
    obtain⟨r,T',K',Y,e6,a,b,c,d'⟩:=ya (Fs:=mK f) (x2:=.ref T.length) (x4:=.unb) (x5:=.unb) (x6:=.unb) (x7:=.unb) (x8:=.unb) (x9:=.unb) (x10:=.unb) (x11:=.unb) hN p ⋯ C (by
     have:=Kl.LK.one hN C oe;exact this)
    refine⟨r,T',K',Y,?_,a,b,c,d'⟩;dsimp[jW,lA,bools,lX,Nat.reduceAdd,Nat.reduceSub,i1,gE,wo,<- F,Su.qk,<- G,n3,q3,d9,iA,ds,Su.ur,st,↓e6]
   ·
    have km:k'∈Rp N o:=by rw[hw,ie];exact List.mem_concat_self ..
    obtain⟨k,rfl,ka,kb,kd⟩:=Ud km;have ne:((Rp N o).map A.int).isEmpty=false:=by rw[hw];simp
    rw[ne]at q3;have ia:sN ((Rp N o).map A.int) (-1)=some (.int (k:Int)):=by
     rw[hw,ie,bB];exact PY _ _
    have l3:=k3.lst _ _ (λz=>z) l2;have iv1:=aaZ C ka kb kd;have ps:=He.JG C ka kb;obtain⟨D,e4,k4⟩:=Ql (T:=T3) (o:=o) (k:=k) ();obtain⟨m,_⟩:=L.wB k4;obtain⟨B,U,K5,bs,e5,p,r5,Z,_⟩:=m.aan ih (o:=o.map<|Wd.sw k) () ps;obtain⟨y6,y7,y8,y9,T6,D6,K6,e6,g,c6⟩:=Pc (Fs:=mK f) (x0:=.tup<|o.map .int) (x2:=.ref T.length) (x6:=.unb) (x7:=.unb) (x8:=.unb) (x9:=.unb) (x10:=.unb) (x11:=.unb) hN ih p ps r5 Z () ka kb;have ndD:Kl.Nd (Su.sm D6):=⟨by rw[Ah];exact g.md.ap.nd,λe j=>by
     obtain⟨f,hf,rfl⟩:=aX.mp j;exact g.md.np f hf⟩
    have pmD:∀x∈Su.sm D6,x.1.Perm (rg N):=λx hx=>by
     obtain⟨f,hf,rfl⟩:=aX.mp hx;exact g.pm f hf
    have lk6:Kl.LK N o (Kl.Gv<|Su.sm D6):=Kl.LK.step hN C ka kb kd Z (Kl.Xr ndD) Kl.Yj Kl.ZZ (Kl.Xv (P:=λu=>u.Perm<|rg N) pmD) λu pu t=>by rw[Kl.NY,c6 u pu t]
    obtain⟨r,T',K',Y,e7,a,b,c,d'⟩:=ya (Fs:=mK f) (x2:=.ref T.length) (x4:=.int k) (x5:=.ref B) (x6:=y6) (x7:=y7) (x8:=y8) (x9:=y9) (x10:=.unb) (x11:=.unb) hN g ⋯ C lk6;refine⟨r,T',K',Y,?_,a,b,c,d'⟩;have neg:Cu (.int 1) T3=.ok (.int<|-1) T3:=rfl;dsimp[jW,lA,bools,lX,Nat.reduceAdd,Nat.reduceSub,i1,gE,wo,<- F,Su.qk,<- G,n3,q3,neg,l3,ia,e4,e5,↓e6,↓e7]
end K69
namespace K69
open PySem L2 Am
theorem F6{s:Src}{e:Ex}(P:Nat->ab->jB->Prop)(step:∀i acc T,i<s.k->P i acc T->∃x y T2,s.get i T=some x/\e (x::mj cap τ) T=.ok y T2/\P (i+1) (acc++[y]) T2)(J:∀acc T,P s.k acc T->s.fin T=true) :
  ∀k i τ' T acc,k+i=s.k->(∃y,τ'=y::mj cap τ)->P i acc T->∃zs S',mR s (jX 0) nN e k i τ' T=.ok zs S'/\P s.k (acc++zs) S'/\zs.length=k
 | 0,i,τ',T,acc,hk,_,hP=>by
  have:i=s.k:=()
  subst this;exact⟨[],T,by unfold mR;rw[aR<|J _ _ hP],by rw[cj];exact hP,rfl⟩
 | k+1,i,τ',T,acc,hk,hy,hP=>by
  obtain⟨c,rfl⟩:=hy;obtain⟨x,y,T2,e1,e2,p2⟩:=step i acc T () hP;obtain⟨zs,S',h1,h2,h3⟩:=F6 P step J k (i+1) (x::mj cap τ) T2 (acc++[y]) () ⟨x,rfl⟩ p2;refine⟨y::zs,S',?_,by rw[cG]at h2;exact h2,by rw[bR,h3]⟩;unfold mR;rw[e1,jS];rw[Zk,R.kJ,show nN ((c::mj cap τ).set 0 x) T=.ok true T from rfl,R.kJ];show((e (x::mj cap τ) T).tB _)=_;rw[e2,R.kJ];show(mR s (jX 0) nN e k (i+1) (x::mj cap τ) T2).tB _=_;rw[h1,R.kJ]
def yz{s:Src}{src:Ic}{e:Ex}(hs:src τ S=.ok s S1)(P:Nat->ab->jB->Prop)(U:P 0 [] S1)(step:∀i acc T,i<s.k->P i acc T->∃x y T2,s.get i T=some x/\e (x::mj cap τ) T=.ok y T2/\P (i+1) (acc++[y]) T2)(J:∀acc T,P s.k acc T->s.fin T=true)(Z:s.k<=16777216) :
  ∃ys S',j8 (none::cap) src (jX 0) nN e τ S=.ok (.ref S'.length) (S'++[.lst ys])/\P s.k ys S':=by
 obtain⟨zs,S',h1,h2,h3⟩:=F6 P step J s.k 0 (mj (none::cap) τ) S1 [] rfl ⟨_,rfl⟩ U;rw[List.nil_append]at h2;refine⟨zs,S',?_,h2⟩;unfold j8;rw[hs,R.nk,h1,R.kJ];exact kQ ()
def Ko{n k:Nat}{x:A}(h:jA T n=some xs){i:Nat}(J:xs[i]?=some x):(lJ n k).get i T=some x:=by
 show(jA T n).bind _=_;rw[h];exact J
def LU{n:Nat}{xs:ab}(h:jA T n=some xs):(lJ n xs.length).fin T=true:=by
 show(match jA T n with
  | some ys=>decide (ys.length<=xs.length)
  | none=>false)=true
 rw[h];exact bg<|aP _
meta abbrev M2:=List<|ae
structure Tq (S:jB)(R:Nat)(T:M2):Prop where
 ex:∃rs:ag,jA S R=some (rs.map .ref)/\Rows S rs T
abbrev AB (ps:List ny)(k:Nat)(a b:ae):Int:=if a=b then(if Su.pF a k=true then 1 else -1)else if (Su.pF a k || !Su.pF b k)=true then 0 else if (a,b)∈ps then 1 else 0
def RL{a b:ae}:s_ false (tq a) (tq b) S=.ok (.bl<|decide<|a=b) S:=by
 show opt (rQ S 12 (tq a)<|tq b) _=_;rw[show rQ S 12 (tq a) (tq b)=some (decide<|a=b)from tU a b];rfl
def Xf{N L k:Nat}{a b:ae}(hN:N<6)(la:a.length=N)(lb:b.length=N)(J:1<=k)(U:k<N)(Z:Ks S L m ps):∃S',kR [.int k,tq a,tq b,.ref L] S=.ok (.int<|AB ps k a b) S'/\kO S S':=by
 have p:∀(T:jB) (x:ae),x.length=N->∃T1,nu [tq x] T=.ok (.ref T.length) T1/\Hv false (.int k) (.ref T.length) T1=.ok (.bl<|Su.pF x k) T1/\Hv true (.int k) (.ref T.length) T1=.ok (.bl<|!Su.pF x k) T1/\kO T T1:=λT x B=>by
  have p:=yu (S:=T) (xs:=x) (n:=N) B ();refine⟨_,p,?_,?_,Kp.refl.lay⟩
  ·show opt (jA _ _) _=_;rw[jQ,jS,ug,yG B J U];rfl
  ·show opt (jA _ _) _=_;rw[jQ,jS,ug,yG B J U];rfl
 obtain⟨S1,e1,f,_,j⟩:=p S a la;obtain⟨S2,e2,_,t,q⟩:=p S1 b lb;unfold kR vC vp;by_cases c:a=b
 ·refine⟨S1,?_,j⟩;unfold AB;rw[aR c];have eq:=RL (S:=S1) (a:=a) (b:=b);rw[bg c]at eq
  cases hf:Su.pF a k with
  | true=>rw[hf]at f;dsimp[jW,lA,bools,uq,lX,Nat.reduceAdd,Nat.reduceSub,e1,f,eq];rfl
  | false=>rw[hf]at f;dsimp[jW,lA,bools,uq,lX,Nat.reduceAdd,Nat.reduceSub,e1,f,eq];rfl
 ·have eq:=RL (S:=S1) (a:=a) (b:=b);rw[bH c]at eq
  cases hf:Su.pF a k with
  | true=>
   refine⟨S1,?_,j⟩;unfold AB;rw[aN c,hf];rw[hf]at f;dsimp[jW,lA,bools,uq,lX,Nat.reduceAdd,Nat.reduceSub,e1,f,eq];rfl
  | false=>
   rw[hf]at f
   cases hg:Su.pF b k with
   | false=>
    refine⟨S2,?_,j.trans q⟩;unfold AB;rw[aN c,hf,hg];rw[hg]at t;dsimp[jW,lA,bools,uq,lX,Nat.reduceAdd,Nat.reduceSub,e1,f,eq,e2,t];rfl
   | true=>
    refine⟨S2,?_,j.trans q⟩;unfold AB;rw[aN c,hf,hg];rw[hg]at t;have g:=((Z.kp (j.trans q) λz=>z).get (x:=a) (w:=b));have d:=(Z.kp (j.trans q) λz=>z).dq;have g:C4 (.ref L) [.tup [tq a,tq b],.int 0] S2=.ok (.int<|if (a,b)∈ps then 1 else 0) S2:=g;dsimp[jW,lA,bools,uq,lX,Nat.reduceAdd,Nat.reduceSub,e1,f,eq,e2,t,b7,Vw,d,BX,Ls,g];rfl
abbrev GS (ps:List ny)(k:Nat)(J:Os)(a:ae):ae:=J.map λb=>AB ps k a b
abbrev Oo (ps:List ny)(k:Nat)(J:Os):M2:=J.map λa=>GS ps k J a
def YG{N L k g:Nat}{J:Os}{a:ae}(Z:N<6)(la:a.length=N)(lo:∀o∈J,o.length=N)(k1:1<=k)(k2:k<N)(hL:Ks T L m ps)(hg:jA T g=some (J.map tq))(ll:J.length<=1000) :
  ∃T',j8 [none,some 1,some 0,some 2] (ly<|jx 3) (jX 0) nN (eFn kR<|jy (jx 1)<|jy (jx 2)<|jy (jx 0)<|jy (jx 3) jG) [tq a,.int k,.ref L,.ref g] T=.ok (.ref T'.length) (T'++[.lst<|(GS ps k J a).map .int])/\kO T T':=by
 obtain⟨T',c,q⟩:=Dq (cap:=[some 1,some 0,some 2]) (t:=nN) (e:=eFn kR<|jy (jx 1)<|jy (jx 2)<|jy (jx 0)<|jy (jx 3) jG) (τ:=[tq a,.int k,.ref L,.ref g]) (S:=T) (S1:=T) (src:=ly<|jx 3) (xs:=J.map tq) (l_ (by dsimp[jW,lA,bools]) hg) hg (λ_=>true) (λx=>.int<|AB ps k a<|un x) (λx d U j=>⟨U,rfl,Kp.refl,λ_=>by
  obtain⟨o,p,rfl⟩:=aX.mp d;obtain⟨U2,e2,f⟩:=Xf (S:=U) Z la (lo o p) k1 k2<|hL.kp j λz=>z;refine⟨U2,?_,f⟩;show eFn kR (jy (jx 1)<|jy (jx 2)<|jy (jx 0)<|jy (jx 3) jG) [tq o,.int k,tq a,.ref L] U=_;rw[Jv];dsimp[jW,lA,bools,uq,e2]⟩)<|by rw[aF];lia
 refine⟨T',?_,q⟩;have el:(((J.map tq).filter λ_=>true).map λx=>A.int<|AB ps k a<|un x)=(GS ps k J a).map .int:=by
  unfold GS;rw[iL.mpr λ_ _=>rfl,bC,bC];refine cg λo _=>?_;show A.int (AB ps k a<|un<|tq o)=_;rw[Jv];rfl
 rw[el]at c;exact c
def Rows.abS{r:Nat}{x:ae}(h:Rows S rs T)(k:kO S S')(e:jA S' r=some (x.map .int)):Rows S' (rs++[r]) (T++[x]):=(h.mono λq _ xs z=>k.lst _ _ (λz=>z) z).app ⟨e,trivial⟩
structure T3 (S:jB)(R:Nat)(Ts:List M2):Prop where
 ex:∃ms:ag,jA S R=some (ms.map .ref)/\ms.length=Ts.length/\∀i m,ms[i]?=some m->Tq S m (Ts.getD i [])
abbrev Tt (N:Nat)(J:Os):List M2:=(List.range<|N-1).map λi=>Oo (Ld J) (i+1) J
end K69
namespace K69
open PySem L2 Am
open Po (Pl iv)
open Su (Es En)
open Fw (rg)
def YW{S:jB}{N:Nat}{o:ae}(J:o.length=N)(h2:N<=20):nB [tq o] S=.ok (.ref S.length) (S++[.lst<|(fl o N).map .int]):=by
 have c:=vn (lo:=1) (hi:=(N:Int)) (cap:=[some 0]) (src:=nZ (eC<|.int 1)<|jZ (f1 nL)<|jy (jx 0)<|jG) (t:=qh<|jH GB (jH m_ (jx 1)<|jH aSub (jx 0)<|eC<|.int 1)<|jH m_ (jx 1)<|jx 0) (e:=jx 0) (τ:=[.tup<|o.map .int]) (S:=S) (S1:=S)
  (tM (S1:=S) (by dsimp[jW,bools]) (by dsimp[jW,bools,aF,J]) (nU () ())<|nU () ())
  (λk=>decide<|o.getD (k-1).toNat 0>o.getD k.toNat 0) (λk=>.int k) (λk h1 h2=>by
   have f:sN (o.map A.int) (k-1)=some (.int<|o.getD (k-1).toNat 0):=ixG () ();have d:sN (o.map A.int) k=some (.int<|o.getD k.toNat 0):=ixG () ();dsimp[jW,bools,f,d]) (λk _ _ _=>by dsimp[jW,bools]) ()
 unfold nB vf vI;show kX _ _ [.tup<|o.map .int] S=_;dsimp[jW,bools,lX,Nat.reduceAdd,Nat.reduceSub,c];rfl
def Rb{G:Nat->Prop}{r N:Nat}{x w:ae}{cr cx:Ex}(J:Rw G S r es)(U:Kl.LK N w<|Su.sm es)(Z:cr τ S0=.ok (.ref r) S)(ex:∀T,cx τ T=.ok (tq x) T) :
  ∃S',yf u7 (yf w6 cr<|jy cx<|jy uN jG) (jy (eC<|.int 1)<|jy (eC<|.int 0) jG) τ S0=.ok (.int<|Su.cS (Su.sm es) x 1) S'/\kO S S':=by
 obtain⟨S1,c⟩:∃S1,S1=S++[O.nQ []]:=⟨_,rfl⟩;have d:kO S S1:=by rw[c];k_ne
 have k:kc S1 S.length=some (iv []):=by rw[c];exact ud
 have k1z:Kz (λ_=>False) (λ_=>True) S S1:=d.kz;have r1:=k1z.dcr (λz=>z) J.l;obtain⟨q,p,j,g,t⟩:∃(q:Nat) (p:Pl),(kH (es.map Su.kv) x).getD (.ref S.length)=.ref q/\j_ S1 q=some (iv p)/\Po.val p 1=Su.cS (Su.sm es) x 1:=by
  cases hf:Su.fE es x with
  | none=>
   refine⟨S.length,[],by rw[Su.nP,hf];rfl,xR k,?_⟩;rw[Kl.F9 U.nd,Su.E3,hf];rfl
  | some e=>
   obtain⟨f,rfl⟩:=Su.pB hf;refine⟨e.2.1,e.2.2,by rw[Su.nP,hf];rfl,k1z.Sd (λz=>z) (J.a e f).1,?_⟩;exact U.toNd.val (xT U f) 1
 refine⟨S1,?_,d⟩;have m:w6 (.ref r) [tq x,.ref S.length] S1=.ok (.ref q) S1:=by
  show w6 (.ref r) [.tup<|x.map .int,_] S1=_;rw[Ge,r1,jS,j]
 dsimp[jW,lA,bools,z0,Z,WY J.l,ex,qV,<- c,m,Qy g,AU,g,Po.zI,t]
abbrev ldq (o p:ae):Bool:=decide<|Su.cS (Kl.K p) o 1≠0\/Su.cS (Kl.K o) p 1≠0
abbrev V4 (o p:ae):Int:=if Su.cS (Kl.K p) o 1=0 then Su.cS (Kl.K o) p 1 else Su.cS (Kl.K p) o 1
def NO{T:jB}{N d:Nat}{Q:Nat->Prop}{K:Es}{o p:ae}(hN:N<5)(Z:o.Perm<|rg N)(pp:p.Perm<|rg N)(h:Kw N Q T d K)(ql:∀x,Q x->x<T.length)(qd:¬Q d) :
  ∃(T':jB) (K':Es),p5 [tq o,tq p,.ref d] T=.ok (.int<|V4 o p) T'/\Kw N Q T' d K'/\Kz (λx=>x=d) Q T T':=by
 have g:∀{u:ae},u.Perm (rg N)->Iv.inv u<8:=λ{u} pu=>by
  have:=Kl.Jj u;rw[mG pu]at this;have h2:N * (N-1)<=4 * 3:=jv () ()
  lia
 obtain⟨r,T1,j,U,e1,F,r1,l1,J⟩:=BF (d:=d) () 8 Q T K p (g pp) pp h ql qd;have e1:oG [tq p,.ref d] T=.ok (.ref r) T1:=e1;obtain⟨T2,e2,C⟩:=Rb (τ:=[tq o,tq p,.ref d,.unb]) (S0:=T) (cr:=eFn oG<|jy (jx 1)<|jy (jx 2) jG) (cx:=jx 0) (x:=o) r1 l1 (by dsimp[jW,lA,bools,uq,e1]) (λT=>by dsimp[jW,bools,uq]);rw[l1.K () pp _ Z]at e2;have f:Kz (λ_=>False) (λ_=>True) T1 T2:=C.kz;have t:Kw N Q T2 d j:=F.go f (λ_ _ z=>z.elim) (λ_ _ z=>z) (λz=>z) trivial;have m:Kz (λx=>x=d) Q T T2:=J.old f (λ_ _ _ z=>z) λ_ _ _=>trivial;by_cases h0:Su.cS (Kl.K p) o 1=0
 ·have q:(Su.cS (Kl.K p) o 1 == 0)=true:=jk.mpr h0;obtain⟨D,T3,G,M,e3,L,k,l3,P⟩:=BF (d:=d) () 8 Q T2 j o (g Z) Z t (λx z=>by have:=ql x z;have:=m.len;lia) qd;have e3:oG [tq o,.ref d] T2=.ok (.ref D) T3:=e3;obtain⟨B,e4,O⟩:=Rb (τ:=[tq o,tq p,.ref d,.int<|Su.cS (Kl.K p) o 1]) (S0:=T2) (cr:=eFn oG<|jy (jx 0)<|jy (jx 2) jG) (cx:=jx 1) (x:=p) k l3 (by dsimp[jW,lA,bools,uq,e3]) (λT=>by dsimp[jW,bools,uq]);rw[l3.K () Z _ pp]at e4;have c:Kz (λ_=>False) (λ_=>True) T3 B:=O.kz;rw[show V4 o p=Su.cS (Kl.K o) p 1 from aR h0];refine⟨B,G,?_,L.go c (λ_ _ z=>z.elim) (λ_ _ z=>z) (λz=>z) trivial,m.trans<|P.old c (λ_ _ _ z=>z) λ_ _ _=>trivial⟩
  ·unfold p5 uP uc;dsimp[jW,lA,bools,lX,Nat.reduceAdd,Nat.reduceSub,e2,q,e4]
 ·have q:(Su.cS (Kl.K p) o 1 == 0)=false:=cB.mpr h0;rw[show V4 o p=Su.cS (Kl.K p) o 1 from aN h0];refine⟨T2,j,?_,t,m⟩
  ·unfold p5 uP uc;dsimp[jW,lA,bools,lX,Nat.reduceAdd,Nat.reduceSub,e2,q]
def Us{N:Nat}{J:Os}{o p:ae}(hN:N<5)(U:∀x∈J,x.Perm<|rg N)(Z:o∈J)(hp:p∈J):ldq o p=decide ((o,p)∈Ld J):=by
 have d:∀{a b:ae},b.Perm (rg N)->(Su.cS (Kl.K b) a 1≠0 ↔ ∃e∈Kl.K b,e.1=a/\Po.val e.2 1≠0):=λ{a b} pb=>by
  have z:=Kl.Ff () pb;have nd:Kl.Nd (Kl.K b):=⟨z.cn.gd.nd,λe c=>(z.cn.gd.ok e c).nd⟩;constructor
  ·intro h;obtain⟨e,c,j⟩:=Kl.Nd.has h;exact⟨e,c,j,by rw[nd.val c,j];exact h⟩
  ·rintro⟨e,c,rfl,h⟩
   rwa [nd.val c]at h
 unfold ldq;refine eo.mpr ?_;rw[d<|U p hp,d<|U o Z];constructor
 ·rintro(⟨e,c,rfl,h⟩|⟨e,c,rfl,h⟩)
  ·refine cL.mpr ⟨p,hp,cL.mpr ⟨e,c,?_⟩⟩;unfold SM;rw[aN h];exact aJ ..
  ·refine cL.mpr ⟨o,Z,cL.mpr ⟨e,c,?_⟩⟩;unfold SM;rw[aN h];exact aO _<|aJ ..
 ·intro h;obtain⟨u,k,h⟩:=cL.mp h;obtain⟨e,c,h⟩:=cL.mp h;unfold SM at h;split at h
  ·cases h
  ·rename_i h0
   rcases bw.mp h with z|z
   ·obtain⟨f,g⟩:=Prod.mk.inj z;exact .inl ⟨e,by rw[g];exact c,f.symm,h0⟩
   ·obtain⟨f,g⟩:=Prod.mk.inj<|aW.mp z;exact .inr ⟨e,by rw[f];exact c,g.symm,h0⟩
def X_{N:Nat}{J:Os}{o p:ae}(hN:N<5)(U:∀x∈J,x.Perm<|rg N)(hv:∀o∈J,∀e∈Kl.K o,Po.val e.2 1≠0->Po.val e.2 1=1)(Z:o∈J)(hp:p∈J):V4 o p=if (o,p)∈Ld J then 1 else 0:=by
 have one:∀{a b:ae},b∈J->Su.cS (Kl.K b) a 1≠0->Su.cS (Kl.K b) a 1=1:=λ{a b} hb h=>by
  have z:=Kl.Ff ()<|U b hb;have nd:Kl.Nd (Kl.K b):=⟨z.cn.gd.nd,λe c=>(z.cn.gd.ok e c).nd⟩;obtain⟨e,c,d⟩:=Kl.Nd.has h;have v:=nd.val c 1;rw[d]at v;rw[<- v];exact hv b hb e c<|by rw[v];exact h
 have q:=Us hN U Z hp;unfold ldq at q;have q:=eo.mp q;unfold V4;by_cases h0:Su.cS (Kl.K p) o 1=0
 ·rw[aR h0];by_cases h1:Su.cS (Kl.K o) p 1=0
  ·rw[h1,aN λz=>(q.mpr z).elim (λy=>y h0) λy=>y h1]
  ·rw[one Z h1,aR<|q.mp<|.inr h1]
 ·rw[aN h0,one hp h0,aR<|q.mp<|.inl h0]
end K69
namespace K69
open PySem L2 Am
open Su (Es En)
open Fw (rg)
def Of{T:jB}{n a:Nat}(h:lz T n=some kvs)(ha:jA T a=some xs):lz (T.set a o) n=some kvs:=Am.Ig (by
 have ne:a≠n:=λz=>by
  subst z;have e:=jP ha
  rcases Am.E9 h with z|z<;>rw[z]at e<;>cases e
 rw[bG ne];exact Am.E9 h)
def Ox{T:jB}{n a:Nat}(h:j_ T n=some kvs)(ha:jA T a=some xs):j_ (T.set a o) n=some kvs:=Am.DO (by
 have ne:a≠n:=λz=>by
  subst z;have e:=jP ha
  rcases Am.BC h with z|z<;>rw[z]at e<;>cases e
 rw[bG ne];exact Am.BC h)
def Q4{T:jB}{n a:Nat}(h:jV T n=some kvs)(ha:jA T a=some xs):jV (T.set a o) n=some kvs:=qZ (by
 rw[bG λz=>Su.qD h ha z.symm];exact lN h)
def Kw.adC{N d a:Nat}{Q:Nat->Prop}{T:jB}{K:Es}(h:Kw N Q T d K)(ha:jA T a=some xs):Kw N Q (T.set a o) d K:=
 ⟨Q4 h.dd ha,h.nd,h.pm,λe c=>by
  obtain⟨es,r,l⟩:=h.at_ e c;exact⟨es,⟨Of r.l ha,λf hf=>⟨Ox (r.a f hf).1 ha,(r.a f hf).2⟩,r.q⟩,l⟩⟩
meta abbrev Q0:Nat->Prop:=λ_=>False
abbrev Dr (k:Nat)(a b:ae):Int:=if Su.pF a k=true then(if b=a then 1 else 0)else if b=a then -1 else if Su.pF b k=true then V4 a b else 0
def Ow{S:jB}{N k:Nat}{o:ae}(lo:o.length=N)(Z:N<6)(J:1<=k)(U:k<N):∃S',nB [tq o] S=.ok (.ref S.length) S'/\Hv false (.int k) (.ref S.length) S'=.ok (.bl<|Su.pF o k) S'/\kO S S':=⟨_,YW lo (),by
 show opt (jA _ _) _=_;rw[jQ,jS,ug,yG lo J U];rfl,Kp.refl.lay⟩
def aaO{N d g k r:Nat}{K:Es}{a b l:ae}(hN:N<5)(pa:a.Perm<|rg N)(pb:b.Perm<|rg N)(k1:1<=k)(k2:k<N)(h:Kw N Q0 T d K)(hr:jA T r=some (l.map .int))(ll:l.length<=1000) :
  ∃(T':jB) (K':Es),r_ [tq a,.ref g,.int k,.ref d,.ref r,tq b] T=.nx [tq a,.ref g,.int k,.ref d,.ref r,tq b] T'/\Kw N Q0 T' d K'/\jA T' r=some ((l++[Dr k a b]).map .int)/\Kz (λx=>x=r\/x=d) Q0 T T':=by
 have Z:=mG pa;have Y:=mG pb;obtain⟨T1,e1,m,t⟩:=Ow (S:=T) Z () k1 k2;have W:r≠d:=λz=>Su.qD h.dd hr z.symm;have J:Kz (λ_=>False) (λ_=>True) T T1:=t.kz;have h1:=h.go J (λ_ _ z=>z.elim) (λ_ _ z=>z) (λz=>z) trivial;have f:=t.lst _ _ (λz=>z) hr;have C:(l.map A.int).length<16777216:=by rw[aF];lia
 have eq:=RL (S:=T1) (a:=b) (b:=a);have j:∀(U:jB) (K':Es) (v:Int),Kw N Q0 U d K'->jA U r=some (l.map .int)->Kz (λx=>x=r\/x=d) Q0 T U->Kw N Q0 (U.set r<|.lst<|l.map .int++[.int v]) d K'/\jA (U.set r<|.lst<|l.map .int++[.int v]) r=some ((l++[v]).map .int)/\Kz (λx=>x=r\/x=d) Q0 T (U.set r<|.lst<|l.map .int++[.int v]):=λU K' v V P zU=>⟨V.adC P,by rw[pK<|mw P,bB];rfl,zU.old (Kp.refl.tV (b:=λx=>x=r\/x=d)<|.inl<|.inl rfl).kz (λ_ _ z=>z) λ_ _ z=>z⟩;unfold r_;by_cases c:b=a
 ·rw[bg c]at eq
  cases hf:Su.pF a k with
  | true=>
   rw[hf]at m;have p:Dr k a b=1:=by unfold Dr;rw[hf,aR c];rfl
   rw[p];obtain⟨p1,p2,p3⟩:=j T1 K 1 h1 f t.of0.kz;refine⟨_,K,?_,p1,p2,p3⟩;dsimp[jW,lA,bools,uq,e1,m,eq,f,mV C];rfl
  | false=>
   rw[hf]at m;have p:Dr k a b=-1:=by unfold Dr;rw[hf,aN br,aR c]
   rw[p];obtain⟨p1,p2,p3⟩:=j T1 K (-1) h1 f t.of0.kz;refine⟨_,K,?_,p1,p2,p3⟩;dsimp[jW,lA,bools,uq,e1,m,eq,f,mV C]
 ·rw[bH c]at eq
  cases hf:Su.pF a k with
  | true=>
   rw[hf]at m;have p:Dr k a b=0:=by unfold Dr;rw[hf,aN c];rfl
   rw[p];obtain⟨p1,p2,p3⟩:=j T1 K 0 h1 f t.of0.kz;refine⟨_,K,?_,p1,p2,p3⟩;dsimp[jW,lA,bools,uq,e1,m,eq,f,mV C];rfl
  | false=>
   rw[hf]at m;obtain⟨T2,e2,D,F⟩:=Ow (S:=T1) Y (show N<6 by lia) k1 k2;have G:Kz (λ_=>False) (λ_=>True) T1 T2:=F.kz;have h2:=h1.go G (λ_ _ z=>z.elim) (λ_ _ z=>z) (λz=>z) trivial;have q:=F.lst _ _ (λz=>z) f;have M:Kz (λx=>x=r\/x=d) Q0 T T2:=(t.trans F).of0.kz
   cases hg:Su.pF b k with
   | false=>
    rw[hg]at D;have p:Dr k a b=0:=by unfold Dr;rw[hf,aN br,aN c,hg,aN br]
    rw[p];obtain⟨p1,p2,p3⟩:=j T2 K 0 h2 q M;refine⟨_,K,?_,p1,p2,p3⟩;dsimp[jW,lA,bools,uq,e1,m,eq,e2,D,q,mV C]
   | true=>
    rw[hg]at D;have p:Dr k a b=V4 a b:=by unfold Dr;rw[hf,aN br,aN c,hg,aR rfl]
    rw[p];obtain⟨T3,L,e3,h3,O⟩:=NO hN pa pb h2 (λ_ z=>z.elim) λz=>z;have B:=O.lst W q;obtain⟨p1,p2,p3⟩:=j T3 L (V4 a b) h3 B<|M.old O (λn _ hn z=>hn<|.inr z) λ_ _ z=>z;refine⟨_,L,?_,p1,p2,p3⟩;dsimp[jW,lA,bools,uq,e1,m,eq,e2,D,e3,q,B,mV C]
def VQ{T:jB}{N d g k:Nat}{K:Es}{a:ae}{U:Os}(Z:N<5)(pa:a.Perm<|rg N)(pos:∀p∈U,p.Perm<|rg N)(k1:1<=k)(k2:k<N)(h:Kw N Q0 T d K)(hg:jA T g=some (U.map tq))(ll:U.length<=1000) :
  ∃(r:Nat) (T':jB) (K':Es),m5 [tq a,.ref g,.int k,.ref d] T=.ok (.ref r) T'/\jA T' r=some ((U.map<|Dr k a).map .int)/\T.length<=r/\Kw N Q0 T' d K'/\Kz (λx=>x=d) Q0 T T':=by
 obtain⟨T1,f⟩:∃T1,T1=T++[O.lst []]:=⟨_,rfl⟩;have C:kO T T1:=by rw[f];k_ne
 have J:newL [] T=.ok (.ref T.length) T1:=by rw[f];exact kQ (show 0<=16777216 by decide)
 have r1:jA T1 T.length=some (([]:ae).map .int):=by rw[f];exact jQ
 have F:Kz (λ_=>False) (λ_=>True) T T1:=C.kz;have h1:=h.go F (λ_ _ z=>z.elim) (λ_ _ z=>z) (λz=>z) trivial;have j:=C.lst _ _ (λz=>z) hg;have gd:g≠d:=λz=>Su.qD h1.dd j z.symm;have M:g≠T.length:=by have:=mw hg;lia
 obtain⟨y,T2,c,e2,h2,D,B⟩:∃(y:A) (T2:jB) (c:Es),ku wk (jX 5) r_ [tq a,.ref g,.int k,.ref d,.ref T.length,.unb] T1=.nx [tq a,.ref g,.int k,.ref d,.ref T.length,y] T2/\Kw N Q0 T2 d c/\jA T2 T.length=some ((U.map<|Dr k a).map .int)/\Kz (λx=>x=T.length\/x=d) Q0 T1 T2:=
  qe (n:=g) (xs:=U.map tq) (S1:=T1) (show wk _ _=_ from l_ (by dsimp[jW,lA,bools]) j)
   (λi τ S=>∃(y:A) (K':Es),τ=[tq a,.ref g,.int k,.ref d,.ref T.length,y]/\Kw N Q0 S d K'/\jA S T.length=some (((U.take i).map<|Dr k a).map .int)/\Kz (λx=>x=T.length\/x=d) Q0 T1 S)
   (λr=>∃(y:A) (T2:jB) (c:Es),r=.nx [tq a,.ref g,.int k,.ref d,.ref T.length,y] T2/\Kw N Q0 T2 d c/\jA T2 T.length=some ((U.map<|Dr k a).map .int)/\Kz (λx=>x=T.length\/x=d) Q0 T1 T2)
   ⟨_,K,rfl,h1,r1,Kz.refl⟩ (λi τ S L=>by obtain⟨_,_,_,_,_,z⟩:=L;exact z.lst (λq=>q.elim M gd) j) (by
   rintro i z τ S G ⟨y,K',rfl,hS,m,t⟩;rw[aK]at G;obtain⟨b,hb,rfl⟩:=aQ.mp G;obtain⟨S2,c,e2,h2,D,B⟩:=aaO (g:=g) Z pa (pos b<|aY hb) k1 k2 hS m (by rw[aF,cu];lia);refine⟨[tq a,.ref g,.int k,.ref d,.ref T.length,tq b],S,rfl,.inl ⟨_,S2,e2,_,c,rfl,h2,?_,t.trans B⟩⟩;rw[D,b6,hb,bB,bB,bB];rfl) (by
   rintro τ S ⟨y,K',rfl,hS,m,t⟩;rw[aF,b8]at m;exact⟨y,S,K',rfl,hS,m,t⟩)
 refine⟨T.length,T2,c,?_,D,aP _,h2,(show Kz (λx=>x=d) Q0 T T1 from C.of0.kz).old B (λn ln hn z=>z.elim (λq=>()) hn) λ_ _ z=>z⟩;unfold m5 zD y_;dsimp[jW,lA,bools,lX,Nat.reduceAdd,Nat.reduceSub,uq,J,↓e2]
end K69
namespace K69
open PySem L2 Am
open Su (Es En)
open Fw (rg)
structure Ll (S S':jB):Prop where
 len:S.length<=S'.length
 l:∀n xs,jA S n=some xs->jA S' n=some xs
def Ll.trans(h:Ll S S1)(k:Ll S1 S2):Ll S S2:=⟨bI h.len k.len,λn xs e=>k.l _ _<|h.l _ _ e⟩
def xj(k:kO S S'):Ll S S':=⟨k.len,λ_ _ e=>k.lst _ _ (λz=>z) e⟩
def CN{N d:Nat}{K:Es}(h:Kw N Q0 S d K)(k:Kz (λx=>x=d) Q0 S S'):Ll S S':=⟨k.len,λn xs e=>k.lst (λz=>Su.qD h.dd e z.symm) e⟩
def Tq.ll{R:Nat}(h:Tq S R T)(k:Ll S S'):Tq S' R T:=by
 obtain⟨c,h1,h2⟩:=h.ex;exact⟨c,k.l _ _ h1,h2.mono λr _ xs e=>k.l _ _ e⟩
abbrev ldR (k:Nat)(J:Os):M2:=J.map λa=>J.map<|Dr k a
abbrev ldT (N:Nat)(J:Os):List M2:=(List.range<|N-1).map λi=>ldR (i+1) J
def ZI{N d g k:Nat}{K:Es}{Z:Os}(hN:N<5)(pos:∀p∈Z,p.Perm<|rg N)(k1:1<=k)(k2:k<N)(h:Kw N Q0 T d K)(hg:jA T g=some (Z.map tq))(ll:Z.length<=1000) :
  ∃(R:Nat) (T':jB) (K':Es),j8 [none,some 1,some 0,some 2] (ly<|jx 1) (jX 0) nN (eFn m5<|jy (jx 0)<|jy (jx 1)<|jy (jx 2)<|jy (jx 3) jG) [.int k,.ref g,.ref d] T=.ok (.ref R) T'/\Tq T' R (ldR k Z)/\Kw N Q0 T' d K'/\Kz (λx=>x=d) Q0 T T':=by
 obtain⟨ys,j,G,c,K',L,r1,hS,M⟩:=yz (cap:=[some 1,some 0,some 2]) (e:=eFn m5<|jy (jx 0)<|jy (jx 1)<|jy (jx 2)<|jy (jx 3) jG) (τ:=[.int k,.ref g,.ref d]) (S:=T) (S1:=T) (src:=ly<|jx 1) (s:=lJ g (Z.map tq).length) (l_ (by dsimp[jW,lA,bools]) hg)
  (λi acc U=>∃(c:ag) (K':Es),acc=c.map .ref/\Rows U c ((Z.take i).map λa=>Z.map<|Dr k a)/\Kw N Q0 U d K'/\Kz (λx=>x=d) Q0 T U) ⟨[],K,rfl,trivial,h,Kz.refl⟩ (λi acc U f hP=>by
   obtain⟨c,K',rfl,D,t,m⟩:=hP;have f:i<(Z.map tq).length:=f;rw[aF]at f;have C:=(CN h m).l _ _ hg;obtain⟨r,J,F,e1,O,_,h1,B⟩:=VQ (a:=Z[i]) hN (pos _<|cK f) pos k1 k2 t C ll;refine⟨tq Z[i],.ref r,J,Ko C<|by rw[aK,aH f];rfl,?_,c++[r],F,by rw[bB];rfl,?_,h1,m.trans B⟩
   ·show eFn m5 (jy (jx 0)<|jy (jx 1)<|jy (jx 2)<|jy (jx 3) jG) [tq Z[i],.ref g,.int k,.ref d] U=_;dsimp[jW,lA,bools,uq,e1]
   ·rw[b6,aH f,bB];exact(D.mono λq _ xs z=>(CN t B).l _ _ z).app ⟨O,trivial⟩) (λacc U hP=>by
   obtain⟨_,_,_,_,_,m⟩:=hP;exact LU<|(CN h m).l _ _ hg) (by show(Z.map tq).length<=_;rw[aF];lia)
 rw[show(lJ g (Z.map tq).length).k=Z.length from aF ..,b8]at r1;subst L;have q:kO j (j++[.lst<|c.map .ref]):=Kp.refl.lay;have P:Kz (λ_=>False) (λ_=>True) j (j++[.lst<|c.map .ref]):=q.kz;exact⟨j.length,_,K',G,⟨c,jQ,r1.mono λr _ xs z=>ki z⟩,hS.go P (λ_ _ z=>z.elim) (λ_ _ z=>z) (λz=>z) trivial,M.trans q.of0.kz⟩
def Yv{N d g:Nat}{K:Es}{os:Os}(hN:N<5)(h1:1<=N)(pos:∀p∈os,p.Perm<|rg N)(ne:os≠[])(h:Kw N Q0 T d K)(hg:jA T g=some (os.map tq))(ll:os.length<=120) :
  ∃(R:Nat) (T':jB),j8 [none,some 2,some 3] (nZ (eC<|.int 1)<|jZ (f1 nL)<|jy (jH m_ (jx 2)<|eC<|.int 0) jG) (jX 0) nN (j8 [none,some 1,some 0,some 2] (ly<|jx 1) (jX 0) nN<|eFn m5<|jy (jx 0)<|jy (jx 1)<|jy (jx 2)<|jy (jx 3) jG) (x0::x1::.ref g::.ref d::xs) T=.ok (.ref R) T'/\T3 T' R (ldT N os)/\Ll T T':=by
 obtain⟨B,ot,rfl⟩:∃o t,os=o::t:=by
  cases os with
  | nil=>exact absurd rfl ne
  | cons o t=>exact⟨o,t,rfl⟩
 have W:=mG<|pos B<|aJ ..;have hs:nZ (eC<|.int 1) (jZ (f1 nL)<|jy (jH m_ (jx 2)<|eC<|.int 0) jG) (x0::x1::.ref g::.ref d::xs) T=.ok (oX 1 (N:Int)) T:=tM (S1:=T) (by dsimp[jW,bools]) (by
  have hg:=hg;rw[bF]at hg;dsimp[jW,lA,bools,hg,xg,uq,show nL (tq B) T=.ok (.int (N:Int)) T from by show Am.R.ok (A.int ((B.map A.int).length:Int)) T=_;rw[aF,W]]) (nU ⋯ ⋯)<|nU () ()
 obtain⟨ys,S',e1,f,D,V,J,r1,hS,Z⟩:=yz (cap:=[some 2,some 3]) (e:=j8 [none,some 1,some 0,some 2] (ly<|jx 1) (jX 0) nN<|eFn m5<|jy (jx 0)<|jy (jx 1)<|jy (jx 2)<|jy (jx 3) jG) (τ:=x0::x1::.ref g::.ref d::xs) (S:=T) (S1:=T) (src:=nZ (eC<|.int 1)<|jZ (f1 nL)<|jy (jH m_ (jx 2)<|eC<|.int 0) jG) (s:=oX 1 (N:Int)) hs
  (λi acc U=>∃(f:ag) (D:Es),acc=f.map .ref/\f.length=i/\(∀j m,f[j]?=some m->Tq U m (ldR (j+1) (B::ot)))/\Kw N Q0 U d D/\Kz (λx=>x=d) Q0 T U) ⟨[],K,rfl,rfl,(λj m z=>by simp at z),h,Kz.refl⟩ (λi acc U q hP=>by
   obtain⟨f,D,rfl,lm,hm,F,L⟩:=hP;have q:i<((N:Int)-1).toNat:=q;obtain⟨R,P,M,e2,Y,h2,G⟩:=ZI (T:=U) (k:=i+1) hN pos () () F ((CN h L).l _ _ hg) ();refine⟨.int ((i+1:Nat):Int),.ref R,P,?_,e2,f++[R],M,by rw[bB];rfl,by rw[bq,lm];rfl,λj m z=>?_,h2,L.trans G⟩
   ·show(if i<((N:Int)-1).toNat then some (A.int<|1+(i:Int))else none)=_;rw[aR q,show 1+(i:Int)=((i+1:Nat):Int)by lia]
   ·rw[List.getElem?_append]at z;split at z
    ·exact(hm j m z).ll (CN F G)
    ·rename_i c;obtain⟨hj,e⟩:=aG.mp z;have:j=i:=by simp at hj;lia
     subst this;have:m=R:=by
      have:j-f.length=0:=()
      rw[this]at z;exact(a_ z).symm
     rw[this];exact Y) (λ_ _ _=>rfl) (by show((N:Int)-1).toNat<=_;lia)
 have O:(oX 1 (N:Int)).k=N-1:=by show((N:Int)-1).toNat=_;lia
 rw[O]at J;subst V;refine⟨S'.length,_,e1,⟨f,jQ,by unfold ldT;rw[aF,b_,J],λi m z=>?_⟩,(CN h Z).trans<|xj Kp.refl.lay⟩;have C:i<N-1:=by have:=(aG.mp z).1;lia
 unfold ldT;rw[aL,aK,dc C];exact(r1 i m z).ll (xj Kp.refl.lay)
def TY{N k:Nat}{J:Os}{a b:ae}(U:N<5)(Z:∀x∈J,x.Perm<|rg N)(hv:∀o∈J,∀e∈Kl.K o,Po.val e.2 1≠0->Po.val e.2 1=1)(ha:a∈J)(hb:b∈J):Dr k a b=AB (Ld J) k a b:=by
 unfold Dr AB;rw[X_ U Z hv ha hb];by_cases c:a=b
 ·subst c
  cases Su.pF a k<;>simp
 ·have d:¬b=a:=λz=>c z.symm
  cases Su.pF a k<;>cases Su.pF b k<;>simp[c,d]
def Xj{N:Nat}{J:Os}(U:N<5)(Z:∀x∈J,x.Perm<|rg N)(hv:∀o∈J,∀e∈Kl.K o,Po.val e.2 1≠0->Po.val e.2 1=1):ldT N J=Tt N J:=by
 unfold ldT Tt;refine cg λi _=>?_;unfold ldR Oo;refine cg λa ha=>?_;unfold GS;exact cg λb hb=>TY U Z hv ha hb
end K69
namespace K69
open PySem L2 Am
abbrev SJ (l u:Nat)(ids:ag):Prop:=ids.Nodup/\∀x∈ids,l<=x/\x<u
def SJ.app{l v:Nat}{bs:ag}(h:SJ l u as)(k:SJ u v bs)(lu:l<=u)(J:u<=v):SJ l v (as++bs):=by
 refine⟨bN.mpr ⟨h.1,k.1,λa ha b hb e=>?_⟩,λx c=>?_⟩
 ·have h1:=h.2 a ha;have h2:=k.2 b hb
  lia
 ·rcases bJ.mp c with z|z
  ·have:=h.2 x z;lia
  ·have:=k.2 x z;lia
def SJ.one{v x:Nat}(h:u<=x)(k:x<v):SJ u v [x]:=⟨by simp,λy c=>by rw[aW.mp c];exact⟨h,k⟩⟩
meta abbrev Tn:=Nat×ag
abbrev yN (S:jB):List Tn->List M2->Prop
 | [],[]=>True
 | t::ts,T::Ts=>(jA S t.1=some (t.2.map .ref)/\Rows S t.2 T)/\yN S ts Ts
 | _,_=>False
theorem yN.imp:∀{ts:List Tn}{Ts:List M2},(∀t∈ts,∀r∈t.1::t.2,∀xs,jA S r=some xs->jA S' r=some xs)->yN S ts Ts->yN S' ts Ts
 | [],[],_,_=>trivial
 | t::ts,T::Ts,f,h=>⟨⟨f t (aJ ..) _ (aJ ..) _ h.1.1,h.1.2.mono λr c xs e=>f t (aJ ..) r (aO _ c) _ e⟩,yN.imp (λu d=>f u<|aO _ d) h.2⟩
 | [],_::_,_,h=>h
 | _::_,[],_,h=>h
def yN.ll(h:yN S ts Ts)(k:Ll S S'):yN S' ts Ts:=h.imp λ_ _ r _ xs e=>k.l r xs e
theorem yN.snoc{t:Tn}{T:M2}(h1:jA S t.1=some (t.2.map .ref))(h2:Rows S t.2 T):∀{ts:List Tn}{Ts:List M2},yN S ts Ts->yN S (ts++[t]) (Ts++[T])
 | [],[],_=>⟨⟨h1,h2⟩,trivial⟩
 | _::_,_::_,h=>⟨h.1,yN.snoc h1 h2 h.2⟩
 | [],_::_,h=>h.elim
 | _::_,[],h=>h.elim
theorem yN.len:∀{ts:List Tn}{Ts:List M2},yN S ts Ts->ts.length=Ts.length
 | [],[],_=>rfl
 | _::_,_::_,h=>cH (·+1) (yN.len h.2)
 | [],_::_,h=>h.elim
 | _::_,[],h=>h.elim
abbrev tid (t:Tn):ag:=t.2++[t.1]
def UD{T:jB}{N L k g:Nat}{J:Os}(Z:N<6)(lo:∀o∈J,o.length=N)(k1:1<=k)(k2:k<N)(hL:Ks T L m ps)(hg:jA T g=some (J.map tq))(ll:J.length<=1000) :
  ∃(R:Nat) (rs:ag) (T':jB),j8 [none,some 0,some 2,some 1] (ly<|jx 1) (jX 0) nN (j8 [none,some 1,some 0,some 2] (ly<|jx 3) (jX 0) nN<|eFn kR<|jy (jx 1)<|jy (jx 2)<|jy (jx 0)<|jy (jx 3) jG) [.int k,.ref g,.ref L] T=.ok (.ref R) T'/\jA T' R=some (rs.map .ref)/\Rows T' rs (Oo ps k J)/\SJ T.length T'.length (rs++[R])/\kO T T':=by
 obtain⟨ys,p,B,rs,C,r1,D,q⟩:=yz (cap:=[some 0,some 2,some 1]) (e:=j8 [none,some 1,some 0,some 2] (ly<|jx 3) (jX 0) nN<|eFn kR<|jy (jx 1)<|jy (jx 2)<|jy (jx 0)<|jy (jx 3) jG) (τ:=[.int k,.ref g,.ref L]) (S:=T) (S1:=T) (src:=ly<|jx 1) (s:=lJ g (J.map tq).length) (l_ (by dsimp[jW,lA,bools]) hg)
  (λi acc U=>∃rs:ag,acc=rs.map .ref/\Rows U rs ((J.take i).map λa=>GS ps k J a)/\SJ T.length U.length rs/\kO T U) ⟨[],rfl,trivial,⟨cT,nofun⟩,Kp.refl⟩ (λi acc U d hP=>by
   obtain⟨rs,rfl,t,F,c⟩:=hP;have d:i<(J.map tq).length:=d;rw[aF]at d;obtain⟨f,e1,j⟩:=YG (a:=J[i]) Z (lo _<|cK d) lo k1 k2 (hL.kp c λz=>z) (c.lst _ _ (λz=>z) hg) ll;have lq:(f++[O.lst<|(GS ps k J J[i]).map .int]).length=f.length+1:=by rw[bq];rfl
   refine⟨tq J[i],.ref f.length,_,Ko (c.lst _ _ (λz=>z) hg)<|by rw[aK,aH d];rfl,e1,rs++[f.length],by rw[bB];rfl,?_,F.app (.one j.len<|by rw[lq];lia) c.len (by rw[lq];have:=j.len;lia),(c.trans j).lay⟩;rw[b6,aH d,bB];exact Rows.abS t j.lay jQ) (λacc U hP=>by
   obtain⟨_,_,_,_,c⟩:=hP;exact LU<|c.lst _ _ (λz=>z) hg) (by show(J.map tq).length<=_;rw[aF];lia)
 rw[show(lJ g (J.map tq).length).k=J.length from aF ..,b8]at r1;subst C;have lq:(p++[O.lst<|rs.map .ref]).length=p.length+1:=by rw[bq];rfl
 exact⟨p.length,rs,_,B,jQ,r1.mono λr _ xs z=>ki z,D.app (.one (aP _)<|by rw[lq];lia) q.len<|by rw[lq];lia,q.lay⟩
def SV{S:jB}{N g:Nat}{os:Os}(h5:N<5)(hi:∀o∈os,o.Perm (Fw.rg N)/\Iv.inv o<8)(hv:∀o∈os,∀e∈Kl.K o,Po.val e.2 1≠0->Po.val e.2 1=1)(hg:jA S g=some (os.map tq))(ll:os.length<=120)(ne:os≠[])(h1:1<=N) :
  ∃(R:Nat) (ts:List Tn) (S':jB),mT [.ref g] S=.ok (.ref R) S'/\jA S' R=some (ts.map λt=>.ref t.1)/\yN S' ts (Tt N os)/\SJ S.length S'.length (ts.flatMap tid++[R])/\kO S S':=by
 obtain⟨L,S1,e1,hL,m⟩:=Rl (S:=S) h5 hi hv hg ll;have d:=m.lst _ _ (λz=>z) hg;obtain⟨f,C,rfl⟩:∃o t,os=o::t:=by
  cases os with
  | nil=>exact absurd rfl ne
  | cons o t=>exact⟨o,t,rfl⟩
 have lo:∀o∈f::C,o.length=N:=λo ho=>mG (hi o ho).1;have M:=lo f<|aJ ..;have hs:nZ (eC<|.int 1) (jZ (f1 nL)<|jy (jH m_ (jx 0)<|eC<|.int 0) jG) [.ref g,.ref L] S1=.ok (oX 1 (N:Int)) S1:=tM (S1:=S1) (by dsimp[jW,bools]) (by rw[bF]at d;dsimp[jW,lA,bools,d,xg,uq,show nL (tq f) S1=.ok (.int (N:Int)) S1 from by show Am.R.ok (A.int ((f.map A.int).length:Int)) S1=_;rw[aF,M]]) (nU ⋯ ⋯)<|nU () ();obtain⟨ys,S',G,ts,P,r1,W,D⟩:=yz (cap:=[some 0,some 1]) (e:=j8 [none,some 0,some 2,some 1] (ly<|jx 1) (jX 0) nN<|j8 [none,some 1,some 0,some 2] (ly<|jx 3) (jX 0) nN<|eFn kR<|jy (jx 1)<|jy (jx 2)<|jy (jx 0)<|jy (jx 3) jG) (τ:=[.ref g,.ref L]) (S:=S1) (S1:=S1) (src:=nZ (eC<|.int 1)<|jZ (f1 nL)<|jy (jH m_ (jx 0)<|eC<|.int 0) jG) (s:=oX 1 (N:Int)) hs
  (λi acc U=>∃ts:List Tn,acc=(ts.map λt=>.ref t.1)/\yN U ts ((List.range i).map λj=>Oo (Ld (f::C)) (j+1) (f::C))/\SJ S.length U.length (ts.flatMap tid)/\kO S1 U) ⟨[],rfl,trivial,⟨cT,nofun⟩,Kp.refl⟩ (λi acc U c hP=>by
   obtain⟨ts,rfl,Z,iU,q⟩:=hP;have c:i<((N:Int)-1).toNat:=c;obtain⟨R,p,J,e2,Y,r2,V,B⟩:=UD (T:=U) (k:=i+1) () lo () () (hL.kp q λz=>z) (q.lst _ _ (λz=>z) d) ();refine⟨.int ((i+1:Nat):Int),.ref R,J,?_,e2,ts++[(R,p)],by rw[bB];rfl,?_,?_,q.trans B⟩
   ·show(if i<((N:Int)-1).toNat then some (A.int<|1+(i:Int))else none)=_;rw[aR c,show 1+(i:Int)=((i+1:Nat):Int)by lia]
   ·rw[List.range_succ,bB];exact yN.snoc (t:=(R,p)) Y r2 (Z.ll<|xj B)
   ·rw[d7];have e:[(R,p)].flatMap tid=p++[R]:=by simp[tid]
    rw[e];exact iU.app V (by have:=m.len;have:=q.len;lia) B.len) (λ_ _ _=>rfl) (by show((N:Int)-1).toNat<=_;lia)
 have F:(oX 1 (N:Int)).k=N-1:=by show((N:Int)-1).toNat=_;lia
 rw[F]at r1;subst P;have lq:(S'++[O.lst<|ts.map λt=>.ref t.1]).length=S'.length+1:=by rw[bq];rfl
 refine⟨S'.length,ts,_,?_,jQ,r1.ll<|xj Kp.refl.lay,W.app (.one (aP _)<|by rw[lq];lia) (by have:=m.len;have:=D.len;lia)<|by rw[lq];lia,(m.trans D).lay⟩;unfold mT qI qv;dsimp[jW,lA,bools,lX,Nat.reduceAdd,Nat.reduceSub,e1,↓G]
end K69
namespace K69
open PySem L2 Am
def O1{n:Nat}(h:jA S n=some xs):A5 (.ref n) (.ty "list") S=.ok (.bl true) S:=by
 show opt ((jA S n).map _) _=_;rw[h];rfl
def Vb{n k:Nat}(h:jA S n=some (List.replicate k<|.bl true)):Ih (.ref n) S=.ok (.bl true) S:=by
 show opt (jA S n) _=_;rw[h];have:A.Nr (List.replicate k<|.bl true)=some (List.replicate k true):=by
  have:=Wl (λ_:Nat=>true) (List.range k)
  rwa [jm,jm,b_]at this
 show opt (A.Nr _) _=_;rw[this];show Am.R.ok (A.bl<|(List.replicate k true).all λb=>b) S=_;rw[show((List.replicate k true).all λb=>b)=true from di.mpr λx c=>(List.mem_replicate.mp c).2]
theorem Fj{n:Nat}:∀{rs qs:ag}{T:M2},Rows S rs T->Rows S qs T->pW (rQ S<|n+2) (rs.map .ref) (qs.map .ref)=some true
 | [],[],[],_,_=>rfl
 | r::rs,q::qs,x::T,h,h'=>by
  show(rQ S (n+2) (.ref r)<|.ref q).bind (λp=>(pW (rQ S<|n+2) (rs.map .ref)<|qs.map .ref).map λb=>p && b)=_;have e:rQ S (n+2) (.ref r) (.ref q)=some true:=by
   show(jA S r).bind (λxs=>(jA S q).bind λys=>pW (rQ S<|n+1) xs ys)=_;rw[h.1,bQ,h'.1,bQ,tU,bg rfl]
  rw[e,Fj h.2 h'.2];rfl
 | [],[],_::_,h,_=>h.elim
 | [],_::_,[],_,h=>h.elim
 | [],_::_,_::_,h,_=>h.elim
 | _::_,_,[],h,_=>h.elim
 | _::_,[],_::_,_,h=>h.elim
theorem Ln:∀{ts us:List Tn}{Ts:List M2},yN S ts Ts->yN S us Ts->pW (rQ S 11) (ts.map λt=>.ref t.1) (us.map λt=>.ref t.1)=some true
 | [],[],[],_,_=>rfl
 | t::ts,u::us,x::Ts,h,h'=>by
  show(rQ S 11 (.ref t.1)<|.ref u.1).bind (λp=>(pW (rQ S 11) (ts.map λt=>.ref t.1)<|us.map λt=>.ref t.1).map λb=>p && b)=_;have e:rQ S 11 (.ref t.1) (.ref u.1)=some true:=by
   show(jA S t.1).bind (λxs=>(jA S u.1).bind λys=>pW (rQ S 10) xs ys)=_;rw[h.1.1,bQ,h'.1.1,bQ];exact Fj (n:=8) h.1.2 h'.1.2
  rw[e,Ln h.2 h'.2];rfl
 | [],[],_::_,h,_=>h.elim
 | [],_::_,[],_,h=>h.elim
 | [],_::_,_::_,h,_=>h.elim
 | _::_,_,[],h,_=>h.elim
 | _::_,[],_::_,_,h=>h.elim
structure Tz (S:jB)(R:Nat)(ts:List Tn)(Ts:List M2):Prop where
 top:jA S R=some (ts.map λt=>.ref t.1)
 tr:yN S ts Ts
def Tz.ll{R:Nat}(h:Tz S R ts Ts)(k:Ll S S'):Tz S' R ts Ts:=⟨k.l _ _ h.top,h.tr.ll k⟩
theorem WT:∀{ms:ag}{Ts:List M2},ms.length=Ts.length->(∀i m,ms[i]?=some m->Tq S m (Ts.getD i []))->∃ts:List Tn,ts.map (·.1)=ms/\yN S ts Ts
 | [],[],_,_=>⟨[],rfl,trivial⟩
 | m::ms,T::Ts,l,h=>by
  obtain⟨ts,e,r⟩:=WT (ms:=ms) (Ts:=Ts) (Nat.succ.inj l) λi d z=>h (i+1) d z;obtain⟨c,h1,h2⟩:=(h 0 m rfl).ex;exact⟨(m,c)::ts,by rw[bF,e],⟨h1,h2⟩,r⟩
def T3.tz{R:Nat}(h:T3 S R Ts):∃ts,Tz S R ts Ts:=by
 obtain⟨c,h1,h2,h3⟩:=h.ex;obtain⟨ts,e,r⟩:=WT h2 h3;exact⟨ts,by rw[h1,<- e,bC];rfl,r⟩
def Tz.eq{R D:Nat}(h:Tz S R ts Ts)(h':Tz S D us Ts):rQ S 12 (.ref R) (.ref D)=some true:=by
 show(jA S R).bind (λxs=>(jA S D).bind λys=>pW (rQ S 11) xs ys)=_;rw[h.top,bQ,h'.top,bQ];exact Ln h.tr h'.tr
def BV{n:Nat}{xs:ab}{c:Ex}{src:Ic}(hs:src τ S=.ok (lJ n xs.length) S1)(h:jA S1 n=some xs)(J:xs.length<=1000)(step:∀(x:A) (T:jB),x∈xs->kO S1 T->∃T2,c [x] T=.ok (.bl true) T2/\kO T T2) :
  ∃S',jZ (f1 Ih) (jy (j8 [none] src (jX 0) nN c) jG) τ S=.ok (.bl true) S'/\kO S1 S':=by
 obtain⟨d,f,q⟩:=Dq (cap:=[]) (t:=nN) (e:=c) (τ:=τ) (S:=S) (S1:=S1) (src:=src) (xs:=xs) hs h (λ_=>true) (λ_=>.bl true) (λx g U j=>⟨U,rfl,Kp.refl,λ_=>step x U g j⟩) ();have el:((xs.filter λ_=>true).map λ_=>A.bl true)=List.replicate xs.length (.bl true):=by
  rw[iL.mpr λ_ _=>rfl,jm]
 rw[el]at f;have al:=Vb (S:=d++[.lst<|List.replicate xs.length<|.bl true]) (n:=d.length) (k:=xs.length) jQ;exact⟨d++[.lst<|List.replicate xs.length<|.bl true],by dsimp[jW,lA,bools,↓f,al],q.lay⟩
def Oe{v:Int}:nJ [.int v] S=.ok (.bl true) S:=by
 unfold nJ vM vF;dsimp[jW,lA,bools,lX,Nat.reduceAdd,Nat.reduceSub];rfl
theorem Rows.mem:∀{rs:ag}{T:M2},Rows S rs T->∀r∈rs,∃x∈T,jA S r=some (x.map .int)
 | r::rs,x::T,h,q,hq=>by
  rcases bw.mp hq with z|z
  ·subst z;exact⟨x,aJ ..,h.1⟩
  ·obtain⟨y,c,e⟩:=Rows.mem h.2 q z;exact⟨y,aO _ c,e⟩
 | [],_,_,_,z=>nomatch z
 | _::_,[],h,_,_=>h.elim
theorem yN.mem:∀{ts:List Tn}{Ts:List M2},yN S ts Ts->∀t∈ts,∃T∈Ts,jA S t.1=some (t.2.map .ref)/\Rows S t.2 T
 | t::ts,T::Ts,h,q,hq=>by
  rcases bw.mp hq with z|z
  ·subst z;exact⟨T,aJ ..,h.1⟩
  ·obtain⟨y,c,e⟩:=yN.mem h.2 q z;exact⟨y,aO _ c,e⟩
 | [],_,_,_,z=>nomatch z
 | _::_,[],h,_,_=>h.elim
theorem tY:∀{rs:ag}{T:M2},Rows S rs T->rs.length=T.length
 | [],[],_=>rfl
 | _::_,_::_,h=>cH (·+1) (tY h.2)
 | [],_::_,h=>h.elim
 | _::_,[],h=>h.elim
def Z6{R D:Nat}{Ts:List M2}(h:Tz S R ts Ts)(h':Tz S D us Ts)(l1:Ts.length<=24)(l2:∀T∈Ts,T.length<=24/\∀x∈T,x.length<=100):∃S',mH [.ref R,.ref D] S=.ok (.bl true) S'/\kO S S':=by
 have W:=O1 h.top;have F:s_ true (.ref R) (.ref D) S=.ok (.bl false) S:=IM<|h.eq h';obtain⟨y,S',e,k⟩:∃(y:A) (S':jB),ku oM (jX 2) oA [.ref R,.ref D,.unb] S=.nx [.ref R,.ref D,y] S'/\kO S S':=
  qe (n:=R) (xs:=ts.map λt=>.ref t.1) (S1:=S) (show oM _ _=_ from l_ (by dsimp[jW,lA,bools]) h.top)
   (λ_ τ T=>∃y:A,τ=[.ref R,.ref D,y]/\kO S T) (λr=>∃(y:A) (S':jB),r=.nx [.ref R,.ref D,y] S'/\kO S S') ⟨_,rfl,Kp.refl⟩ (λi τ T J=>by obtain⟨_,_,k⟩:=J;exact k.lst _ _ (λz=>z) h.top) (by
   rintro i z τ T C ⟨y,rfl,j⟩;rw[aK]at C;obtain⟨t,N,rfl⟩:=aQ.mp C;have V:=h.tr.ll<|xj j;obtain⟨M,O,g,B⟩:=V.mem t<|aY N;have G:=O1 g;have Z:=tY B;have Y:=l2 M O;obtain⟨T2,e2,q⟩:=BV (S:=T) (S1:=T) (n:=t.1) (xs:=t.2.map .ref) (c:=jZ (f2 A5)<|jy (jx 0)<|jy (eC<|.ty "list") jG) (τ:=[.ref R,.ref D,.ref t.1]) (src:=ly<|jx 2) (l_ (by dsimp[jW,lA,bools]) g) g (by rw[aF];lia) (λx U d m=>by
    obtain⟨r,p,rfl⟩:=aX.mp d;obtain⟨v,_,hv⟩:=Rows.mem B r p;have:=O1<|m.lst _ _ (λz=>z) hv;exact⟨U,by dsimp[jW,lA,bools,this],Kp.refl⟩)
   have f:=q.lst _ _ (λz=>z) g;obtain⟨T3,e3,P⟩:=BV (S:=T2) (S1:=T2) (n:=t.1) (xs:=t.2.map .ref) (c:=jZ (f1 Ih)<|jy (j8 [none] (ly<|jx 0) (jX 0) nN<|eFn nJ<|jy (jx 0) jG) jG) (τ:=[.ref R,.ref D,.ref t.1]) (src:=ly<|jx 2) (l_ (by dsimp[jW,lA,bools]) f) f (by rw[aF];lia) (λx U d m=>by
    obtain⟨r,p,rfl⟩:=aX.mp d;obtain⟨v,K,hv⟩:=Rows.mem B r p;have hv:=(q.trans m).lst _ _ (λz=>z) hv;obtain⟨U2,e4,L⟩:=BV (S:=U) (S1:=U) (n:=r) (xs:=v.map .int) (c:=eFn nJ<|jy (jx 0) jG) (τ:=[.ref r]) (src:=ly<|jx 0) (l_ (by dsimp[jW,lA,bools]) hv) hv (by rw[aF];have:=Y.2 v K;lia) (λx U d m=>by
     obtain⟨w,_,rfl⟩:=aX.mp d;exact⟨U,by dsimp[jW,lA,bools,Oe],Kp.refl⟩)
    exact⟨U2,e4,L⟩)
   refine⟨[.ref R,.ref D,.ref t.1],T,rfl,.inl ⟨[.ref R,.ref D,.ref t.1],T3,?_,_,rfl,j.trans<|q.trans P⟩⟩;unfold oA;dsimp[jW,lA,bools,G,b7,↓e2,↓e3]) (by
   rintro τ T ⟨y,rfl,j⟩;exact⟨y,T,rfl,j⟩)
 refine⟨S',?_,k⟩;unfold mH pY pZ;dsimp[jW,lA,bools,lX,Nat.reduceAdd,Nat.reduceSub,W,F,b7,↓e]
end K69
namespace K69
open PySem L2 Am
def II{n:Nat}{xs:ab}{g:Tg}{c:Am.Sm}{src:Ic}(hs:src τ S=.ok (zO n xs.length) S1)(Inv:Nat->ab->jB->Prop)(J:RS->Prop)(h0:Inv 0 τ S1)(U:∀i τ S,Inv i τ S->jA S n=some xs)
  (step:∀(i:Nat) x τ S,xs[i]?=some x->Inv i τ S->∃τ1 S1,g (.tup [.int i,x]) τ S=.ok τ1 S1/\((∃τ' S',c τ1 S1=.nx τ' S'/\Inv (i+1) τ' S')\/(∃a S',c τ1 S1=.rt a S'/\J (.rt a S'))))
  (fin:∀τ S,Inv xs.length τ S->J (.nx τ S)):J (ku src g c τ S):=by
 unfold ku;rw[hs];refine zj (s:=zO n xs.length) Inv J (λi τ S d h=>?_) (λτ S h=>⟨?_,fin τ S h⟩) _ 0 τ S1 rfl h0
 ·have d:i<xs.length:=d;obtain⟨τ1,S1,e,q⟩:=step i xs[i] τ S (aH d) h;exact⟨.tup [.int i,xs[i]],τ1,S1,by show(jA S n).bind _=_;rw[U i τ S h,bQ,aH d];rfl,e,q⟩
 ·show(match jA S n with
   | some ys=>decide (ys.length=xs.length)
   | none=>false)=true
  rw[U _ τ S h];simp
abbrev Pf (k i:Nat):Int:=100 * (k:Int)+(i:Int)+2
abbrev Tc (k:Nat)(T:M2):M2:=(List.range T.length).map λi=>T.getD i []++[Pf k i]
def aaa{k:Nat}{T:M2}(h:i<T.length):(Tc k T).getD i []=T.getD i []++[Pf k i]:=by
 unfold Tc;rw[aL,aK,dc h];rfl
def DZ{k:Nat}{T:M2}:(Tc k T).length=T.length:=by unfold Tc;rw[aF,b_]
theorem JB:∀{rs:ag}{T:M2},rs.length=T.length->(∀j r,rs[j]?=some r->jA S r=some ((T.getD j []).map .int))->Rows S rs T
 | [],[],_,_=>trivial
 | r::rs,x::T,l,h=>⟨h 0 r rfl,JB (Nat.succ.inj l) λj q e=>h (j+1) q e⟩
theorem yN.get:∀{ts:List Tn}{Ts:List M2}{i:Nat}{t:Tn},yN S ts Ts->ts[i]?=some t->i<Ts.length/\jA S t.1=some (t.2.map .ref)/\Rows S t.2 (Ts.getD i [])
 | [],[],_,_,_,e=>by simp at e
 | t::ts,T::Ts,0,_,h,e=>by simp at e;subst e;exact⟨Nat.zero_lt_succ _,h.1⟩
 | t::ts,T::Ts,i+1,q,h,e=>by
  obtain⟨a,b⟩:=yN.get (i:=i) (t:=q) h.2 (by simpa using e);exact⟨Nat.succ_lt_succ a,b⟩
 | [],_::_,_,_,h,_=>h.elim
 | _::_,[],_,_,h,_=>h.elim
def Lv{ts:List Tn}{i j x:Nat}{t:Tn}(h:(ts.flatMap tid).Nodup)(J:ts[i]?=some t)(U:ts[j]?=some u)(x1:x∈tid t)(x2:x∈tid u):i=j:=by
 have p:=(List.pairwise_flatMap.mp<|show List.Pairwise (·≠·) (ts.flatMap tid)from h).2;obtain⟨d,e1⟩:=aG.mp J;obtain⟨c,e2⟩:=aG.mp U;have p:=dH.mp p
 rcases Nat.lt_trichotomy i j with z|z|z
 ·exact absurd rfl (p i j d c z x (e1 ▸ x1) x<|e2 ▸ x2)
 ·exact z
 ·exact absurd rfl<|p j i c d z x (e2 ▸ x2) x<|e1 ▸ x1
def NS{ts:List Tn}{i:Nat}{t:Tn}(h:(ts.flatMap tid).Nodup)(J:ts[i]?=some t):(tid t).Nodup:=(List.pairwise_flatMap.mp<|show List.Pairwise (·≠·) (ts.flatMap tid)from h).1 t<|aY J
def YV{k m:Nat}{Z:ag}{T:M2}(h:jA S m=some (Z.map .ref))(hr:Rows S Z T)(nd:(Z++[m]).Nodup)(ll:∀x∈T,x.length<=100) :
  ∃(y10 y11:A) (S':jB),ku Dw (x_ 2<|pM (jX 10)<|pM (jX 11) xZ) Ej [x0,x1,x2,x3,x4,x5,x6,x7,.int k,.ref m,x10,x11] S=.nx [x0,x1,x2,x3,x4,x5,x6,x7,.int k,.ref m,y10,y11] S'/\Rows S' Z (Tc k T)/\Kp (λx=>x∈Z) S S':=by
 have B:m∉Z:=λz=>(bN.mp nd).2.2 m z m (cM _) rfl;have F:=(bN.mp nd).1;have C:=tY hr;refine II (n:=m) (xs:=Z.map .ref) (S1:=S) (show Dw _ _=_ from Aj (by dsimp[jW,lA,bools,eW9]) h)
  (λi τ U=>∃(y10 y11:A),τ=[x0,x1,x2,x3,x4,x5,x6,x7,.int k,.ref m,y10,y11]/\(∀j r,Z[j]?=some r->jA U r=some ((if j<i then T.getD j []++[Pf k j]else T.getD j []).map .int))/\Kp (λx=>x∈Z) S U)
  (λR=>∃(y10 y11:A) (S':jB),R=.nx [x0,x1,x2,x3,x4,x5,x6,x7,.int k,.ref m,y10,y11] S'/\Rows S' Z (Tc k T)/\Kp (λx=>x∈Z) S S')
  ⟨_,_,rfl,λj r e=>by rw[aN<|fK _];exact(hr.get e).2,Kp.refl⟩ (λi τ U D=>by obtain⟨_,_,_,_,q⟩:=D;exact q.lst _ _ B h) ?_ ?_
 ·rintro i z τ U p ⟨y10,y11,rfl,ha,g⟩;rw[aK]at p;obtain⟨r,d,rfl⟩:=aQ.mp p;have f:=ha i r d;rw[aN<|dQ _]at f;have t:=(hr.get d).1;have lq:((T.getD i []).map A.int).length<16777216:=by
   rw[aF,aL,aH t];have:=ll _<|cK t;show(T[i]).length<_;lia
  refine⟨[x0,x1,x2,x3,x4,x5,x6,x7,.int k,.ref m,.int i,.ref r],U,rfl,.inl ⟨[x0,x1,x2,x3,x4,x5,x6,x7,.int k,.ref m,.int i,.ref r],U.set r<|.lst<|(T.getD i []).map .int++[.int<|Pf k i],?_,_,_,rfl,λj q eq=>?_,g.set<|.inl<|aY d⟩⟩
  ·have mm:∀x:Int,wR (.int 100) (.int x)=λS=>R.ok (.int<|100 * x) S:=λx=>by funext S;exact Gg ⋯ ⋯
   unfold Ej;dsimp[jW,lA,bools,eW9,Qk,Vf,mm,f,mV lq];rfl
  ·by_cases c:j=i
   ·subst c;rw[d]at eq
    cases eq
    rw[pK<|mw f,aR<|dI _,bB];rfl
   ·have ne:r≠q:=λw=>by
     subst w;obtain⟨K,e1⟩:=aG.mp d;obtain⟨J,e2⟩:=aG.mp eq;exact c<|(cI F).mp<|e2.trans e1.symm
    rw[kM ne,ha j q eq];by_cases w:j<i
    ·rw[aR w,aR ()]
    ·rw[aN w,aN ()]
 ·rintro τ U ⟨y10,y11,rfl,ha,g⟩;refine⟨y10,y11,U,rfl,JB (by rw[DZ];exact C) λj r e=>?_,g⟩;have G:=(aG.mp e).1;have:=ha j r e;rw[aR<|by rw[aF];exact G]at this;rw[aaa ()];exact this
abbrev U_ (Ts:List M2)(j:Nat):M2:=Tc j<|Ts.getD j []
def YZ{R:Nat}{ts:List Tn}{Ts:List M2}(h:Tz S R ts Ts)(nd:(ts.flatMap tid++[R]).Nodup)(ll:∀T∈Ts,∀x∈T,x.length<=100) :
  ∃(y8 y9 y10 y11:A) (S':jB),ku DT (x_ 2<|pM (jX 8)<|pM (jX 9) xZ) Kq [x0,x1,x2,x3,x4,x5,x6,.ref R,x8,x9,x10,x11] S=.nx [x0,x1,x2,x3,x4,x5,x6,.ref R,y8,y9,y10,y11] S'/\(∀(j:Nat) (t:Tn),ts[j]?=some t->jA S' t.1=some (t.2.map .ref)/\Rows S' t.2 (U_ Ts j))/\Kp (λx=>x∈ts.flatMap tid) S S':=by
 have D:=(bN.mp nd).1;have V:R∉ts.flatMap tid:=λz=>(bN.mp nd).2.2 R z R (cM _) rfl;refine II (n:=R) (xs:=ts.map λt=>.ref t.1) (S1:=S) (show DT _ _=_ from Aj (by dsimp[jW,lA,bools]) h.top)
  (λi τ U=>∃(y8 y9 y10 y11:A),τ=[x0,x1,x2,x3,x4,x5,x6,.ref R,y8,y9,y10,y11]/\(∀(j:Nat) (t:Tn),ts[j]?=some t->jA U t.1=some (t.2.map .ref)/\Rows U t.2 (if j<i then U_ Ts j else Ts.getD j []))/\Kp (λx=>x∈ts.flatMap tid) S U)
  (λr=>∃(y8 y9 y10 y11:A) (S':jB),r=.nx [x0,x1,x2,x3,x4,x5,x6,.ref R,y8,y9,y10,y11] S'/\(∀(j:Nat) (t:Tn),ts[j]?=some t->jA S' t.1=some (t.2.map .ref)/\Rows S' t.2 (U_ Ts j))/\Kp (λx=>x∈ts.flatMap tid) S S')
  ⟨_,_,_,_,rfl,λj t e=>by rw[aN<|fK _];exact(h.tr.get e).2,Kp.refl⟩ (λi τ U O=>by obtain⟨_,_,_,_,_,_,q⟩:=O;exact q.lst _ _ V h.top) ?_ ?_
 ·rintro i z τ U p ⟨y8,y9,y10,y11,rfl,ha,F⟩;rw[aK]at p;obtain⟨t,d,rfl⟩:=aQ.mp p;obtain⟨G,J⟩:=ha i t d;rw[aN<|dQ _]at J;have K:=(h.tr.get d).1;obtain⟨Y,W,U2,e2,r2,g⟩:=YV (k:=i) (x0:=x0) (x1:=x1) (x2:=x2) (x3:=x3) (x4:=x4) (x5:=x5) (x6:=x6) (x7:=.ref R) (x10:=y10) (x11:=y11) G J (NS D d) (by
   rw[aL,aH K];exact ll _<|cK K)
  have B:∀{u:Tn} {x:Nat},u∈ts->x∈tid u->x∈ts.flatMap tid:=λN C=>cL.mpr ⟨_,N,C⟩;refine⟨[x0,x1,x2,x3,x4,x5,x6,.ref R,.int i,.ref t.1,y10,y11],U,rfl,.inl ⟨_,U2,e2,_,_,_,_,rfl,λj u m=>?_,F.old g λn _ hn z=>hn<|B (aY d)<|c8 _ z⟩⟩;by_cases c:j=i
  ·subst c;rw[d]at m
   cases m
   rw[aR<|dI _];exact⟨g.lst _ _ (λz=>(bN.mp<|NS D d).2.2 _ z _ (cM _) rfl) G,r2⟩
  ·obtain⟨P,M⟩:=ha j u m;have f:∀x,x∈tid u->x∉t.2:=λx C p=>c<|Lv D m d C<|c8 _ p;refine⟨g.lst _ _ (f _<|bV _<|cM _) P,?_⟩;have e:(if j<i+1 then U_ Ts j else Ts.getD j [])=if j<i then U_ Ts j else Ts.getD j []:=by
    by_cases w:j<i
    ·rw[aR w,aR ()]
    ·rw[aN w,aN ()]
   rw[e];exact M.mono λr L xs z=>g.lst _ _ (f _<|c8 _ L) z
 ·rintro τ U ⟨y8,y9,y10,y11,rfl,ha,F⟩;refine⟨y8,y9,y10,y11,U,rfl,λj t e=>?_,F⟩;have:=ha j t e
  rwa [aR<|by rw[aF];exact(aG.mp e).1]at this
end K69
namespace K69
open PySem L2 Am
def Xg{k:Nat}{qs:ag}{T:M2}(h:jA S m=some (qs.map .ref))(hr:Rows S qs T)(lT:T.length<=24)(ll:∀x∈T,x.length<=100) :
  ∃(M:Nat) (ps:ag) (S':jB),j8 [none,none,some 8] (Ef<|jx 9) (x_ 2<|pM (jX 0)<|pM (jX 1) xZ) nN (jH kZ (jx 1)<|pN<|jy (jH kZ (jH kZ (jH wR (eC<|.int 100)<|jx 2)<|jx 0)<|eC<|.int 2) jG) [x0,x1,x2,x3,x4,x5,x6,x7,.int k,.ref m,x10,x11] S=.ok (.ref M) S'/\jA S' M=some (ps.map .ref)/\Rows S' ps (Tc k T)/\kO S S':=by
 have lq:=tY hr;have P:(qs.map A.ref).length=qs.length:=aF ..;have mm:∀x:Int,wR (.int 100) (.int x)=λS=>R.ok (.int<|100 * x) S:=λx=>by funext S;exact Gg ⋯ ⋯
 obtain⟨ys,S',e1,K,ps,rfl,d⟩:=Hu (s:=zO m (qs.map A.ref).length) (g:=x_ 2<|pM (jX 0)<|pM (jX 1) xZ) (e:=jH kZ (jx 1)<|pN<|jy (jH kZ (jH kZ (jH wR (eC<|.int 100)<|jx 2)<|jx 0)<|eC<|.int 2) jG) (T:=λf=>∃y z,f=[y,z,.int k]) (λi acc U=>kO S U/\∃ps:ag,acc=ps.map .ref/\Rows U ps ((List.range i).map λj=>T.getD j []++[Pf k j]))
  (λi acc f U G ⟨y,z,Y⟩ hP=>by
   have G:i<(qs.map A.ref).length:=G;obtain⟨B,ps,rfl,Z⟩:=hP;subst Y;have D:qs[i]?=some qs[i]:=aH ();have le:=B.lst _ _ (λz=>z) (hr.get D).2;obtain⟨U1,c⟩:∃U1,U1=U++[O.lst [.int<|Pf k i]]:=⟨_,rfl⟩;have W:jA U1 U.length=some [.int<|Pf k i]:=by rw[c];exact jQ
   have t:jA U1 qs[i]=some ((T.getD i []).map .int):=by rw[c];exact ki le
   have N:(T.getD i []).length<=100:=by
    have F:i<T.length:=()
    rw[aL,aH F];exact ll _<|cK F
   have V:=V1 t W (by rw[aF];show _+1<=_;lia);have J:newL [.int<|100 * (k:Int)+(i:Int)+2] U=.ok (.ref U.length) U1:=by rw[c];exact pJ (show 1<=16777216 by decide)
   have C:kO U (U1++[O.lst<|(T.getD i []).map .int++[.int<|Pf k i]]):=by rw[c];exact Kp.refl.lay.lay
   refine⟨.tup [.int i,.ref qs[i]],[.int i,.ref qs[i],.int k],U,_,_,?_,rfl,⟨_,_,rfl⟩,?_,B.trans C,ps++[U1.length],by rw[bB];rfl,?_⟩
   ·show(jA U m).bind _=_;rw[B.lst _ _ (λz=>z) h,bQ,aK,D];rfl
   ·dsimp[jW,lA,bools,mm,pJ<|show([_]:ab).length<=16777216 by simp,J,V]
   ·rw[List.range_succ,bB];refine(Z.mono λq _ xs z=>C.lst _ _ (λz=>z) z).app ⟨?_,trivial⟩;show jA (U1++[O.lst<|(T.getD i []).map .int++[.int<|Pf k i]]) U1.length=some ((T.getD i []++[Pf k i]).map .int);rw[bB];exact jQ) (λacc U hP=>by
   show(match jA U m with
    | some ys=>decide (ys.length=(qs.map A.ref).length)
    | none=>false)=true
   rw[hP.1.lst _ _ (λz=>z) h];simp) (qs.map A.ref).length 0 [] [.unb,.unb,.int k] S rfl ⟨_,_,rfl⟩ ⟨Kp.refl,[],rfl,trivial⟩
 have d:Rows S' ps (Tc k T):=by
  have d:Rows S' ps ((List.range (qs.map A.ref).length).map λj=>T.getD j []++[Pf k j]):=d;rw[P,lq]at d;exact d
 have L:=tY d;rw[DZ]at L;refine⟨S'.length,ps,S'++[.lst<|ps.map .ref],?_,jQ,d.mono λr _ xs z=>ki z,K.lay⟩;have p:Ef (jx 9) [x0,x1,x2,x3,x4,x5,x6,x7,.int k,.ref m,x10,x11] S=.ok (zO m (qs.map A.ref).length) S:=Aj (by dsimp[jW,lA,bools,eW9]) h;unfold j8;rw[p,R.nk];show(mR (zO m (qs.map A.ref).length) _ nN _ (qs.map A.ref).length 0 [.unb,.unb,.int k] S).tB _=_;rw[e1,R.kJ];exact kQ<|by rw[aF];lia
end K69
namespace K69
open PySem L2 Am
def XG{R D L:Nat}{ts us:List Tn}{Ts:List M2}(hd:Tz S D us Ts)(hR:jA S R=some (ts.map λt=>.ref t.1))(lt:ts.length=Ts.length)
  (ht:∀(j:Nat) (t:Tn),ts[j]?=some t->jA S t.1=some (t.2.map .ref)/\Rows S t.2 (U_ Ts j)) (nd:(ts.flatMap tid++[R]).Nodup) (lo:∀x∈ts.flatMap tid,L<=x) (old:D<L/\∀u∈us,∀x∈u.1::u.2,x<L) (l1:∀T∈Ts,T.length<=24/\∀x∈T,x.length<=100) :
  ∃(y8 y9:A) (S':jB),ku EI (x_ 2<|pM (jX 8)<|pM (jX 9) xZ) D7 [x0,x1,x2,x3,.ref D,x5,x6,.ref R,x8,x9,x10,x11] S=.nx [x0,x1,x2,x3,.ref D,x5,x6,.ref R,y8,y9,x10,x11] S'/\jA S' R=some (ts.map λt=>.ref t.1)/\Kp (λx=>L<=x) S S':=by
 have nf:=(bN.mp nd).1;have nR:R∉ts.flatMap tid:=λz=>(bN.mp nd).2.2 R z R (cM _) rfl;have g:∀{u:Tn} {x:Nat},u∈ts->x∈tid u->x∈ts.flatMap tid:=λhu N=>cL.mpr ⟨_,hu,N⟩;have top:∀{u:Tn},u.1∈tid u:=λ{u}=>bV _<|cM _;have J:¬∃t∈ts,t.1=R:=λ⟨t,m,e⟩=>nR<|e ▸ g m top;have c:∀x,x<L->¬∃t∈ts,t.1=x:=λx N ⟨t,m,e⟩=>by
  have:=lo _<|g m top;lia
 refine II (n:=D) (xs:=us.map λt=>.ref t.1) (S1:=S) (show EI _ _=_ from Aj (by dsimp[jW,lA,bools]) hd.top)
  (λi τ U=>∃(y8 y9:A),τ=[x0,x1,x2,x3,.ref D,x5,x6,.ref R,y8,y9,x10,x11]/\(∀(j:Nat) (t:Tn),i<=j->ts[j]?=some t->jA U t.1=some (t.2.map .ref)/\Rows U t.2 (U_ Ts j))/\Kp (λx=>∃t∈ts,t.1=x) S U)
  (λr=>∃(y8 y9:A) (S':jB),r=.nx [x0,x1,x2,x3,.ref D,x5,x6,.ref R,y8,y9,x10,x11] S'/\jA S' R=some (ts.map λt=>.ref t.1)/\Kp (λx=>L<=x) S S')
  ⟨_,_,rfl,λj t _ e=>ht j t e,Kp.refl⟩ (λi τ U hh=>by obtain⟨_,_,_,_,q⟩:=hh;exact q.lst _ _ (c D old.1) hd.top) ?_ ?_
 ·rintro i z τ U hz ⟨y8,y9,rfl,ha,f⟩;rw[aK]at hz;obtain⟨u,eu,rfl⟩:=aQ.mp hz;have um:=aY eu;obtain⟨hi,u1,u2⟩:=hd.tr.get eu;obtain⟨t,P⟩:∃t,ts[i]?=some t:=⟨_,aH ()⟩;have m:=aY P;have u1:=f.lst _ _ (c _<|old.2 u um _<|aJ ..) u1;have u2:Rows U u.2 (Ts.getD i []):=u2.mono λr V xs e=>f.lst _ _ (c _<|old.2 u um _<|aO _ V) e;have hT:Ts.getD i []∈Ts:=by
   rw[aL,aH hi];exact cK hi
  obtain⟨M,ps,U1,e1,m1,r1,p⟩:=Xg (k:=i) (x0:=x0) (x1:=x1) (x2:=x2) (x3:=x3) (x4:=.ref D) (x5:=x5) (x6:=x6) (x7:=.ref R) (x10:=x10) (x11:=x11) u1 u2 (l1 _ hT).1 (l1 _ hT).2;obtain⟨t1,t2⟩:=ha i t (aP _) P;have C:=f.lst _ _ J hR;have F:=p.lst _ _ (λz=>z) C;have d:=p.lst _ _ (λz=>z) t1;have Z:Rows U1 t.2 (U_ Ts i):=t2.mono λr _ xs e=>p.lst _ _ (λz=>z) e;have ixf:sN (ts.map λt=>A.ref t.1) (i:Int)=some (.ref t.1):=zF rfl (by rw[aK,P];rfl);have q12:rQ U1 12 (.ref t.1) (.ref M)=some true:=by
   show(jA U1 t.1).bind (λxs=>(jA U1 M).bind λys=>pW (rQ U1 11) xs ys)=_;rw[d,bQ,m1,bQ];exact Fj (n:=9) Z r1
  have ne:s_ true (.ref t.1) (.ref M) U1=.ok (.bl false) U1:=IM q12;obtain⟨U2,B⟩:∃U2,U2=U1++[O.lst []]:=⟨_,rfl⟩;have W:kO U1 U2:=by rw[B];k_ne
  have n2:newL [] U1=.ok (.ref U1.length) U2:=by rw[B];exact kQ (show 0<=16777216 by decide)
  have Y:=W.lst _ _ (λz=>z) d;have lq:(t.2.map A.ref).length<16777216:=by
   have h1:=tY t2;have h2:(U_ Ts i).length=(Ts.getD i []).length:=DZ;have h3:=(l1 _ hT).1;rw[aF];lia
  refine⟨[x0,x1,x2,x3,.ref D,x5,x6,.ref R,.int i,.ref u.1,x10,x11],U,rfl,.inl ⟨[x0,x1,x2,x3,.ref D,x5,x6,.ref R,.int i,.ref u.1,x10,x11],U2.set t.1<|.lst<|t.2.map .ref++[.ref U1.length],?_,_,_,rfl,λj v hj ev=>?_,(f.old (p.trans W) λ_ _ _ z=>z).set<|.inl ⟨t,m,rfl⟩⟩⟩
  ·unfold D7;dsimp[jW,lA,bools,C,ixf,↓e1,ne,F,d,n2,Y,mV lq]
  ·obtain⟨v1,v2⟩:=ha j v () ev;have G:∀x,x∈tid v->t.1≠x:=λx N e=>by
    have:=Lv nf ev P N (e ▸ top)
    lia
   have K:=p.trans W;refine⟨by rw[kM<|G _ top];exact K.lst _ _ (λz=>z) v1,v2.mono λr V xs e=>?_⟩;rw[kM<|G _<|c8 _ V];exact K.lst _ _ (λz=>z) e
 ·rintro τ U ⟨y8,y9,rfl,ha,f⟩;exact⟨y8,y9,U,rfl,f.lst _ _ J hR,f.mono λn _ ⟨t,m,e⟩=>e ▸ lo _ (g m top)⟩
end K69
namespace K69
open PySem L2 Am
def Si{N:Nat}{J:Os}(ll:J.length<=24):∀T∈Tt N J,T.length<=24/\∀x∈T,x.length<=100:=λT d=>by
 obtain⟨i,_,rfl⟩:=aX.mp d;unfold Oo;refine⟨by rw[aF];exact ll,λx c=>?_⟩;obtain⟨a,_,rfl⟩:=aX.mp c;unfold GS;rw[aF];lia
def O7{N V H D:Nat}{os:Os}(h5:N<5)(h1:1<=N)(hi:∀o∈os,o.Perm (Fw.rg N)/\Iv.inv o<8)(hv:∀o∈os,∀e∈Kl.K o,Po.val e.2 1≠0->Po.val e.2 1=1)(ll:os.length<=24)(ne:os≠[])
  (hV:jA S V=some (os.map tq)) (hH:jA S H=some (os.map tq)) (hd:Tz S D us<|Tt N os) :
  ∃(y7 y8 y9 y10 y11:A) (S':jB),Ad [x0,x1,.ref V,x3,.ref D,.ref H,x6,x7,x8,x9,x10,x11] S=.nx [x0,x1,.ref V,x3,.ref D,.ref H,x6,y7,y8,y9,y10,y11] S'/\kO S S':=by
 obtain⟨R,ts,S1,e1,W,tr,c,U⟩:=SV (S:=S) h5 hi hv hH () ne h1;have sm:=Si (N:=N) ll;have lT:(Tt N os).length<=24:=by unfold Tt;rw[aF,b_];lia
 obtain⟨S2,e2,P⟩:=Z6 (S:=S1) ⟨W,tr⟩ (hd.ll<|xj U) lT sm;have d:=U.trans P;have V2:=d.lst _ _ (λz=>z) hV;have H2:=d.lst _ _ (λz=>z) hH;have B:rQ S2 12 (.ref H) (.ref V)=some true:=by
  show(jA S2 H).bind (λxs=>(jA S2 V).bind λys=>pW (rQ S2 11) xs ys)=_;rw[H2,bQ,V2,bQ];refine CP λx j=>?_;obtain⟨l,_,rfl⟩:=aX.mp j;show pW (rQ S2 10) (l.map .int) (l.map .int)=_;rw[tU,bg rfl]
 have n2:s_ true (.ref H) (.ref V) S2=.ok (.bl false) S2:=IM B;have lo:∀x∈ts.flatMap tid,S.length<=x:=λx j=>(c.2 x<|c8 _ j).1;have Z:S.length<=R:=(c.2 R<|bV _<|cM _).1;have g:Tz S2 R ts (Tt N os):=Tz.ll ⟨W,tr⟩<|xj P;obtain⟨y8,y9,y10,y11,S3,e3,t3,G⟩:=YZ (S:=S2) (x0:=x0) (x1:=x1) (x2:=.ref V) (x3:=x3) (x4:=.ref D) (x5:=.ref H) (x6:=x6) (x8:=x8) (x9:=x9) (x10:=x10) (x11:=x11) g c.1 λT hT=>(sm T hT).2;have k3L:Kp (λx=>S.length<=x) S2 S3:=G.mono λn _ hn=>lo n hn;have nR:R∉ts.flatMap tid:=λz=>(bN.mp c.1).2.2 R z R (cM _) rfl;have C:=G.lst _ _ nR g.top;have oD:D<S.length:=mw hd.top;have oU:∀u∈us,∀x∈u.1::u.2,x<S.length:=λu hu x j=>by
  obtain⟨T,_,g1,g2⟩:=hd.tr.mem u hu
  rcases bw.mp j with z|z
  ·rw[z];exact mw g1
  ·obtain⟨_,_,e⟩:=Rows.mem g2 x z;exact mw e
 have m:kO S S3:=d.old G λn ln _ z=>by have:=lo n z;lia
 have J:Tz S3 D us (Tt N os):=hd.ll<|xj m;obtain⟨z8,z9,f,e4,k,k4⟩:=XG (S:=S3) (L:=S.length) (x0:=x0) (x1:=x1) (x2:=.ref V) (x3:=x3) (x5:=.ref H) (x6:=x6) (x8:=y8) (x9:=y9) (x10:=y10) (x11:=y11) J C tr.len t3 c.1 lo ⟨oD,oU⟩ sm;have F:kO S f:=m.old k4 λn ln _ z=>()
 obtain⟨p,q⟩:∃p,p=f++[O.lst []]:=⟨_,rfl⟩;have Y:kO f p:=by rw[q];k_ne
 have n5:newL [] f=.ok (.ref f.length) p:=by rw[q];exact kQ (show 0<=16777216 by decide)
 have M:=Y.lst _ _ (λz=>z) k;have lq:(ts.map λt=>A.ref t.1).length<16777216:=by rw[aF];have:=tr.len;lia
 refine⟨.ref R,z8,z9,y10,y11,p.set R<|.lst<|(ts.map λt=>.ref t.1)++[.ref f.length],?_,(F.trans Y).set<|.inr Z⟩;unfold Ad;dsimp[jW,lA,bools,eW9,Qk,Vf,e1,e2,n2,b7,↓e3,↓e4,k,M,n5,mV lq]
end K69
namespace K69
open PySem L2 Am
open Eu (inj)
abbrev tP (o:ae):M2:=(Tb.tabs o o.length).1
abbrev tQ (o:ae):M2:=(Tb.tabs o o.length).2
structure Gd (o:ae):Prop where
 tw:B5 0 o [] []=some (tP o,tQ o)
 l4:o.length<=4
 l1:1<=o.length
def ZF(o:ae):nL (tq o) S=.ok (.int (o.length:Int)) S:=by
 show Am.R.ok (A.int ((o.map A.int).length:Int)) S=_;rw[aF]
abbrev Ti (n:Nat)(a:ae):Os:=(inj n n).filter λb=>decide<|tP b=tP a
def Yc{S:jB}{n:Nat}{a:ae}(Z:n<=4)(hg:∀o∈inj n n,Gd o)(ha:a∈inj n n)(U:a.length=n)(hl:(inj n n).length<=24):∃r S',pI [tq a] S=.ok (.ref r) S'/\jA S' r=some ((Ti n a).map tq)/\S.length<=r/\kO S S':=by
 obtain⟨V,S1,e1,c,g,_⟩:=SS (S:=S) (n:=n) ();have c:jA S1 V=some ((inj n n).map tq):=c;have e0:=ZF (S:=S) a;rw[U]at e0;obtain⟨S2,j,f⟩:=Dq (cap:=[some 0]) (t:=qh<|jH (s_ false) (jH m_ (eFn kP<|jy (jx 0) jG)<|eC<|.int 0)<|jH m_ (eFn kP<|jy (jx 1) jG)<|eC<|.int 0) (e:=jx 0) (τ:=[tq a]) (S:=S) (S1:=S1) (src:=ly<|eFn qW<|jy (jZ (f1 nL)<|jy (jx 0) jG) jG) (l_ (by dsimp[jW,lA,bools,uq,e0,e1]) c) c (λx=>decide<|tP (un x)=tP a) (λx=>x) (λx q T M=>by
  obtain⟨o,D,rfl⟩:=aX.mp q;obtain⟨J,K,p,k,T1,f1,F,C⟩:=Sb (S:=T) (hg o D).tw;obtain⟨N,L,G,m,T2,f2,B,d⟩:=Sb (S:=T1) (hg a ha).tw;refine⟨T2,?_,C.trans d,λ_=>⟨T2,?_,Kp.refl⟩⟩
  ·show qh (jH (s_ false) (jH m_ (eFn kP<|jy (jx 0) jG)<|eC<|.int 0)<|jH m_ (eFn kP<|jy (jx 1) jG)<|eC<|.int 0) [tq o,tq a] T=_;rw[Jv];dsimp[jW,lA,bools,uq,f1,f2,xg,HJ<|(F.t.wB d).eq B.t]
  ·show jx 0 [tq o,tq a] T2=_;dsimp[jW,lA,uq])<|by rw[aF];lia
 have el:((((inj n n).map tq).filter λx=>decide<|tP (un x)=tP a).map λx=>x)=(Ti n a).map tq:=by
  rw[List.map_id',iH];unfold Ti;exact cH (List.map tq) (List.filter_congr λo _=>by
   show decide (tP (un<|tq o)=tP a)=_;rw[Jv])
 rw[el]at j;refine⟨S2.length,_,?_,jQ,(g.trans f).len,(g.trans f).lay⟩;unfold pI uE uT;dsimp[jW,lA,bools,lX,Nat.reduceAdd,Nat.reduceSub,↓j]
end K69
namespace K69
open PySem L2 Am
open Eu (inj)
abbrev o4 (i:Nat):ae:=([[1,2,3,4],[1,2,4,3],[1,3,2,4],[1,3,4,2],[1,4,2,3],[1,4,3,2],[2,1,3,4],[2,1,4,3],[2,3,1,4],[2,3,4,1],[2,4,1,3],[2,4,3,1],[3,1,2,4],[3,1,4,2],[3,2,1,4],[3,2,4,1],[3,4,1,2],[3,4,2,1],[4,1,2,3],[4,1,3,2],[4,2,1,3],[4,2,3,1],[4,3,1,2],[4,3,2,1]]:Os).getD i []
abbrev u4 (l:List<|ag):List Os:=l.map λm=>m.map o4
abbrev Gq1:List Os:=[[[1]]]
abbrev Gq2:List Os:=[[[1,2]],[[2,1]]]
abbrev Gq3:List Os:=[[[1,2,3]],[[1,3,2],[3,1,2]],[[2,1,3],[2,3,1]],[[3,2,1]]]
abbrev Gq4:List Os:=u4 [[0],[1,4,18],[2,3,12],[5,19,22],[6,8,9],[7,10],[11,20,21],[13,16],[14,15,17],[23]]
abbrev Gs:List Os:=Gq1++Gq2++Gq3++Gq4
def adA:∀o∈inj 1 1,B5 0 o [] []=some (tP o,tQ o)/\o.length=1:=by decide +kernel
def adn:∀o∈inj 2 2,B5 0 o [] []=some (tP o,tQ o)/\o.length=2:=by decide +kernel
def adl:∀o∈inj 3 3,B5 0 o [] []=some (tP o,tQ o)/\o.length=3:=by decide +kernel
def ac_:∀o∈inj 4 4,B5 0 o [] []=some (tP o,tQ o)/\o.length=4:=by decide +kernel
def adL:∀a∈inj 1 1,Ti 1 a∈Gs:=by decide +kernel
def aea:∀a∈inj 2 2,Ti 2 a∈Gs:=by decide +kernel
def ad4:∀a∈inj 3 3,Ti 3 a∈Gs:=by decide +kernel
def adT:∀a∈inj 4 4,Ti 4 a∈Gs:=by decide +kernel
structure Hn (n:Nat):Prop where
 n1:1<=n
 n4:n<=4
 gd:∀o∈inj n n,B5 0 o [] []=some (tP o,tQ o)/\o.length=n
 hl:(inj n n).length<=24
 hG:∀a∈inj n n,Ti n a∈Gs
def acP:Hn 1:=⟨by decide,by decide,adA,by decide +kernel,adL⟩
def acT:Hn 2:=⟨by decide,by decide,adn,by decide +kernel,aea⟩
def acV:Hn 3:=⟨by decide,by decide,adl,by decide +kernel,ad4⟩
def Zn:Hn 4:=⟨by decide,by decide,ac_,by decide +kernel,adT⟩
theorem Hn.Gd{n:Nat}(h:Hn n):∀o∈inj n n,Gd o:=λo c=>⟨(h.gd o c).1,by rw[(h.gd o c).2];exact h.n4,by rw[(h.gd o c).2];exact h.n1⟩
def aat:∀g∈Gs,∀o∈g,o.Perm (Fw.rg (g.headD []).length)/\Iv.inv o<8:=by decide +kernel
def acM:∀g∈Gs,∀o∈g,∀e∈Kl.K o,Po.val e.2 1≠0->Po.val e.2 1=1:=by decide +kernel
def adq:∀g∈Gs,1<=(g.headD []).length/\(g.headD []).length<5:=by decide +kernel
def aap:∀g∈Gs,g≠[]/\g.length<=24:=by decide +kernel
def Xx{n:Nat}{o:ae}(h:o.Perm<|lB 1<|(n:Int)+1):o∈inj n n:=Eu.Ut.mpr h
abbrev six:ab:=[.int 4,.int 3,.int 4,.int 2,.int 1,.int 4]
def Xk{q:Int}(h0:0<=q)(h1:q<6):∃n:Nat,sN six q=some (.int n)/\Hn n:=by
 have:q=0\/q=1\/q=2\/q=3\/q=4\/q=5:=()
 rcases this with rfl|rfl|rfl|rfl|rfl|rfl
 ·exact⟨4,rfl,Zn⟩
 ·exact⟨3,rfl,acV⟩
 ·exact⟨4,rfl,Zn⟩
 ·exact⟨2,rfl,acT⟩
 ·exact⟨1,rfl,acP⟩
 ·exact⟨4,rfl,Zn⟩
def XD(ns:ae)(hl:ns.length<=63):∃S',Cy [.frz<|ns.map .int] []=.ok (.bl true) S':=by
 obtain⟨S0,hS0⟩:∃S0:jB,S0=[]:=⟨_,rfl⟩;rw[<- hS0];obtain⟨c0,ec0⟩:=Vz (S:=S0) (ns:=ns) (k:=0) ⋯;obtain⟨S1,e1,b1,k1⟩:=Vc (S:=S0) (c:=c0) (k:=1) ⋯ ⋯;have lb:S0.length<S1.length:=by
  obtain⟨_,_,z,_⟩:=b1;exact mw z
 obtain⟨T1,K⟩:∃T1,T1=S1++[O.lst six]:=⟨_,rfl⟩;have nT:newL six S1=.ok (.ref S1.length) T1:=by rw[K];exact pJ (show 6<=16777216 by decide)
 have lT:jA T1 S1.length=some six:=by rw[K];exact jQ
 have P:kO S1 T1:=by rw[K];k_ne
 have bT:=b1.kp P λz=>z;obtain⟨q,S2,e2,q0,q1,b2,k2⟩:=digit (m:=6) bT ⋯ ⋯;have l2:=k2.lst _ _ (by show ¬S1.length=S0.length;lia) lT;obtain⟨n,em,hn⟩:=Xk q0 q1;have n1:=hn.n1;have n4:=hn.n4;obtain⟨a,S3,e3,pa,b3,k3⟩:=N4 (n:=(n:Int)) b2 () ();have e3:oO [.ref S0.length,.int n] S2=.ok (tq a) S3:=e3;have ma:=Xx pa;obtain⟨V,B,e4,l4,g4,k4⟩:=Yc (S:=S3) n4 hn.Gd ma (hn.gd a ma).2 hn.hl;have hG:=hn.hG a ma;obtain⟨C,hos⟩:∃C,C=Ti n a:=⟨_,rfl⟩;rw[<- hos]at l4 hG;obtain⟨N,hN⟩:∃N,N=(C.headD []).length:=⟨_,rfl⟩;have Z:=aat C hG;have hv:=acM C hG;have U:=adq C hG;obtain⟨ne,ll⟩:=aap C hG;rw[<- hN]at Z U;obtain⟨Y,M⟩:∃Y,Y=B++[O.dct []]:=⟨_,rfl⟩;have k5:kO B Y:=by rw[M];k_ne
 have d5:jV Y B.length=some []:=by rw[M];exact Su.oR
 have h5:Kw N Q0 Y B.length []:=⟨d5,cT,(nofun),(nofun)⟩;have l5:=k5.lst _ _ (λz=>z) l4;obtain⟨D,F,e6,t6,k6⟩:=Yv (x0:=.frz<|ns.map .int) (x1:=.ref S0.length) (xs:=[.unb,.unb,.unb,.unb,.unb,.unb,.unb,.unb]) U.2 U.1 (λp hp=>(Z p hp).1) ne h5 l5 ();rw[Xj U.2 (λp hp=>(Z p hp).1) hv]at t6;obtain⟨us,z6⟩:=t6.tz;have l6:=k6.l _ _ l5;obtain⟨J,L⟩:∃J,J=F++[O.lst<|C.map tq]:=⟨_,rfl⟩;have k7:kO F J:=by rw[L];k_ne
 have h7:jA J F.length=some (C.map tq):=by rw[L];exact jQ
 have n7:xo (.ref V) F=.ok (.ref F.length) J:=by
  dsimp[jW,l6];rw[L]
 have l7:=k7.lst _ _ (λz=>z) l6;have z7:=z6.ll<|xj k7;obtain⟨G,t,j,g,f,d,W,e8⟩:∃(G t j g f d:A) (W:jB),ku Et (jX 6) Ad [.frz<|ns.map .int,.ref S0.length,.ref V,.ref B.length,.ref D,.ref F.length,.unb,.unb,.unb,.unb,.unb,.unb] J=.nx [.frz<|ns.map .int,.ref S0.length,.ref V,.ref B.length,.ref D,.ref F.length,G,t,j,g,f,d] W:=
  ED (lo:=0) (hi:=2) (S1:=J) (show Et _ _=_ from yJ (by dsimp[jW,bools])<|nU ⋯ ⋯)
   (λ_ τ T=>∃(G t j g f d:A),τ=[.frz<|ns.map .int,.ref S0.length,.ref V,.ref B.length,.ref D,.ref F.length,G,t,j,g,f,d]/\kO J T)
   (λr=>∃(G t j g f d:A) (W:jB),r=.nx [.frz<|ns.map .int,.ref S0.length,.ref V,.ref B.length,.ref D,.ref F.length,G,t,j,g,f,d] W)
   ⟨_,_,_,_,_,_,rfl,Kp.refl⟩ (by
   rintro i τ T _ ⟨G,t,j,g,f,d,rfl,P⟩;obtain⟨w7,w8,w9,w10,w11,T',e,k⟩:=O7 (S:=T) (x0:=.frz<|ns.map .int) (x1:=.ref S0.length) (x3:=.ref B.length) (x6:=.int<|0+(i:Int)) (x7:=t) (x8:=j) (x9:=g) (x10:=f) (x11:=d) U.2 U.1 Z hv ll ne (P.lst _ _ (λz=>z) l7) (P.lst _ _ (λz=>z) h7)<|z7.ll<|xj P;exact .inl ⟨_,T',e,_,_,_,_,_,_,rfl,P.trans k⟩) (by
   rintro τ T ⟨G,t,j,g,f,d,rfl,P⟩;exact⟨_,_,_,_,_,_,T,rfl⟩)
 refine⟨W,?_⟩;unfold six at nT l2 em;unfold Cy NV P5;dsimp[jW,lA,bools,lX,Nat.reduceAdd,Nat.reduceSub,ec0,e1,nT,e2,l2,em,uq,e3,e4,Su.qk,<- M,↓e6,n7,↓e8]
end K69
namespace K69
open PySem L2 Am
def all_mk{l:PySem.W.OpenLaw}{w:ah}{K:au}{h:aq}{mg:Str->bb}{fa:ak}(X:K.In h)(G:h.Ns mainGlobals mg)(hfa:mg "law" = some (.ref fa))
  (a1:Df K "is_whole" xB)
  (a2:Df K "need_pair" vt)
  (a3:Df K "is_exchange" sD)
  (a4:Df K "exchanged_places" oH)
  (a5:Df K "exchanged" vL)
  (a6:Df K "falls" Fq)
  (a7:Df K "as_polynomial" qG)
  (a8:Df K "plus" HD)
  (a9:Df K "times" Fo)
  (a10:Df K "put_before" uy)
  (a11:Df K "as_sum" BD)
  (a12:Df K "need_like" vV)
  (a13:Df K "added" D8)
  (a14:Df K "scaled" Bx)
  (a15:Df K "by_exchange" sX)
  (a16:Df K "number_at_one" qx)
  (a17:Df K "kept_by_fall" rJ)
  (a18:Df K "found_kept" qN)
  (a19:Df K "leads_among" sG)
  (a20:Df K "number_at" wA)
  (a21:Df K "number_tables" qF)
  (a22:Df K "_law_cell" xx)
  (a23:Df K "_law_bag" zA)
  (a24:Df K "_law_mixed" wC)
  (a25:Df K "_law_digit" vh)
  (a26:Df K "_law_order" vW)
  (a27:Df K "_law_swapped" sP)
  (a28:Df K "_law_put" zc)
  (a29:Df K "_law_without_noughts" nj)
  (a30:Df K "_law_kept" uG)
  (a31:Df K "_law_lead" xq)
  (a32:Df K "_law_falls" vJ)
  (a33:Df K "_law_tables" uQ)
  (a34:Df K "_law_all" zz)
  (a35:Df K "_law_whole" vG)
  (a36:Df K "_law_hearth" u5)
  (a37:Df K "_law_row" zv)
  (a38:Df K "_law_are_tables" pX)
  (a39:Df K "law" Sy)
  (acR:PySem.W.nsIn K mainGlobals "isinstance" = some none)
  (acY:PySem.W.nsIn K mainGlobals "bool" = some none)
  (ac0:PySem.W.nsIn K mainGlobals "int" = some none)
  (ac4:PySem.W.nsIn K mainGlobals "len" = some none)
  (adb:PySem.W.nsIn K mainGlobals "list" = some none)
  (adm:PySem.W.nsIn K mainGlobals "tuple" = some none)
  (adp:PySem.W.nsIn K mainGlobals "range" = some none)
  (adt:PySem.W.nsIn K mainGlobals "sorted" = some none)
  (adx:PySem.W.nsIn K mainGlobals "dict" = some none)
  (adB:PySem.W.nsIn K mainGlobals "abs" = some none)
  (adH:PySem.W.nsIn K mainGlobals "enumerate" = some none)
  (adI:PySem.W.nsIn K mainGlobals "all" = some none)
  {a_AT_A_FALL:ak} (adK:PySem.W.nsIn K mainGlobals "AT_A_FALL" = some (some<|.ref a_AT_A_FALL)) (kp_AT_A_FALL:klP K a_AT_A_FALL=some [((-1:Int),(1:Int)),((1:Int),(-1:Int))])
  : ∃fd:FuncData,(∀(s:aA) (v:af),BindsTo s fd ⟨[v],[]⟩ [("_law_script",v)])/\∀base:aq,K.In base->base.Ns mainGlobals mg->FnOk l.prog w K mg base qj 24 fa fd ["_law_script"] (qK K 1 Cy):=by
 obtain⟨f,fd,a,F⟩:=a39;have e:=hfa.symm.trans (PySem.W.mg_of X G a)
 cases e
 have C:=cE X G acR;have O:=cE X G acY;have m:=cE X G ac0;have d:=cE X G ac4;have k:=cE X G adb;have B:=cE X G adm;have j:=cE X G adp;have L:=cE X G adt;have U:=cE X G adx;have acz:=cE X G adB;have D:=cE X G adH;have ab4:=cE X G adI;have g:∃a,mg "AT_A_FALL" = some (.ref a)/\klP K a=some [((-1:Int),(1:Int)),((1:Int),(-1:Int))]:=⟨a_AT_A_FALL,PySem.W.mg_of X G adK,kp_AT_A_FALL⟩;refine⟨fd,λs v=>(by obtain⟨_,_,_,_,_,_,_,_,_,rfl,_,_⟩:=F.ex;exact .of_eq rfl),λbase _ _=>?_⟩;have E:En l.prog w K mg base:=⟨h,X,G⟩;have acn:=a1.kA E (λF=>GR F C O m)<|H_ λ_ _ _ _ _ _ _=>rfl;have acr:=a2.kA E (λF=>Dl F d)<|FA λ_ _ _ _ _ _ _ _=>rfl;have aco:=a3.kA E (λF=>BJ F acn)<|FA λ_ _ _ _ _ _ _ _=>rfl;have acp:=a4.kA E (λF=>wW F k B)<|us3 λ_ _ _ _ _ _ _ _ _=>rfl;have P:=a5.kA E (λF=>DR F d aco acp)<|FA λ_ _ _ _ _ _ _ _=>rfl;have p:=a6.kA E (λF=>OD F j d)<|H_ λ_ _ _ _ _ _ _=>rfl;have J:=a7.kA E (λF=>yS F L)<|H_ λ_ _ _ _ _ _ _=>rfl;have acq:=a8.kA E (λF=>Tp F U J)<|FA λ_ _ _ _ _ _ _ _=>rfl;have N:=a9.kA E (λF=>Pw F J)<|FA λ_ _ _ _ _ _ _ _=>rfl;have q:=a10.kA E (λF=>B7 F acq)<|us3 λ_ _ _ _ _ _ _ _ _=>rfl;have t:=a11.kA E (λF=>MR F L)<|H_ λ_ _ _ _ _ _ _=>rfl;have V:=a12.kA E (λF=>E1 F acr)<|FA λ_ _ _ _ _ _ _ _=>rfl;have ab7:=a13.kA E (λF=>P8 F V q t)<|FA λ_ _ _ _ _ _ _ _=>rfl;have ab8:=a14.kA E (λF=>M_ F q N t)<|FA λ_ _ _ _ _ _ _ _=>rfl;have acu:=a15.kA E (λF=>AX F k g q P p N t)<|FA λ_ _ _ _ _ _ _ _=>rfl;have T:=a16.kA E (λF=>yP F U)<|H_ λ_ _ _ _ _ _ _=>rfl;have c:∀{Fs:ab->jB->R A} {kr:Nat},nV l.prog w K mg base (5+2 * kr) "found_kept" l9 Fs->nV l.prog w K mg base (5+2 * kr+1) "kept_by_fall" nI (kX kW<|kY Fs):=λG=>a17.kA E (λF=>zW F P ab7 ab8 acu T p G)<|us3 λ_ _ _ _ _ _ _ _ _=>rfl;have acv:=a18.rA E (λF hm hk hb=>vU F p c hm hk hb 8)<|FA λ_ _ _ _ _ _ _ _=>rfl;have Y:=a19.kA E (λF=>AJ F acv T)<|H_ λ_ _ _ _ _ _ _=>rfl;have acy:=a20.kA E (λF=>DM F p)<|us4 λ_ _ _ _ _ _ _ _ _ _=>rfl;have Z:=a21.kA E (λF=>zG F j d Y acy)<|H_ λ_ _ _ _ _ _ _=>rfl;have acE:=a22.kA E (λF=>Gj F d)<|FA λ_ _ _ _ _ _ _ _=>rfl;have acD:=a23.kA E (λF=>Ij F acz)<|FA λ_ _ _ _ _ _ _ _=>rfl;have aci:=a24.kA E (λF=>Dy F)<|H_ λ_ _ _ _ _ _ _=>rfl;have M:=a25.kA E (λF=>D9 F j aci)<|FA λ_ _ _ _ _ _ _ _=>rfl;have acG:=a26.kA E (λF=>Fb F k j d B M)<|FA λ_ _ _ _ _ _ _ _=>rfl;have aa4:=a27.kA E (λF=>BA F B)<|FA λ_ _ _ _ _ _ _ _=>rfl;have aaX:=a28.kA E (λF=>IQ F)<|us5 λ_ _ _ _ _ _ _ _ _ _ _=>rfl;have abR:=a29.kA E (λF=>ue F)<|H_ λ_ _ _ _ _ _ _=>rfl;have acj:=a30.rA E (λF hm hk hb=>yb F j d m aa4 aaX abR hm hk hb 8)<|FA λ_ _ _ _ _ _ _ _=>rfl;have acB:=a31.kA E (λF=>FH F acj)<|us3 λ_ _ _ _ _ _ _ _ _=>rfl;have acm:=a32.kA E (λF=>Fi F j d)<|H_ λ_ _ _ _ _ _ _=>rfl;have ack:=a33.kA E (λF=>Cp F D d j)<|H_ λ_ _ _ _ _ _ _=>rfl;have acA:=a34.kA E (λF=>IG F j)<|H_ λ_ _ _ _ _ _ _=>rfl;have acC:=a35.kA E (λF=>EH F C O m)<|H_ λ_ _ _ _ _ _ _=>rfl;have acF:=a36.kA E (λF=>Cc F d acA ack)<|H_ λ_ _ _ _ _ _ _=>rfl;have acH:=a37.kA E (λF=>HP F m acm acB)<|us4 λ_ _ _ _ _ _ _ _ _ _=>rfl;have acN:=a38.kA E (λF=>yo F C k ab4 acC)<|FA λ_ _ _ _ _ _ _ _=>rfl;exact ZQ F j d k D acD acE acF acG M acH Z acN
def walk{l:PySem.W.OpenLaw}{q:aj}{Z:(Str->bb)->aq->Prop}{U:ah->aq->Prop}{d:DefRec}{K:Params->au}(hn:l.most=some 63)(J:d.params.defaults=[])
  (hY:∀(w:ah) (h:aq),U w h->(K w.params).In h)
  (F:∀(w:ah) (mg:Str->bb) (fa:ak) (h:aq),(K w.params).In h->h.Ns mainGlobals mg->mg d.name=some (.ref fa) ->
   ∃fd:FuncData,(∀(s:aA) (u:af),BindsTo s fd ⟨[u],[]⟩ [("_law_script",u)])/\∀base:aq,(K w.params).In base->base.Ns mainGlobals mg->FnOk l.prog w (K w.params) mg base qj 24 fa fd ["_law_script"] (qK (K w.params) 1 Cy)) :
  PySem.W.WalkO q loose Z U l.row.toRowW d [] (λf vs=>PySem.call f vs):=
 L2.US (n:=63) (k:=24) (x := "_law_script") (CX:=λ_=>qj) (sp:=λw=>qK (K w.params) 1 Cy) hn ⋯ J ⟨rfl,by decide,by decide,rfl⟩ hY F (λ_ H a c g j hS=>Ng j hS<|XD c g) λ_ _ _ _ _ z=>z
end K69
open PySem PySem.W PyProof.Rows
namespace PySem.W.Fast
local macro_rules|`(command|universe $x*)=>do return Lean.mkNullNode (←x.mapM λx=>`(command|def $x:ident:=Nat))
universe tw1222950920895281534 tw14531604824115348337 tw6377103875944985748 tw1867716759551834951 tw2009309532202972556 tw17491721814065940003 tw12955072801592757422 tw18254710584832799417 tw2751995803320357663 tw11917396802280030544 tw16942009027922378272 tw157379858246013948 tw17607362583431565122 tw12928938045546333872 tw5149702734979126189 tw8633665458181431691 tw15657165091725366107 tw7313259011881013066 tw2019221368413090484 tw9681999489045391537 tw16455520502305299504 tw7553549650868933486 tw2712556646319004876 tw17276977554714520877 tw5294394075822773657 tw16088226046880403528 tw3189060194802021122 tw4550830449401646117 tw3463544026516728118 tw9460444567939277297 tw5798250027892750530 tw459221161145809404 tw11559368270643653614 tw16938868341017773784 tw8831480045432558683 tw16831958322376362178 tw7524667010117887126 tw4971675393204308461 tw8098280757020731901 tw1986952968335804851 tw15178263551443200635 tw11135085110612542535 tw7828505170132391774 tw13322769774352665177 tw10424207529578369299 tw15978995430082439213 tw646735143309476031 tw14482091260754846982 tw2753594451760091045 tw457101856216255544 tw17386826189429722617 tw9289506894147159973 tw9988712983864987708 tw7619281554189970853 tw6119883525053441730 tw16165342033184788437 tw6547269386139566551 tw12466206880998293966 tw15676169550325301599 tw17023920370705094530 tw11398940323241072801 tw12083899007068784706 tw18120257057393908828 tw17189024805808964898 tw9926106606369509958 tw8579332999271873852 tw16314321770609143789 tw14987437535657563345 tw10755685429730734942 tw1636126319806166042 tw8858761444732445076 tw11657485922691565293 tw15554831275350820301 tw1961698395908051103 tw16691012267853267326 tw16015524148397280220 tw3281009071678160340 tw17850592929870151200 tw7546132362394078766 tw4625737958082824765 tw6194645945473727484 tw12379890162276421511 tw12263655491416364490 tw17357607533891899666 tw6649706408801858595 tw974725018336275240 tw8119653795953146479 tw3018780520316793781 tw10048058085705249031 tw3680348656734923202 tw10423549401080088995 tw5578680180154991221 tw9965790027920863384 tw14080972354422331925 tw6315791841111363035 tw7831849781301221335 tw6671183689809635696 tw12846388707074201694 tw1003779224085549718 tw16657955833031587442 tw16416658776076500221 tw889555437080340554 tw16692805152946661867 tw3776289432653944264 tw5313677788123474064 tw8597623663477952372 tw3004648223691548335 tw1989881007765778904 tw1785460233452757032 tw9369622840670686985 tw17704440075478168733 tw3343085533057566427 tw18069363687948575532 tw11217715080494832624 tw13628368866322162933 tw4395813266839016189 tw13663217691015755752 tw16077221971216302326 tw2286649930000952481 tw5108706796507193034 tw8129733531257092140 tw18075410417619520996 tw7715265264620547656 tw9735189509156389965 tw8800535598336592944 tw6088646471865329983 tw9578528473776718203 tw15185806923336898524 tw8884473072829632863 tw14397207917726679702 tw144176134036482888 tw4352719764010461353 tw10550635547216385969 tw341110586126269657 tw10230352847129021838 tw3532686157836884616 tw17990654918043951633 tw4232872565826286375 tw9980051828952732299 tw14056542336342069646
end PySem.W.Fast
set_option maxRecDepth 100000 in
set_option maxHeartbeats 0 in
theorem PySem.Challenge.cw_undercells_k69_number_tables_holds : PySem.Challenge.rw_undercells_k69_number_tables.Holds := by
 w_on;o_law;k_head;(case hw=>w_witness2)
 k_fill
 refine K69.walk (l:=PySem.Challenge.rw_undercells_k69_number_tables) rfl rfl (fun w h Y=>PySem.W.kIn_of Y) ?F
 case F=>
  intro w mg fa h KX G hmg;refine' K69.all_mk KX G hmg (.of ?_ ?_ ?_ ?_) (.of ?_ ?_ ?_ ?_) (.of ?_ ?_ ?_ ?_) (.of ?_ ?_ ?_ ?_) (.of ?_ ?_ ?_ ?_) (.of ?_ ?_ ?_ ?_) (.of ?_ ?_ ?_ ?_) (.of ?_ ?_ ?_ ?_) (.of ?_ ?_ ?_ ?_) (.of ?_ ?_ ?_ ?_) (.of ?_ ?_ ?_ ?_) (.of ?_ ?_ ?_ ?_) (.of ?_ ?_ ?_ ?_) (.of ?_ ?_ ?_ ?_) (.of ?_ ?_ ?_ ?_) (.of ?_ ?_ ?_ ?_) (.of ?_ ?_ ?_ ?_) (.of ?_ ?_ ?_ ?_) (.of ?_ ?_ ?_ ?_) (.of ?_ ?_ ?_ ?_) (.of ?_ ?_ ?_ ?_) (.of ?_ ?_ ?_ ?_) (.of ?_ ?_ ?_ ?_) (.of ?_ ?_ ?_ ?_) (.of ?_ ?_ ?_ ?_) (.of ?_ ?_ ?_ ?_) (.of ?_ ?_ ?_ ?_) (.of ?_ ?_ ?_ ?_) (.of ?_ ?_ ?_ ?_) (.of ?_ ?_ ?_ ?_) (.of ?_ ?_ ?_ ?_) (.of ?_ ?_ ?_ ?_) (.of ?_ ?_ ?_ ?_) (.of ?_ ?_ ?_ ?_) (.of ?_ ?_ ?_ ?_) (.of ?_ ?_ ?_ ?_) (.of ?_ ?_ ?_ ?_) (.of ?_ ?_ ?_ ?_) (.of ?_ ?_ ?_ ?_) ?_ ?_ ?_ ?_ ?_ ?_ ?_ ?_ ?_ ?_ ?_ ?_ ?_ ?_
  any_goals first|k_is|kernel_rfl
