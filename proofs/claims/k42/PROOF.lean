import PyProof.Rows.All
import Wide.All
import OpenK.AllK
import Wide.FinOn
import Lean
import PyProof.EqAt
import PyProof.EqKinds
import PyProof.TupleCall
import PySem.Challenge.RW_undercells_k42_leads
set_option autoImplicit true
set_option relaxedAutoImplicit true
set_option Elab.async false
set_option linter.all false
set_option maxRecDepth 100000
set_option compiler.extract_closed false
set_option maxHeartbeats 4000000
local macro_rules|`($a<|>$b)=>`(autoParam $a $b)
local macro_rules|`(command|abbrev $n:declId $s:optDeclSig $v:declVal)=>`(command|noncomputable def $n:declId $s:optDeclSig $v:declVal)|`(command|meta abbrev $n:declId $s:optDeclSig $v:declVal)=>`(command|@[reducible]noncomputable def $n:declId $s:optDeclSig $v:declVal)
local macro_rules|`(∅)=>`(by decide +kernel)
local macro_rules|`(⋯)=>`(by decide)
local macro_rules|`(tactic|dsimp[$l,*])=>`(tactic|simp only[$l,*])|`(tactic|dsimp[$l,*]$o:location)=>`(tactic|simp only[$l,*]$o:location)
local macro_rules(kind:=Lean.Parser.Term.structInst)|`({})=>`({cls:=.type "list",data:=.seq ([]:List PySem.Value).toArray})
set_option hygiene false
local macro_rules|`(tactic|room)=>`(tactic|obtain⟨ρ,S,τ,R,r,h⟩:=h9)
local macro_rules|`(tactic|z_go)=>`(tactic|obtain⟨ρ,S,a,b,R,va,vb,h⟩:=h9)
local macro_rules|`(tactic|x_go)=>`(tactic|intro pins s σ H xs us Q I r h)
local macro_rules|`(tactic|w_up)=>`(tactic|intro pins s σ H Q I h)
local macro_rules|`(tactic|k_ne)=>`(tactic|intro X hP hw hK hc i pins s σ H E I hf st hg)
local macro_rules|`(tactic|kt_k)=>`(tactic|obtain⟨w,rfl,ρ,S,x,R,hv,h⟩:=Ot h0)
local macro_rules|`(tactic|kd_p)=>`(tactic|intro pins s σ H x y v u Q I rx ry h)
local macro_rules|`(tactic|gn_on)=>`(tactic|obtain⟨xs,hn,h⟩:=jV h)
local macro_rules|`(tactic|gp_on)=>`(tactic|obtain⟨f0,f1,f2,f3,f4,f5⟩:=hf it (by simp))
local macro_rules|`(tactic|kj_on)=>`(tactic|refine⟨ρ,S,τ,R,r,jW (j3 h) .refl λo S1 h1 ρ1 H1 x e1 R1 v1=>⟨ρ1,S1,τ,R1,r.ext e1,jW (j3 h1) e1 λi S2 h2 ρ2 H2 y e2 R2 v2=>?_⟩⟩)
local macro_rules|`(tactic|kcf_m)=>`(tactic|obtain⟨u,rfl,rx⟩:=vals1 r)
local macro_rules|`(tactic|kcj_m)=>`(tactic|refine⟨ρ,S,τ,R,r,jW (j3 h) .refl λx S1 h1 ρ1 H1 v e1 R1 v1=>?_⟩)
local macro_rules|`(tactic|kpc_g)=>`(tactic|exact⟨ρ2,S2,x,as,R2,v1.ext e2,v2,jW h2 (e1.trans e2) λ_ _ z=>z.ext (e1.trans e2)⟩)
local macro_rules|`(tactic|kpf_c)=>`(tactic|exact Kp.refl.lay)
local macro_rules|`(tactic|ksr_p)=>`(tactic|refine⟨ρ2,S2,o,i,a,R2,v1.ext e2,v2,va.ext (e1.trans e2),jW (j3 h2) (e1.trans e2) λ_ S3 h3 ρ3 H3 e3 R3=>?_⟩)
local macro_rules|`(tactic|kst_p)=>`(tactic|obtain⟨t,rfl⟩:=rx)
local macro_rules|`(tactic|kln_w)=>`(tactic|refine eY kind_sorted plain_sorted entry_sorted (args_sorted1 _) ?_)
local macro_rules|`(tactic|kl_no)=>`(tactic|obtain⟨ρ,S,o,as,R,vo,va,h⟩:=h9)
local macro_rules|`(tactic|mg_lt)=>`(tactic|rw[show its.toArray.any (D_ x)=its.any (D_ x)by simp,yy r fs])
local macro_rules|`(tactic|cb_eq)=>`(tactic|refine bf (wpS_lift (gr ⟨rfl,?_⟩)))
local macro_rules|`(tactic|o_rec)=>`(tactic|intro pins s σ H D I h)
set_option hygiene true
local macro_rules|`(())=>`(by lia)
@[reducible]def ag:=List Int
@[reducible]def am:=List Nat
@[reducible]def ar:=List PySem.Str
@[reducible]def ax:=List PySem.Value
@[reducible]def ba:=List PySem.Addr
@[reducible]def bb:=Option PySem.Value
@[reducible]def bi:=Option Int
@[reducible]def bj:=Option Bool
@[reducible]def bn:=Option Nat
@[reducible]def bo:=List<|PySem.Addr×PySem.Obj
def aE:=@List.getElem?_eq_getElem
def aF:=@List.getElem?_eq_some_iff
def aG:=@List.length_map
def aH:=@PySem.wpAny_bind
def aI:=@if_neg
def aJ:=@if_pos
def aK:=@List.getD_eq_getElem?_getD
def aL:=@List.mem_cons_self
def aN:=@List.mem_cons_of_mem
def aO:=@Nat.le_refl
def aP:=@List.mem_singleton
def aQ:=@List.getElem?_map
def aR:=@PySem.Heap.get?_push_of_some
def aV:=@PySem.wpAny_pure
def aW:=@List.mem_map
def aX:=@List.mem_of_getElem?
def aY:=@Option.map_eq_some_iff
def aZ:=@List.size_toArray
def a_:=@decide_eq_true
def bf:=@PyProof.Rows.wpS_bind
def bg:=@List.length_append
def bh:=@PySem.Heap.lt_size
def bq:=@decide_eq_false
def br:=@List.mem_append
def bu:=@PyProof.Rows.wpS_pure
def bw:=@Nat.ne_of_lt
def bz:=@Option.some.inj
def bA:=@List.length_cons
def bB:=@List.map_map
def bC:=@PySem.Heap.get?_push_size
def bD:=@Nat.le_trans
def bE:=@List.getElem?_append_left
def bF:=@Bool.false_eq_true
def bG:=@List.mem_cons
def bH:=@List.map_cons
def bI:=@List.length_take
def bJ:=@Bool.false_ne_true
def bK:=@List.mem_filter
def bL:=@Nat.zero_le
def bM:=@List.getElem?_set_ne
def bN:=@Nat.lt_of_lt_of_le
def bO:=@List.getElem?_set_self
def bP:=@of_decide_eq_true
def bQ:=@List.map_append
def bR:=@List.mem_append_right
def bV:=@PySem.F.slot_dict_get
def bW:=@Int.zero_add
def bX:=@PySem.PassesOwn.never
def bY:=@List.pairwise_cons
def bZ:=@List.filter_cons
def b8:=@Int.add_zero
def b9:=@List.getElem?_eq_none
def b_:=@Bool.and_eq_true
def cg:=@beq_self_eq_true
def cj:=@List.pairwise_append
def cu:=@PySem.wpAny_newObj_type
def cA:=@List.append_assoc
def cB:=@List.pairwise_singleton
def cC:=@List.length_filter_le
def cD:=@PySem.F.type_dict_get
def cE:=@List.length_set
def cF:=@List.find?_cons
def cG:=@if_false
def cH:=@List.take_length
def cI:=@List.append_nil
def cJ:=@List.length_range
def cK:=@List.pairwise_map
def cL:=@List.take_add_one
def cM:=@Nat.lt_of_le_of_lt
def cN:=@List.nodup_cons
def cO:=@List.nodup_append
def cP:=@List.forall_mem_cons
def cQ:=@PySem.W.mg_none_of
def cR:=@PyProof.Rows.slot_tuple_getitem
def cT:=@beq_eq_false_iff_ne
def cU:=@Nat.zero_add
def cV:=@PyProof.Rows.wpS_forRange
def cW:=@List.foldl_cons
def cX:=@List.length_nil
def cY:=@List.mem_range
def cZ:=@List.getElem_inj
def c5:=@List.reverse_cons
def c7:=@Nat.mul_le_mul_right
def c8:=@PySem.F.slot_dict_keyiterator_next
def c9:=@PySem.W.kia_one
def c_:=@Bool.not_false
def dc:=@PySem.wpAny_holding
def dg:=@Bool.not_true
def dh:=@List.map_congr_left
def di:=@Ne.symm
def dj:=@if_true
def dm:=@List.ext_getElem?
def dw:=@List.foldl_append
def dz:=@List.flatMap_cons
def dB:=@Option.map_some
def dD:=@List.getElem_map
def dG:=@List.pairwise_iff_getElem
def dH:=@List.drop_eq_getElem_cons
def dI:=@Array.length_toList
def dJ:=@Array.getElem?_toList
def dN:=@List.getElem?_take_of_lt
def dO:=@List.nodup_nil
def dP:=@Int.add_assoc
def dQ:=@of_decide_eq_false
def dR:=@PySem.sizeLine_eq
def dU:=@List.length_drop
def dW:=@List.length_eq_zero_iff
def dX:=@Option.bind_eq_some_iff
def dY:=@congrArg
def dZ:=@List.replicate_succ
def d7:=@List.getElem?_range
def d8:=@Nat.not_lt_zero
def d9:=@Array.getElem?_eq_getElem
def d_:=@List.getElem?_toArray
def eg:=@PySem.wpAny_call_entry
def eo:=@List.Perm.eq_of_pairwise
def eu:=@Int.mul_zero
def eB:=@PySem.Around.under_plainId
def eE:=@List.mem_of_mem_take
def eF:=@List.Perm.refl
def eG:=@PySem.wpAny_typeNameOfWhole_keyiter
def eK:=@PySem.wpAny_truthy_bool
def eL:=@Int.toNat_natCast
def eN:=@List.length_reverse
def eO:=@PyProof.Rows.wpS_mono
def eS:=@List.all_eq_true
def eT:=@List.prefix_refl
def eU:=@PySem.tupleKind_room_in1
def eV:=@List.prefix_append
def eW:=@List.getElem_range
def eX:=@Option.map_map
def eY:=@PySem.Calls.call_function_entry
def eZ:=@Classical.byContradiction
def e_:=@List.mem_of_find?_eq_some
def fh:=@PySem.wpAny_passesOwn
def fj:=@List.mem_append_left
def fq:=@List.flatten_cons
def fu:=@Nat.lt_succ_of_lt
def fB:=@List.take_succ_eq_append_getElem
def fC:=@List.mem_of_mem_drop
def fF:=@List.reverse_reverse
def fG:=@Option.isSome_iff_exists
def fH:=@PySem.wpAny_typeNameOf_keyiter
def fJ:=@List.idxOf_lt_length_iff
def fK:=@PySem.mem_of_lookup
def fL:=@List.mem_map_of_mem
def fM:=@PySem.wpAny_callSpecial?_slot
def fN:=@Nat.lt_succ_self
def fO:=@List.take_zero
def fP:=@List.getElem_mem
def fQ:=@Nat.mul_le_mul
def fR:=@List.mem_reverse
def fS:=@PySem.wpAny_typeOf
def fV:=@List.map_nil
def fW:=@PySem.Calls.callWith_builtin
def fX:=@Nat.succ_mul
def fY:=@PyProof.Rows.wpS_modify
def fZ:=@List.find?_eq_none
def f6:=@PySem.codeAny_builtin
def f7:=@Nat.lt_irrefl
def f9:=@List.set_append_right
def f_:=@List.mem_iff_getElem?
def gb:=@List.concat_eq_append
def gc:=@PyProof.Rows.callWith_type1
def gf:=@Option.isSome_map
def gg:=@List.find?_isSome
def gh:=@List.getElem?_append_right
def gp:=@PySem.Calls.evalArgs_plain
def gq:=@List.range_eq_range'
def gr:=@PySem.wpAny_rule
def gu:=@List.getElem?_of_mem
def gv:=@Nat.one_mul
def gz:=@Nat.le_of_not_lt
def gA:=@List.lookup_cons
def gB:=@Nat.lt_or_ge
def gC:=@List.any_eq_true
def gD:=@decide_eq_decide
def gE:=@List.mem_flatMap
def gF:=@PySem.F.args_dict_keyiterator_next_1
def gG:=@PySem.F.args_tuple_add_2
def gH:=@Nat.add_assoc
def gI:=@PySem.F.entry_dict_keyiterator_next
def gJ:=@PySem.F.slot_list_getattribute
def gK:=@List.sum_cons
def gM:=@PySem.wpAny_mono
def gO:=@PySem.call_meets
def gP:=@Nat.add_sub_cancel
def gQ:=@List.getElem?_drop
def gR:=@Int.emod_lt_of_pos
def gT:=@Option.isSome_none
def gU:=@PySem.F.entry_tuple_add
def gV:=@PySem.F.args_dict_get_3
def gW:=@PySem.F.plainAttrs_dict
def gY:=@PySem.wpAny_pyIter_list
def gZ:=@PySem.F.slot_tuple_add
def g_:=@PySem.wpAny_Call_method_late
def h_:=@PySem.Heap.size_push
def ie:=@Nat.lt_trans
def ig:=@PySem.F.entry_dict_get
def ir:=@PyProof.Rows.wpS_get
def iy:=@PySem.Heap.get?_push_ne
def iz:=@Array.getElem?_eq_none
def iA:=@List.find?_map
def iB:=@List.eraseIdxIfInBounds_toArray
def iC:=@List.length_singleton
def iD:=@List.take_append_drop
def iE:=@PySem.wpAny_isOneOf_keyiter
def iF:=@PySem.wpAny_notOrdered_dict
def iG:=@List.eq_nil_or_concat
def iH:=@Option.getD_some
def iI:=@List.range'_succ
def iJ:=@PySem.Heap.size_update
def iK:=@Option.bind_some
def iL:=@Nat.le_add_right
def iM:=@List.isEmpty_nil
def iN:=@List.all_cons
def iO:=@List.any_cons
def iP:=@PySem.plainId_quiet
def iQ:=@PySem.wpAny_field
def iR:=@List.eq_nil_of_length_eq_zero
def iS:=@Bool.or_eq_false_iff
def iT:=@Int.mul_add
def iU:=@PySem.wpAny_execs_nil
def iV:=@Nat.min_eq_left
def iW:=@List.find?_some
def iX:=@Int.emod_nonneg
def iY:=@List.filterMap_cons
def iZ:=@List.reverse_append
def i6:=@List.flatMap_append
def i7:=@List.filter_eq_self
def i8:=@List.filter_sublist
def i9:=@Nat.le_of_lt
def i_:=@Int.sub_zero
def ja:=@PySem.wpAny_Call_Name_kw
def jb:=@List.filterMap_map
def jc:=@PySem.Heap.IsSliceOf.new
def jd:=@Option.isSome_some
def je:=@List.perm_ext_iff_of_nodup
def jf:=@PySem.wpAny_fieldsOf
def jh:=@decide_eq_true_iff
def ji:=@List.getElem_idxOf
def jj:=@List.length_eraseIdx_of_lt
def jk:=@List.Sublist.nodup
def jl:=@PySem.slot_list_getitem
def jm:=@PySem.wpAny_dictEntries
def jn:=@Nat.add_mul
def jo:=@Int.one_mul
def jq:=@List.isEmpty_cons
def jt:=@PySem.Paired.length
def ju:=@PySem.evalPart_none
def jv:=@PySem.wpAny_newList
def jw:=@Bool.false_or
def jx:=@PySem.W.mg_of
def jy:=@List.map_reverse
def jz:=@List.zipIdx_cons
def jA:=@List.not_mem_nil
def jB:=@List.flatMap_nil
def jC:=@List.countP_cons
def jD:=@List.Sublist.map
def jE:=@PySem.codeAny_mono
def jF:=@Nat.sub_self
def jG:=@List.map_set
def jH:=@List.of_mem_zip
def jI:=@List.nil_append
def jJ:=@List.filter_map
def jK:=@Array.size_zip
def jL:=@List.foldl_map
def jM:=@Nat.mul_add
def jN:=@List.map_id
def jO:=@Int.natAbs_neg
@[reducible]def af:=PySem.Value
@[reducible]def ah:=PySem.World
@[reducible]def aj:=PySem.Program
@[reducible]def ak:=PySem.Addr
@[reducible]def aq:=PySem.Heap
@[reducible]def au:=PySem.W.Frag
@[reducible]def ay:=PySem.Around
@[reducible]def az:=PySem.Shared
@[reducible]def aA:=PySem.Expr
@[reducible]def aC:=PySem.Stmt
def anI{a b:Prop}(h:a)(k:b):a/\b:=⟨h,k⟩
open Array (size_map)
open Int (le_refl mul_assoc zero_mul)
open List (all_map map_drop map_take)
open Nat (sub_zero)
open Option (getD_none)
namespace L2
open PySem PySem.Spec PyProof.Rows
meta abbrev Key:=Sum Int Str
abbrev CU:Key->af->Bool
 | .inl k,v=>Value.isInt k v
 | .inr x,v=>Value.isStrOf x v
abbrev aex (w:ah):Key->Int
 | .inl k=>hashInt k
 | .inr x=>hashStr w x
def l8:∀{k:Key}{v:af},CU k v=true->(∃i t,k=Sum.inl i/\v=Value.int i t)\/(∃x t,k=Sum.inr x/\v=Value.str x t)
 | .inl i,v,h=>by
  obtain⟨t,e⟩:=Value.isInt_shape (k:=i) (v:=v) h;exact .inl ⟨i,t,rfl,e⟩
 | .inr x,v,h=>by
  obtain⟨t,e⟩:=Value.isStrOf_shape (x:=x) (v:=v) h;exact .inr ⟨x,t,rfl,e⟩
def NO(i:Int)(t:Tok):CU (.inl i) (.int i t)=true:=by simp[CU,Value.isInt]
def N7(x:Str)(t:Tok):CU (.inr x) (.str x t)=true:=by simp[CU,Value.isStrOf]
def Y9(a b:Int):decide ((Sum.inl a:Key)=Sum.inl b)=(a == b):=by
 by_cases e:a=b
 ·subst e;simp
 ·have h:¬(Sum.inl a:Key)=Sum.inl b:=λq=>e<|Sum.inl.inj q;rw[bq h];exact(cT.mpr e).symm
def aaH(a b:Str):decide ((Sum.inr a:Key)=Sum.inr b)=decide (a=b):=by
 by_cases e:a=b
 ·subst e;simp
 ·have h:¬(Sum.inr a:Key)=Sum.inr b:=λq=>e<|Sum.inr.inj q;rw[bq h,bq e]
def aaw(a:Int)(b:Str):decide ((Sum.inl a:Key)=Sum.inr b)=false:=bq λq=>nomatch q
def Zj(a:Str)(b:Int):decide ((Sum.inr a:Key)=Sum.inl b)=false:=bq λq=>nomatch q
abbrev kN (prog:aj)(w:ah):PySem.KeyKind prog w Key where
 is:=CU
 hash:=aex w
 inj:=λv a b f c=>by
  rcases l8 f with⟨i,t,rfl,rfl⟩|⟨x,t,rfl,rfl⟩
  ·rcases l8 c with⟨j,u,rfl,e⟩|⟨y,u,rfl,e⟩
   ·injection e with e1 _;rw[e1]
   ·exact nomatch e
  ·rcases l8 c with⟨j,u,rfl,e⟩|⟨y,u,rfl,e⟩
   ·exact nomatch e
   ·injection e with e1 _;rw[e1]
 byValue:=λk v h=>by
  rcases l8 h with⟨i,t,rfl,rfl⟩|⟨x,t,rfl,rfl⟩<;>rfl
 pyHash:=λhv h=>by
  rcases l8 hv with⟨i,t,rfl,rfl⟩|⟨x,t,rfl,rfl⟩
  ·exact wpAny_pyHash_int h
  ·exact wpAny_pyHash_str h
 eqBool:=λd hv h=>by
  rcases l8 d with⟨i,t,rfl,rfl⟩|⟨x,t,rfl,rfl⟩
  ·rcases l8 hv with⟨j,u,rfl,rfl⟩|⟨y,u,rfl,rfl⟩
   ·rw[Y9]at h;exact wpAny_eqBool_int h
   ·rw[aaw]at h;exact SeqAt.EqAt.int_str i t y u _ _ _ _ h
  ·rcases l8 hv with⟨j,u,rfl,rfl⟩|⟨y,u,rfl,rfl⟩
   ·rw[Zj]at h;exact SeqAt.EqAt.str_int x t j u _ _ _ _ h
   ·rw[aaH]at h;exact wpAny_eqBool_str h
 «strs»:=λk x t v h=>by
  rcases l8 h with⟨i,u,rfl,e⟩|⟨y,u,rfl,e⟩
  ·exact nomatch e
  ·injection e with e1 _
   subst e1
   cases v<;>rfl
def GG(prog:aj)(w:ah)(i:Int)(t:Tok):(kN prog w).is (.inl i) (.int i t)=true:=NO i t
def Gu(prog:aj)(w:ah)(x:Str)(t:Tok):(kN prog w).is (.inr x) (.str x t)=true:=N7 x t
inductive V where
 | non|bl (b:Bool)|int (i:Int)|str (x:Str)|byt (b:Array UInt8)|flt (b:UInt64)|ref (a:ak)|ty (n:String)
 deriving DecidableEq
abbrev RelV:V->af->Prop
 | .non,u=>u=Value.none
 | .bl b,u=>u=Value.bool b
 | .int i,u=>∃t,u=Value.int i t
 | .str x,u=>∃t,u=Value.str x t
 | .byt b,u=>∃t,u=Value.bytes b t
 | .flt b,u=>∃t,u=Value.float b t
 | .ref a,u=>u=Value.ref a
 | .ty n,u=>u=Value.type n
meta abbrev Vals:List V->ax->Prop:=Paired RelV
def Vals.length{xs:List V}{us:ax}(r:Vals xs us):xs.length=us.length:=jt r
theorem Vals.get:∀{xs:List V}{us:ax}{i:Nat}{x:V},Vals xs us->xs[i]?=some x->∃u,us[i]?=some u/\RelV x u
 | _,_,_,_,.nil,e=>by simp at e
 | _,_,0,_,.cons r _,e=>by simp at e;subst e;exact⟨_,rfl,r⟩
 | _,_,i+1,x,.cons _ t,e=>by
  obtain⟨u,h1,h2⟩:=Vals.get (i:=i) (x:=x) t (by simpa using e);exact⟨u,by simpa using h1,h2⟩
theorem Vals.set{x:V}(r:RelV x u):∀{xs:List V}{us:ax}(i:Nat),Vals xs us->Vals (xs.set i x) (us.set i u)
 | _,_,_,.nil=>.nil
 | _,_,0,.cons _ t=>.cons r t
 | _,_,i+1,.cons q t=>.cons q<|Vals.set r i t
theorem Vals.append:∀{xs ys:List V}{us ws:ax},Vals xs us->Vals ys ws->Vals (xs++ys) (us++ws)
 | _,_,_,_,.nil,s=>s
 | _,_,_,_,.cons r t,s=>.cons r<|Vals.append t s
theorem Vals.take:∀{xs:List V}{us:ax}(n:Nat),Vals xs us->Vals (xs.take n) (us.take n)
 | _,_,0,_=>.nil
 | _,_,_+1,.nil=>.nil
 | _,_,n+1,.cons r t=>.cons r<|Vals.take n t
theorem Vals.drop:∀{xs:List V}{us:ax}(n:Nat),Vals xs us->Vals (xs.drop n) (us.drop n)
 | _,_,0,r=>r
 | _,_,_+1,.nil=>.nil
 | _,_,n+1,.cons _ t=>Vals.drop n t
abbrev yU:Option V->bb->Prop
 | some v,some u=>RelV v u
 | none,none=>True
 | _,_=>False
abbrev KV {κ:Type}:List (κ×V)->List (κ×af)->Prop:=Paired λ(p:κ×V) (q:κ×af)=>p.1=q.1/\RelV p.2 q.2
abbrev kV:Key->V
 | .inl i=>.int i
 | .inr x=>.str x
inductive HO where
 | lst (xs:List V)
 | tup (xs:List V)
 | dK (kvs:List<|Key×V)|dT (kvs:List<|List Key×V)
 | set (S:Int->Bool) (n:Nat)
 | ins (C dx:ak) (fs:List<|Str×V)
 | own (x:ak)
 | xd (fs:List<|Str×V)
 | met (f x:ak)
 | rng (lo hi:Int)
 | frz (o:Obj) (u:HO)
 | tbl (ps:Array af)
 | ext (φ:aq->Prop)
meta abbrev Hp:=ak->Option HO
abbrev upd (H:Hp)(a:ak)(o:HO):Hp:=λb=>if b=a then some o else H b
def kZ{H:Hp}{a:ak}:upd H a o a=some o:=by unfold upd;rw[aJ rfl]
def j7{H:Hp}{a b:ak}(h:b≠a):upd H a o b=H b:=by unfold upd;rw[aI h]
def XY{H:Hp}{a b:ak}(h:H a=some o)(h':H b=some u)(d:o≠u):a≠b:=by
 intro e;subst e;rw[h]at h';exact d<|bz h'
def kF{H:Hp}{a b:ak}(h:H a=some o)(h':H b=none):a≠b:=by
 intro e;subst e;rw[h]at h';cases h'
abbrev p_ (h:aq)(a:ak)(J:Array af):Prop:=∃o,h.get? a=some o/\o.cls=.type "tuple" /\ o.dict=none/\∃n,o.data=.seq J n
def p_.tup{a:ak}:p_ h a items->IsTup h a items:=λ⟨o,e,c,_,n,d⟩=>⟨o,e,c,n,d⟩
def p_.new(h:aq)(J:Array af):p_ (h.push { cls:=.type "tuple",data:=.seq J }) h.objs.size J:=⟨_,bC _ rfl,rfl,rfl,_,rfl⟩
def p_.lt{h:aq}{a:ak}(x:p_ h a items):a<h.objs.size:=let⟨_,ho,_⟩:=x;bh ho
section
variable (P:aj) (w:ah)
abbrev lJ (H:Hp)(h:aq)(a:ak):HO->Prop
 | .lst xs=>xs.length<=sizeLine/\∃(its:ax) (n:Nat),Vals xs its/\h.get? a=some { cls:=.type "list",data:=.seq its.toArray n }
 | .tup xs=>xs.length<=sizeLine/\∃its:ax,Vals xs its/\p_ h a its.toArray
 | .dK c=>c.length<=sizeLine/\(a == sysModules)=false/\∃g,KV c g/\h.DictOf (kN P w) a g
 | .dT c=>c.length<=sizeLine/\(a == sysModules)=false/\∃xs:List<|List Key×ak×af,
   Paired (λ(p:List Key×V) (q:List Key×ak×af)=>p.1=q.1/\H q.2.1=some (.tup<|p.1.map kV)/\RelV p.2 q.2.2) c xs /\
   ∃o es ep,h.get? a=some o/\o.ExactDict/\o.data=.dict es ep/\es.toList=xs.map (entryOfKey<|tupleKind<|kN P w)/\(xs.map (·.1)).Nodup
 | .set S n=>h.SetOf (intKind P w) a S n
 | .ins C dx fs=>H dx=some (.own a)/\fs.length<=1000/\dx≠a/\h.get? a=some (PySem.W.instObj C dx) /\
   ∃d,h.Ns1 dx d/\(∀f,yU (fs.lookup f)<|d f)/\PySem.Within d (fs.map (·.1))
 | .own _=>∃o,h.get? a=some o
 | .xd fs=>∃d,h.Ns1 a d/\∀f,yU (fs.lookup f) (d f)
 | .rng lo hi=>∃t u v,h.get? a=some { cls:=.type "range",data:=.fields #[.int lo t,.int hi u,.int 1 v]}
 | .frz o u=>h.get? a=some o/\lJ H h a u
 | .tbl ps=>h.get? a=some { cls:=.none,data:=.fields ps }
 | .met f x=>h.get? a=some (PySem.W.methodObj (.ref f)<|.ref x)
 | .ext e=>e h/\(∃o,h.get? a=some o)/\∀h1 h2:aq,e h1->(∀o,h1.get? a=some o->h2.get? a=some o)->e h2
abbrev xO (H:Hp)(h:aq):Prop:=∀a o,H a=some o->lJ P w H h a o
end
section
variable {P:aj}{w:ah}{H H':Hp}{h h':aq}{a:ak}{o:HO}
def lJ.lt(x:lJ P w H h a o):a<h.objs.size:=by
 cases o with
 | lst xs=>obtain⟨_,_,_,_,e⟩:=x;exact bh e
 | tup xs=>obtain⟨_,_,_,p⟩:=x;exact p_.lt p
 | dK c=>obtain⟨_,_,_,_,o,_,_,e,_⟩:=x;exact bh e
 | dT c=>obtain⟨_,_,_,_,o,_,_,e,_⟩:=x;exact bh e
 | set S n=>obtain⟨o,_,_,_,e,_⟩:=x;exact bh e
 | ins C dx fs=>obtain⟨_,_,_,e,_⟩:=x;exact bh e
 | own y=>obtain⟨_,e⟩:=x;exact bh e
 | xd fs=>obtain⟨_,⟨_,_,_,e,_⟩,_⟩:=x;exact bh e
 | rng lo hi=>obtain⟨_,_,_,e⟩:=x;exact bh e
 | frz d u=>obtain⟨e,_⟩:=x;exact bh e
 | tbl ps=>exact bh (show h.get? a=some _ from x)
 | met f y=>exact bh (show h.get? a=some _ from x)
 | ext g=>obtain⟨_,⟨_,e⟩,_⟩:=x;exact bh e
theorem Paired.aa8{α β:Type}{F G:α->β->Prop}:∀{l₁:List α}{l₂:List β},Paired F l₁ l₂->(∀a b,F a b->G a b)->Paired G l₁ l₂
 | _,_,.nil,_=>.nil
 | _,_,.cons r t,f=>.cons (f _ _ r)<|Paired.aa8 t f
def lJ.stay(x:lJ P w H h a o)(k:∀b u,(b=a\/H b=some (.own a))->h.get? b=some u->h'.get? b=some u)
  (U:∀b,H b=some (.own a)->H' b=some (.own a)) (ht:∀b xs,H b=some (.tup xs)->H' b=some (.tup xs)):lJ P w H' h' a o:=by
 induction o with
 | lst xs=>obtain⟨z,its,n,r,e⟩:=x;exact⟨z,its,n,r,k _ _ (.inl rfl) e⟩
 | tup xs=>obtain⟨z,its,r,g,e,c⟩:=x;exact⟨z,its,r,g,k _ _ (.inl rfl) e,c⟩
 | dK j=>obtain⟨z,y,F,r,g,es,ep,e,c⟩:=x;exact⟨z,y,F,r,g,es,ep,k _ _ (.inl rfl) e,c⟩
 | dT j=>
  obtain⟨z,y,xs,r,g,es,ep,e,c⟩:=x;exact⟨z,y,xs,Paired.aa8 r λp q z=>⟨z.1,ht _ _ z.2.1,z.2.2⟩,g,es,ep,k _ _ (.inl rfl) e,c⟩
 | set S n=>obtain⟨g,es,ep,t,e,c⟩:=x;exact⟨g,es,ep,t,k _ _ (.inl rfl) e,c⟩
 | ins C dx fs=>
  obtain⟨d,z,G,e,B,⟨m,es,ep,e2,c⟩,r⟩:=x;exact⟨U _ d,z,G,k _ _ (.inl rfl) e,B,⟨m,es,ep,k _ _ (.inr d) e2,c⟩,r⟩
 | own y=>obtain⟨g,e⟩:=x;exact⟨g,k _ _ (.inl rfl) e⟩
 | xd fs=>obtain⟨B,⟨m,es,ep,e,c⟩,r⟩:=x;exact⟨B,⟨m,es,ep,k _ _ (.inl rfl) e,c⟩,r⟩
 | rng lo hi=>obtain⟨t,u,v,e⟩:=x;exact⟨t,u,v,k _ _ (.inl rfl) e⟩
 | frz g u J=>obtain⟨e,q⟩:=x;exact⟨k _ _ (.inl rfl) e,J q⟩
 | tbl ps=>
  have e:h.get? a=some { cls:=.none,data:=.fields ps }:=x
  skip
  exact k a _ (.inl rfl) e
 | met f y=>
  have e:h.get? a=some (PySem.W.methodObj (.ref f)<|.ref y):=x
  skip
  exact k a _ (.inl rfl) e
 | ext K=>obtain⟨p,⟨o,e⟩,st⟩:=x;exact⟨st _ _ p λo q=>k _ _ (.inl rfl) q,⟨o,k _ _ (.inl rfl) e⟩,st⟩
def xO.lt(x:xO P w H h)(e:H a=some o):a<h.objs.size:=(x a o e).lt
def xO.fresh(x:xO P w H h)(e:h.objs.size<=a):H a=none:=by
 cases q:H a with
 | none=>rfl
 | some u=>exact absurd (bN (x.lt q) e)<|f7 _
def xO.kept(x:xO P w H h)(k:∀b u,h.get? b=some u->h'.get? b=some u):xO P w H h':=λa o e=>
 (x a o e).stay (λb u _ q=>k b u q) (λ_ q=>q) λ_ _ q=>q
def xO.laid(x:xO P w H h)(k:∀b u,h.get? b=some u->h'.get? b=some u)(J:h.objs.size<=a)(new:lJ P w (upd H a o) h' a o):xO P w (upd H a o) h':=λb u e=>by
 have hn:=x.fresh J;by_cases d:b=a
 ·subst d;rw[kZ]at e;cases e;exact new
 ·rw[j7 d]at e;exact(x b u e).stay (λc v _ q=>k c v q) (λc q=>by rw[j7<|kF q hn];exact q) λc xs q=>by rw[j7<|kF q hn];exact q
end
abbrev Rd (H:Hp)(a:ak)(u:HO):Prop:=H a=some u\/∃o,H a=some (.frz o u)
def Rd.ok{P:aj}{w:ah}{H:Hp}{a:ak}(r:Rd H a u)(x:xO P w H h):lJ P w H h a u:=by
 rcases r with r|⟨o,r⟩
 ·exact x a u r
 ·obtain⟨_,q⟩:=x a _ r;exact q
abbrev Mut:Option HO->Prop
 | some (.lst _)=>True
 | some (.dK _)=>True
 | some (.dT _)=>True
 | some (.set _ _)=>True
 | some (.ins _ _ _)=>True
 | some (.ext _)=>True
 | _=>False
section
variable {P:aj}{w:ah}{H:Hp}{h h':aq}{x e:ak}{o':HO}
def xO.write(ok:xO P w H h)(J:Mut<|H x)(he:e=x\/H e=some (.own x))(k:∀b u,b≠e->h.get? b=some u->h'.get? b=some u)(U:∃u,h'.get? e=some u)
  (new:lJ P w (upd H x o') h' x o'):xO P w (upd H x o') h':=λb u q=>by
 have f:∀c y,H c=some (.own y)->c≠x:=λc y r z=>by subst z;rw[r]at J;exact J
 have g:∀c xs,H c=some (.tup xs)->c≠x:=λc xs r z=>by subst z;rw[r]at J;exact J
 by_cases j:b=x
 ·subst j;rw[kZ]at q;cases q;exact new
 ·rw[j7 j]at q;by_cases d:b=e
  ·have m:H b=some (.own x):=by
    rcases he with z|z
    ·exact absurd (d.trans z) j
    ·rw[d];exact z
   rw[q]at m;cases m;obtain⟨v,hv⟩:=U;exact⟨v,by rw[d];exact hv⟩
  ·refine(ok b u q).stay (λc v hc r=>k c v ?_ r) (λc r=>by rw[j7<|f c b r];exact r) λc xs r=>by rw[j7<|g c xs r];exact r
   rcases hc with rfl|hc
   ·exact d
   ·rintro rfl
    rcases he with z|z
    ·exact f c b hc z
    ·rw[hc]at z;cases z;exact j rfl
end
structure Un (fs ex:ba)(H H':Hp)(h h':aq):Prop where
 keep:∀b o,h.get? b=some o->H b=none->b∉fs->b∉ex->h'.get? b=some o
 slot:∀b o,h.get? b=some o->H b=none->b∈fs->b∉ex->∃sl,h'.get? b=some { o with slots:=sl }
 free:∀b o,h.get? b=some o->H b=none->b∉ex->H' b=none
 there:∀b o,h.get? b=some o->b∉ex->∃o',h'.get? b=some o'
 tups:∀b xs,H b=some (.tup xs)->H' b=some (.tup xs)
 frzs:∀b o u,H b=some (.frz o u)->H' b=some (.frz o u)
 tbls:∀b ps,H b=some (.tbl ps)->∃more,H' b=some (.tbl<|ps++more)
section
variable {fs ex:ba}{H H1:Hp}{h h1 h':aq}{a x e:ak}{o:HO}
def Un.any(u:Un fs ex H H1 h h1){b:ak}{ob:Obj}(q:h.get? b=some ob)(n:H b=none)(J:b∉ex):∃sl,h1.get? b=some { ob with slots:=sl }:=by
 by_cases c:b∈fs
 ·exact u.slot b ob q n c J
 ·exact⟨ob.slots,u.keep b ob q n c J⟩
def Un.kept(k:∀b u,h.get? b=some u->h'.get? b=some u):Un fs ex H H h h':=
 ⟨λb c q _ _ _=>k b c q,λb c q _ _ _=>⟨c.slots,k b c q⟩,λ_ _ _ n _=>n,λb c q _=>⟨c,k b c q⟩,λ_ _ q=>q,λ_ _ _ q=>q,λ_ ps q=>⟨#[],by rw[q];simp⟩⟩
def Un.refl:Un fs ex H H h h:=Un.kept λ_ _ q=>q
def Un.laid(k:∀b u,h.get? b=some u->h'.get? b=some u)(J:h.objs.size<=a)(hn:H a=none):Un fs ex H (upd H a o) h h' where
 keep:=λb u q _ _ _=>k b u q
 slot:=λb u q _ _ _=>⟨u.slots,k b u q⟩
 free:=λb u q n _=>by rw[j7<|bw<|bN (bh q) J];exact n
 there:=λb u q _=>⟨u,k b u q⟩
 tups:=λb xs q=>by rw[j7<|kF q hn];exact q
 frzs:=λb u xs q=>by rw[j7<|kF q hn];exact q
 tbls:=λb ps q=>⟨#[],by rw[j7<|kF q hn,q];simp⟩
def Un.write(J:Mut<|H x)(he:e=x\/H e=some (.own x))(k:∀b u,b≠e->h.get? b=some u->h'.get? b=some u)(U:∃u,h'.get? e=some u):Un fs ex H (upd H x o) h h':=by
 have f:∀b,H b=none->b≠x:=λb n z=>by subst z;rw[n]at J;exact J
 have g:∀b,H b=none->b≠e:=λb n z=>by
  subst z
  rcases he with r|r
  ·exact f b n r
  ·rw[n]at r;cases r
 have d:∀b u,H b=some u->¬Mut (some u)->b≠x:=λb u q j z=>by subst z;rw[q]at J;exact j J
 refine⟨λb u q n _ _=>k b u (g b n) q,λb u q n _ _=>⟨u.slots,k b u (g b n) q⟩,λb u q n _=>by rw[j7<|f b n];exact n,λb u q _=>?_,
  λb xs q=>by rw[j7<|d b _ q λz=>z];exact q,λb u xs q=>by rw[j7<|d b _ q λz=>z];exact q,λb ps q=>⟨#[],by rw[j7<|d b _ q λz=>z,q];simp⟩⟩
 by_cases c:b=e
 ·subst c;exact U
 ·exact⟨u,k b u c q⟩
end
abbrev trk (h:aq)(H:Hp):ba:=(List.range h.objs.size).filter λa=>(H a).isSome
abbrev Fi (h:aq)(H:Hp):aq:=PySem.W.hideAll h<|trk h H
def Nz(h:aq)(H:Hp):(Fi h H).objs.size=h.objs.size:=PySem.W.hideAll_size _ _
def Pb{h:aq}{H:Hp}{b:ak}(e:h.get? b=some o)(n:H b=none):(Fi h H).get? b=some o:=
 PySem.W.hideAll_get _ e λc=>by
  have q:(H b).isSome=true:=(bK.mp c).2;rw[n]at q;simp at q
def V3{h:aq}{H:Hp}{b:ak}(e:(Fi h H).get? b=some o):h.get? b=some o/\H b=none:=by
 have c:h.get? b=some o:=PySem.W.of_hideAll (trk h H) e;refine⟨c,?_⟩
 cases q:H b with
 | none=>rfl
 | some x=>
  have d:b∈trk h H:=bK.mpr ⟨cY.mpr<|bh c,by simp[q]⟩;have z:(Fi h H).get? b=none:=PySem.W.hideAll_none (trk h H) d;rw[z]at e;cases e
abbrev W6 (g h:aq)(L:ak):bo:=(List.range h.objs.size).filterMap λa=>if a=L\/(g.get? a).isSome=true then none else(h.get? a).map λo=>(a,o)
abbrev rest (g h:aq)(L d:ak):bo:=(W6 g h L).filter λp=>decide<|p.1≠d
structure Mod (K:au)(mg:Str->bb)(base:aq):Prop where
 kin:K.In base
 glob:base.Ns mainGlobals mg
 blt:∃mb,base.Ns builtinsNs mb/\∀x:Str,x ≠ "__name__" -> mb x=bootBuiltins x
 nolimit:base.NoLimit
structure Cx where
 prog:aj
 w:ah
 K:au
 mg:Str->bb
 base:aq
 A:ay
 N:ar
 s₀:az
 H₀:Hp
 env:Env
 outer:List Env
 stack:List Env
 ex:ba
 fn:Str->Bool
 calm:Bool
 pn:bo
 xe:af->az->Prop
abbrev frs (l:List Env):ba:=l.filterMap (·.frame)
meta abbrev Cx.fs (X:Cx):ba:=frs X.outer
abbrev Vis (J:Scope)(x:Str):Prop:=J.names.lookup x=some .local\/J.names.lookup x=some .cell\/J.names.lookup x=some .free
abbrev Loc (J:Scope)(x:Str):Prop:=J.names.lookup x=some .local\/J.names.lookup x=some .cell
abbrev Look (env:Env)(h:aq)(m:Str->bb)(x:Str)(u:af):Prop:=
 (env.kindOf x=some .local/\m x=some u)\/((env.kindOf x=some .cell\/env.kindOf x=some .free)/\∃c,env.cells.lookup x=some c/\h.IsCell c (some u))
structure Cx.Ok (X:Cx):Prop where
 mod:Mod X.K X.mg X.base
 kind:X.env.scope.kind=.function
 glob:X.env.globals=mainGlobals
 blt:X.env.builtins=builtinsNs
 above:X.s₀.heap.objs.size<=X.env.locals
 inj:∀x y c,X.env.cells.lookup x=some c->X.env.cells.lookup y=some c->x=y
 has:∀x,(X.env.kindOf x=some .cell\/X.env.kindOf x=some .free)->∃c,X.env.cells.lookup x=some c
 cab:∀x c,X.fn x=true->X.env.cells.lookup x=some c->X.s₀.heap.objs.size<=c
 hd:X.calm=true->X.A.handled=none
 frames:X.A.frames=some X.stack
 stk:X.stack=X.outer\/(X.stack=X.env::X.outer/\X.env.frame=some X.env.locals)
 exf:∀b∈X.ex,b≠X.env.locals/\∀x c,X.env.cells.lookup x=some c->c≠b
 bs:∀b o,X.base.get? b=some o->X.s₀.heap.get? b=some o/\X.H₀ b=none
 bsz:X.base.objs.size<=X.s₀.heap.objs.size
 noex:∀b o,X.base.get? b=some o->b∉X.ex
 exfs:∀b∈X.ex,b∉X.fs
 Bb:X.s₀.heap.FunFrames X.base X.outer
 frf:∀b∈X.fs,X.H₀ b=none
structure Inv (X:Cx)(pins:bo)(σ:List (Option V))(H:Hp)(s:az):Prop where
 ok:X.Ok
 os:s.os=X.s₀.os
 bare:AllBare s.gens
 base:Un X.fs X.ex X.H₀ H X.s₀.heap s.heap
 loc:∃m,s.heap.Ns X.env.locals m/\∀(i:Nat) (x:Str) (v:V),X.N[i]?=some x->σ[i]?=some (some v)->Vis X.env.scope x->∃u,RelV v u/\Look X.env s.heap m x u
 cell:∀x c,X.env.cells.lookup x=some c->∃v,s.heap.IsCell c v
 free:H X.env.locals=none
 freeC:∀x c,X.env.cells.lookup x=some c->H c=none
 pin:∀p∈X.pn++pins,s.heap.get? p.1=some p.2/\H p.1=none/\p.1≠X.env.locals/\p.1∉X.fs/\∀v,p.2.data≠.cell v
 hok:xO X.prog X.w H s.heap
 len:σ.length=X.N.length
section
variable {X:Cx}{pins:bo}{σ:List (Option V)}{H H':Hp}{s:az}{h':aq}
def Cx.Ok.aey(ok:X.Ok){b:ak}(e:X.base.get? b=some o):b∉X.fs:=λc=>by
 have:=(ok.Bb.mem c).1;rw[e]at this;cases this
def Inv.bs(I:Inv X pins σ H s):∀b o,X.base.get? b=some o->s.heap.get? b=some o/\H b=none:=λb o e=>
 ⟨I.base.keep b o (I.ok.bs b o e).1 (I.ok.bs b o e).2 (I.ok.aey e)<|I.ok.noex b o e,I.base.free b o (I.ok.bs b o e).1 (I.ok.bs b o e).2<|I.ok.noex b o e⟩
def Inv.bk(I:Inv X pins σ H s):∀b o,X.base.get? b=some o->s.heap.get? b=some o:=λb o e=>(I.bs b o e).1
def Inv.mod(I:Inv X pins σ H s):Mod X.K X.mg X.base:=I.ok.mod
def Inv.E4(I:Inv X pins σ H s):X.K.In s.heap:=I.ok.mod.kin.keeps I.bk
def Inv.lt(I:Inv X pins σ H s):X.env.locals<s.heap.objs.size:=let⟨_,hn,_⟩:=I.loc;hn.lt
def Inv.sz(I:Inv X pins σ H s):X.s₀.heap.objs.size<=s.heap.objs.size:=bD I.ok.above<|i9 I.lt
def Inv.aeN(I:Inv X pins σ H s){a:ak}(h:s.heap.objs.size<=a):a∉X.fs:=λc=>by
 obtain⟨_,o,d,_⟩:=I.ok.Bb.mem c;exact absurd (bN (bh d)<|bD I.sz h)<|f7 _
def Inv.cne(I:Inv X pins σ H s):∀x c,X.env.cells.lookup x=some c->c≠X.env.locals:=λx c e z=>by
 obtain⟨v,o,j,g⟩:=I.cell x c e;obtain⟨m,⟨o',es,ep,f,d,_⟩,_⟩:=I.loc;rw[z,f]at j;cases j;rw[d]at g;cases g
def Inv.Bb(I:Inv X pins σ H s):s.heap.FunFrames X.base X.outer:=by
 have all:∀(l:List Env),(∀b∈frs l,b∈X.fs)->X.s₀.heap.FunFrames X.base l->s.heap.FunFrames X.base l:=by
  intro l
  induction l with
  | nil=>intro _ _;trivial
  | cons m r p=>
   intro hs g;obtain⟨f,⟨L,o,hf,hn,k,q⟩,j⟩:=g;have c:L∈X.fs:=hs L (by unfold frs;rw[iY,hf];exact aL);obtain⟨B,e⟩:=I.base.slot L o k (I.ok.frf L c) c λz=>I.ok.exfs L z c;exact⟨f,⟨L,_,hf,hn,e,q⟩,p (λb d=>hs b<|by unfold frs;rw[iY,hf];exact aN _ d) j⟩
 exact all X.outer (λ_ d=>d) I.ok.Bb
def Inv.stack(I:Inv X pins σ H s):s.heap.FunFrames X.base X.stack:=by
 rcases I.ok.stk with e|⟨e,hf⟩
 ·rw[e];exact I.Bb
 ·rw[e];obtain⟨m,hn,_⟩:=I.loc;refine .cons (by rw[I.ok.kind];decide) hf hn ?_ I.Bb;exact Heap.get?_none_of_le<|bD I.ok.bsz I.ok.above
def Inv.Jl(I:Inv X pins σ H s):∀b∈frs X.stack,b∈X.env.locals::X.fs:=λb c=>by
 rcases I.ok.stk with e|⟨e,hf⟩
 ·rw[e]at c;exact aN _ c
 ·rw[e]at c;unfold frs at c;rw[iY,hf]at c;exact c
def Inv.MA(I:Inv X pins σ H s):∀b∈frs X.stack,H b=none:=λb c=>by
 rcases bG.mp (I.Jl b c)with e|c
 ·rw[e];exact I.free
 ·obtain⟨_,o,d,_⟩:=I.ok.Bb.mem c;exact I.base.free b o d (I.ok.frf b c) λz=>I.ok.exfs b z c
def Inv.step{g':Array GenState}{t':Nat}{d':Drawn}{ch:ba}(I:Inv X pins σ H s)
  (U:∀b∈ch,(b∈X.ex\/X.s₀.heap.objs.size<=b)/\b≠X.env.locals/\(∀x c,X.env.cells.lookup x=some c->c≠b)/\∀p∈X.pn++pins,p.1≠b)
  (keep:∀b o,b≠X.env.locals->b∉X.fs->b∉ch->s.heap.get? b=some o->H b=none->h'.get? b=some o)
  (slot:∀b o,b≠X.env.locals->b∈X.fs->b∉ch->s.heap.get? b=some o->H b=none->∃sl,h'.get? b=some { o with slots:=sl }) (free:∀b o,b∉ch->s.heap.get? b=some o->H b=none->H' b=none)
  (there:∀b o,b∉ch->s.heap.get? b=some o->∃o',h'.get? b=some o')
  (tups:∀b xs,H b=some (.tup xs)->H' b=some (.tup xs)) (frzs:∀b o u,H b=some (.frz o u)->H' b=some (.frz o u)) (tbls:∀b ps,H b=some (.tbl ps)->∃more,H' b=some (.tbl<|ps++more))
  (ns:∀m,s.heap.Ns X.env.locals m->h'.Ns X.env.locals m) (hok:xO X.prog X.w H' h') (hg:AllBare g') :
  Inv X pins σ H' { s with heap:=h',gens:=g',drawn:=d',toks:=t' }:=by
 have G:∀b o,X.s₀.heap.get? b=some o->b≠X.env.locals:=λb o e=>bw<|bN (bh e) I.ok.above;have B:∀b o,X.s₀.heap.get? b=some o->b∉X.ex->b∉ch:=λb o e f C=>by
  rcases(U b C).1 with z|z
  ·exact f z
  ·exact absurd (bN (bh e) z)<|f7 _
 have g:∀x c,X.env.cells.lookup x=some c->∀v,s.heap.IsCell c v->h'.IsCell c v:=λx c e v ⟨o,F,K⟩=>by
  have j:c∉ch:=λz=>(U c z).2.2.1 x c e rfl;by_cases hc:c∈X.fs
  ·obtain⟨sl,q⟩:=slot c o (I.cne x c e) hc j F<|I.freeC x c e;exact⟨_,q,K⟩
  ·exact⟨o,keep c o (I.cne x c e) hc j F<|I.freeC x c e,K⟩
 refine⟨I.ok,I.os,hg,⟨λb o e n C f=>?_,λb o e n C f=>?_,λb o e n f=>?_,λb o e f=>?_,λb xs e=>tups b xs<|I.base.tups b xs e,λb o xs e=>frzs b o xs<|I.base.frzs b o xs e,λb ps e=>?_⟩,?_,λx c e=>?_,?_,λx c e=>?_,λp M=>?_,hok,I.len⟩
 ·exact keep b o (G b o e) C (B b o e f) (I.base.keep b o e n C f) (I.base.free b o e n f)
 ·obtain⟨sl,e1⟩:=I.base.slot b o e n C f;obtain⟨J,e2⟩:=slot b _ (G b o e) C (B b o e f) e1<|I.base.free b o e n f;exact⟨J,e2⟩
 ·obtain⟨o',e1⟩:=I.base.there b o e f;exact free b o' (B b o e f) e1 (I.base.free b o e n f)
 ·obtain⟨o',e1⟩:=I.base.there b o e f;exact there b o' (B b o e f) e1
 ·obtain⟨O,e1⟩:=I.base.tbls b ps e;obtain⟨T,e2⟩:=tbls b _ e1;exact⟨O++T,by rw[e2,Array.append_assoc]⟩
 ·obtain⟨m,hn,P⟩:=I.loc;refine⟨m,ns m hn,λi x v e1 e2 e3=>?_⟩;obtain⟨u,r,l⟩:=P i x v e1 e2 e3;refine⟨u,r,?_⟩
  rcases l with l|⟨k,c,e,z⟩
  ·exact .inl l
  ·exact .inr ⟨k,c,e,g x c e _ z⟩
 ·obtain⟨v,z⟩:=I.cell x c e;exact⟨v,g x c e v z⟩
 ·obtain⟨m,⟨o,_,_,F,_⟩,_⟩:=I.loc;exact free _ o (λz=>(U _ z).2.1 rfl) F I.free
 ·obtain⟨v,o,F,K⟩:=I.cell x c e;exact free c o (λz=>(U c z).2.2.1 x c e rfl) F (I.freeC x c e)
 ·obtain⟨e,n,L,N,d⟩:=I.pin p M;have j:p.1∉ch:=λz=>(U p.1 z).2.2.2 p M rfl;exact⟨keep p.1 p.2 L N j e n,free p.1 p.2 j e n,L,N,d⟩
def Inv.un{t':Nat}(I:Inv X pins σ H s)(u:Un X.fs [] H H' s.heap h')(J:xO X.prog X.w H' h'):Inv X pins σ H' { s with heap:=h',toks:=t' }:=by
 obtain⟨m,⟨o,es,ep,j,r⟩,_⟩:=id I.loc;obtain⟨C,p⟩:=u.any j I.free (by simp);exact I.step (g':=s.gens) (d':=s.drawn) (ch:=[]) (nofun) (λb o _ f _ e n=>u.keep b o e n f<|by simp) (λb o _ f _ e n=>u.slot b o e n f<|by simp) (λb o _ e n=>u.free b o e n<|by simp) (λb o _ e=>u.there b o e<|by simp) u.tups u.frzs u.tbls (λB k=>by
  obtain⟨o',g,d,c,q⟩:=k;rw[j]at c;cases c;exact⟨_,g,d,p,q⟩) J I.bare
def Inv.call{g':Array GenState}{t':Nat}{d':Drawn}{ch:ba}(I:Inv X pins σ H s)(u:Un (frs X.stack) ch H H' s.heap h')(U:xO X.prog X.w H' h')(hg:AllBare g')
  (J:∀b∈ch,(b∈X.ex\/X.s₀.heap.objs.size<=b)/\b≠X.env.locals/\(∀x c,X.env.cells.lookup x=some c->c≠b)/\∀p∈X.pn++pins,p.1≠b) :
  Inv X pins σ H' { s with heap:=h',gens:=g',drawn:=d',toks:=t' }:=by
 obtain⟨m,⟨o,es,ep,k,r⟩,_⟩:=id I.loc;obtain⟨G,g⟩:=u.any k I.free λz=>(J _ z).2.1 rfl;exact I.step (ch:=ch) J (λb o g B hc e n=>u.keep b o e n (λz=>(bG.mp<|I.Jl b z).elim g B) hc) (λb o _ _ hc e n=>u.any e n hc) (λb o hc e n=>u.free b o e n hc) (λb o hc e=>u.there b o e hc) u.tups u.frzs u.tbls (λF q=>by
  obtain⟨o',j,f,d,C⟩:=q;rw[k]at d;cases d;exact⟨_,j,f,g,C⟩) U hg
def Inv.turned{t':Nat}{it:ak}(I:Inv X pins σ H s)(k:∀b o,b≠it->s.heap.get? b=some o->h'.get? b=some o)(hn:H it=none)(J:it≠X.env.locals)
  (h1:it∈X.ex\/X.s₀.heap.objs.size<=it) (h2:∀x c,X.env.cells.lookup x=some c->c≠it) (h3:∀p∈X.pn++pins,p.1≠it):Inv X pins σ H { s with heap:=h',toks:=t' }:=by
 have d:∀b u,H b=some u->b≠it:=λb u e z=>by rw[z,hn]at e;cases e
 refine I.step (g':=s.gens) (d':=s.drawn) (ch:=[it]) (λb g=>?_) (λb o _ _ hc e _=>k b o (λz=>hc<|by simp[z]) e) (λb o _ _ hc e _=>⟨o.slots,k b o (λz=>hc<|by simp[z]) e⟩) (λ_ _ _ _ n=>n)
  (λb o hc e=>⟨o,k b o (λz=>hc<|by simp[z]) e⟩) (λ_ _ e=>e) (λ_ _ _ e=>e) (λb ps e=>⟨#[],by rw[e];simp⟩) (λm f=>?_) (λb u e=>?_) I.bare
 ·have e:b=it:=by simpa using g
  subst e;exact⟨h1,J,h2,h3⟩
 ·obtain⟨o,es,ep,j,r⟩:=f;exact⟨o,es,ep,k _ o (di J) j,r⟩
 ·refine(I.hok b u e).stay (λc v hc q=>k c v ?_ q) (λ_ q=>q) λ_ _ q=>q
  rcases hc with z|z
  ·rw[z];exact d b u e
  ·exact d c _ z
def Inv.tok(I:Inv X pins σ H s)(t:Nat):Inv X pins σ H { s with toks:=t }:=I.un (h':=s.heap) (t':=t) Un.refl I.hok
def Inv.kept{t':Nat}(I:Inv X pins σ H s)(k:∀b u,s.heap.get? b=some u->h'.get? b=some u):Inv X pins σ H { s with heap:=h',toks:=t' }:=I.un (Un.kept k)<|I.hok.kept k
def Inv.laid{a:ak}{t':Nat}(I:Inv X pins σ H s)(k:∀b u,s.heap.get? b=some u->h'.get? b=some u)(J:s.heap.objs.size<=a)(new:lJ X.prog X.w (upd H a o) h' a o) :
  Inv X pins σ (upd H a o) { s with heap:=h',toks:=t' }:=I.un (Un.laid k J<|I.hok.fresh J)<|I.hok.laid k J new
def Inv.write{x e:ak}{t':Nat}(I:Inv X pins σ H s)(U:Mut<|H x)(he:e=x\/H e=some (.own x))(k:∀b u,b≠e->s.heap.get? b=some u->h'.get? b=some u)(J:∃u,h'.get? e=some u)
  (new:lJ X.prog X.w (upd H x o) h' x o):Inv X pins σ (upd H x o) { s with heap:=h',toks:=t' }:=I.un (Un.write U he k J)<|I.hok.write U he k J new
def Inv.KC{J:bo}(I:Inv X pins σ H s)(h:∀p∈J,s.heap.get? p.1=some p.2/\H p.1=none/\p.1≠X.env.locals/\p.1∉X.fs/\∀v,p.2.data≠.cell v):Inv X J σ H s:=
 ⟨I.ok,I.os,I.bare,I.base,I.loc,I.cell,I.free,I.freeC,λp c=>(br.mp c).elim (λz=>I.pin p<|fj _ z)<|h p,I.hok,I.len⟩
def Hs{N:ar}(J:N.Nodup){i j:Nat}{x:Str}(a:N[i]?=some x)(b:N[j]?=some x):i=j:=by
 obtain⟨h1,e1⟩:=aF.mp a;obtain⟨h2,e2⟩:=aF.mp b;exact(cZ J).mp (e1.trans e2.symm)
def _root_.γ0(h:1=1:=by first|exact .inl rfl|exact .inr rfl|assumption):1=1:=h
def _root_.γ:Lean.Syntax:=γ0._auto_1
def _root_.δ0(h:1=1:=by decide):1=1:=h
def _root_.δ:Lean.Syntax:=δ0._auto_1
def _root_.η0(h:1=1:=by rfl):1=1:=h
def _root_.η:Lean.Syntax:=η0._auto_1
def _root_.θ0(h:1=1:=by intro _;rfl):1=1:=h
def _root_.θ:Lean.Syntax:=θ0._auto_1
def _root_.ι0(h:1=1:=by with_unfolding_all rfl):1=1:=h
def _root_.ι:Lean.Syntax:=ι0._auto_1
def _root_.μ0(h:1=1:=by exact λ_ _=>rfl):1=1:=h
def _root_.μ:Lean.Syntax:=μ0._auto_1
def Nv{A:ay}{E:af->az->Prop}{i:Nat}{x:Str}{v:V}{Q:Unit->az->Prop}(I:Inv X pins σ H s)(hN:X.N.Nodup)(hi:X.N[i]?=some x)(hx:Loc X.env.scope x)(r:RelV v u)
  (h:∀s',Inv X pins (σ.set i<|some v) H s'->(∃a,Heap.SameBut a s.heap s'.heap/\(a=X.env.locals\/X.env.cells.lookup x=some a))->Q Unit.unit s') (hf:X.fn x=true\/X.env.scope.names.lookup x=some .local<|>γ):wpAny M A (storeName X.env x u) Q E s:=by
 obtain⟨m,hn,hl⟩:=id I.loc;have L:(X.env.scope.kind == .class || (X.env.scope.kind == .module && X.env.locals != X.env.globals))=false:=by rw[I.ok.kind];rfl
 have B:i<σ.length:=by rw[I.len];exact(aF.mp hi).1
 have cne:=I.cne;have f:∀{a:ak} {h':aq},(∃o,s.heap.get? a=some o/\H a=none)->Heap.SameBut a s.heap h'->xO X.prog X.w H h':=λ{a h'} ha hs b ob e=>by
  obtain⟨_,_,g⟩:=ha;refine(I.hok b ob e).stay (λc Y hc q=>(hs.2 c ?_).trans q) (λ_ q=>q) λ_ _ q=>q;rintro rfl
  rcases hc with rfl|hc
  ·rw[g]at e;cases e
  ·rw[g]at hc;cases hc
 rcases hx with C|C
 ·refine wpAny_storeName_local C hn (λh' Z hs=>?_) L;obtain⟨oL,_,_,hoL,_⟩:=id hn;refine h _ ⟨I.ok,I.os,I.bare,⟨λb o e n G hx=>?_,λb o e n G hx=>?_,I.base.free,λb o e hx=>?_,I.base.tups,I.base.frzs,I.base.tbls⟩,⟨_,Z,λj y v' e1 e2 e3=>?_⟩,λy c e=>?_,I.free,I.freeC,λp hp=>?_,f ⟨oL,hoL,I.free⟩ hs,by simpa using I.len⟩ ⟨_,hs,.inl rfl⟩
  ·exact(hs.2 b<|bw<|bN (bh e) I.ok.above).trans (I.base.keep b o e n G hx)
  ·obtain⟨sl,e1⟩:=I.base.slot b o e n G hx;exact⟨sl,(hs.2 b<|bw<|bN (bh e) I.ok.above).trans e1⟩
  ·obtain⟨o',e1⟩:=I.base.there b o e hx;exact⟨o',(hs.2 b<|bw<|bN (bh e) I.ok.above).trans e1⟩
  ·by_cases F:j=i
   ·subst F;rw[hi]at e1;cases e1;rw[bO B]at e2
    cases e2
    exact⟨u,r,.inl ⟨C,by simp⟩⟩
   ·rw[bM<|di F]at e2;obtain⟨u',r',q⟩:=hl j y v' e1 e2 e3;refine⟨u',r',?_⟩
    rcases q with⟨k,e⟩|⟨k,c,e,z⟩
    ·refine .inl ⟨k,?_⟩;have:y≠x:=λe=>F<|Hs hN e1<|e ▸ hi;simp[this,e]
    ·exact .inr ⟨k,c,e,z.sameBut hs<|cne y c e⟩
  ·obtain⟨Y,z⟩:=I.cell y c e;exact⟨Y,z.sameBut hs<|cne y c e⟩
  ·obtain⟨e,n,U,nf,d⟩:=I.pin p hp;exact⟨(hs.2 p.1 U).trans e,n,U,nf,d⟩
 ·have J:X.fn x=true:=by
   rcases hf with z|z
   ·exact z
   ·rw[z]at C;cases C
  obtain⟨c,hc⟩:=I.ok.has x<|.inl C;obtain⟨Y,z⟩:=I.cell x c hc;refine wpAny_storeName_cell I.ok.kind C hc z λh' O hs=>?_;obtain⟨oc,T,P⟩:=id z;refine h { s with heap:=h' } ⟨I.ok,I.os,I.bare,⟨λb o e n G hx=>?_,λb o e n G hx=>?_,I.base.free,λb o e hx=>?_,I.base.tups,I.base.frzs,I.base.tbls⟩,⟨m,hn.sameBut hs<|di<|cne x c hc,λj y v' e1 e2 e3=>?_⟩,λy W e=>?_,I.free,I.freeC,λp hp=>?_,f ⟨oc,T,I.freeC x c hc⟩ hs,by simpa using I.len⟩ ⟨c,hs,.inr hc⟩
  ·exact(hs.2 b<|bw<|bN (bh e)<|I.ok.cab x c J hc).trans (I.base.keep b o e n G hx)
  ·obtain⟨sl,e1⟩:=I.base.slot b o e n G hx;exact⟨sl,(hs.2 b<|bw<|bN (bh e)<|I.ok.cab x c J hc).trans e1⟩
  ·obtain⟨o',e1⟩:=I.base.there b o e hx;exact⟨o',(hs.2 b<|bw<|bN (bh e)<|I.ok.cab x c J hc).trans e1⟩
  ·by_cases F:j=i
   ·subst F;rw[hi]at e1;cases e1;rw[bO B]at e2
    cases e2
    exact⟨u,r,.inr ⟨.inl C,c,hc,O⟩⟩
   ·rw[bM<|di F]at e2;obtain⟨u',r',q⟩:=hl j y v' e1 e2 e3;refine⟨u',r',?_⟩
    rcases q with q|⟨k,W,e,z'⟩
    ·exact .inl q
    ·refine .inr ⟨k,W,e,z'.sameBut hs ?_⟩;rintro rfl;exact F<|Hs hN e1<|I.ok.inj _ _ _ e hc ▸ hi
  ·by_cases K:W=c
   ·subst K;exact⟨_,O⟩
   ·obtain⟨w2,z2⟩:=I.cell y W e;exact⟨w2,z2.sameBut hs K⟩
  ·obtain⟨e,n,U,nf,d⟩:=I.pin p hp;refine⟨(hs.2 p.1 ?_).trans e,n,U,nf,d⟩;intro q;rw[q,T]at e;have q':oc=p.2:=bz e;exact d Y<|by rw[<- q'];exact P
def GZ{A:ay}{E:af->az->Prop}{i:Nat}{x:Str}{v:V}{Q:Unit->az->Prop}(I:Inv X pins σ H s)(J:X.N.Nodup)(hi:X.N[i]?=some x)(U:Loc X.env.scope x)(r:RelV v u)
  (h:∀s',Inv X pins (σ.set i<|some v) H s'->Q Unit.unit s') (hf:X.fn x=true\/X.env.scope.names.lookup x=some .local<|>γ):wpAny M A (storeName X.env x u) Q E s:=
 Nv I J hi U r (λs' c _=>h s' c) hf
def Inv.Xk{s':az}{ch:ba}(I:Inv X pins σ H s)(ho:s'.os=s.os)(u:Un (frs X.stack) ch H H' s.heap s'.heap)(J:xO X.prog X.w H' s'.heap)(hg:AllBare s'.gens)
  (U:∀b∈ch,(b∈X.ex\/X.s₀.heap.objs.size<=b)/\b≠X.env.locals/\(∀x c,X.env.cells.lookup x=some c->c≠b)/\∀p∈X.pn++pins,p.1≠b):Inv X pins σ H' s':=by
 obtain⟨h',g',d',t',o'⟩:=s';have e:o'=s.os:=ho;subst e;exact I.call (g':=g') (t':=t') (d':=d') u J hg U
end
meta abbrev XK:=af->Option ak->Hp->Prop
meta abbrev St:=List<|Option V
meta abbrev VK:=V->Hp->Prop
meta abbrev TE:=St->Hp->VK->Prop
meta abbrev TT:=St->Hp->(Bool->Hp->Prop)->Prop
meta abbrev TA:=St->Hp->(List V->Hp->Prop)->Prop
structure Ends where
 nx:St->Hp->Prop
 rt:VK
 bk:St->Hp->Prop:=λ_ _=>False
 ct:St->Hp->Prop:=λ_ _=>False
meta abbrev TS:=Ends->St->Hp->Prop
abbrev EP (X:Cx)(pins:bo)(σ:St)(Q:VK)(u:af)(s':az):Prop:=∃v H',Inv X pins σ H' s'/\RelV v u/\Q v H'
abbrev TP (X:Cx)(pins:bo)(σ:St)(Q:Bool->Hp->Prop)(b:Bool)(s':az):Prop:=∃H',Inv X pins σ H' s'/\Q b H'
abbrev AP (X:Cx)(pins:bo)(σ:St)(Q:List V->Hp->Prop)(us:ax)(s':az):Prop:=∃c H',Inv X pins σ H' s'/\Vals c us/\Q c H'
abbrev SP (X:Cx)(pins:bo)(D:Ends)(f:Flow)(s':az):Prop:=
 match f with
 | .next=>∃c H',Inv X pins c H' s'/\D.nx c H'
 | .brk=>∃c H',Inv X pins c H' s'/\D.bk c H'
 | .cont=>∃c H',Inv X pins c H' s'/\D.ct c H'
 | .ret u=>∃v c H',Inv X pins c H' s'/\RelV v u/\D.rt v H'
abbrev PE (X:Cx)(e:aA)(t:TE):Prop:=
 ∀(pins:bo) (s:az) (σ:St) (H:Hp) (Q:VK),Inv X pins σ H s->t σ H Q->wpAny (model X.prog X.w) X.A (eval e X.env) (EP X pins σ Q) X.xe s
abbrev PT (X:Cx)(e:aA)(t:TT):Prop:=
 ∀(pins:bo) (s:az) (σ:St) (H:Hp) (Q:Bool->Hp->Prop),Inv X pins σ H s->t σ H Q->wpAny (model X.prog X.w) X.A (isTrue e X.env<|eval e X.env) (TP X pins σ Q) X.xe s
abbrev PW (X:Cx)(e:aA)(t:TT):Prop:=
 ∀(c:Sem af) (pins:bo) (s:az) (σ:St) (H:Hp) (Q:Bool->Hp->Prop),Inv X pins σ H s->t σ H Q->wpAny (model X.prog X.w) X.A (isTrue e X.env c) (TP X pins σ Q) X.xe s
abbrev PA (X:Cx)(es:List aA)(t:TA):Prop:=
 ∀(pos:Pos) (pins:bo) (s:az) (σ:St) (H:Hp) (Q:List V->Hp->Prop),Inv X pins σ H s->t σ H Q->wpAny (model X.prog X.w) X.A (spliced<|backTo pos<|starEach es X.env) (AP X pins σ Q) X.xe s
abbrev PS (X:Cx)(st:aC)(t:TS):Prop:=
 ∀(pins:bo) (s:az) (σ:St) (H:Hp) (D:Ends),Inv X pins σ H s->t D σ H->wpAny (model X.prog X.w) X.A (exec st X.env) (SP X pins D) X.xe s
abbrev Fj (X:Cx)(st:List aC)(t:TS):Prop:=
 ∀(pins:bo) (s:az) (σ:St) (H:Hp) (D:Ends),Inv X pins σ H s->t D σ H->wpAny (model X.prog X.w) X.A (execs st X.env) (SP X pins D) X.xe s
def ng{α:Type}{t:Sem α}{Q Q':α->az->Prop}{A:ay}{E:af->az->Prop}(h:wpAny M A t Q E s)(J:∀a s,Q a s->Q' a s):wpAny M A t Q' E s:=gM h J λ_ _ x=>x
section
variable {X:Cx}
abbrev ac0 (i:Nat):TE:=λσ H Q=>∃v,σ[i]?=some (some v)/\Q v H
abbrev tC (v:V):TE:=λ_ H Q=>Q v H
def UC{i:Nat}{x:Str}(hN:X.N[i]?=some x)(hv:Vis X.env.scope x)(J:(x == ("__debug__" : Str))=false<|>δ)(U:(x == ("__classdict__" : Str))=false<|>δ):PE X (.Name x pos) (ac0 i):=by
 w_up;obtain⟨v,e,h⟩:=h;obtain⟨m,hn,j⟩:=I.loc;obtain⟨u,r,l⟩:=j i x v hN e hv;have fin:EP X pins σ Q u s:=⟨v,H,I,r,h⟩
 rcases l with⟨f,g⟩|⟨f,c,hc,d⟩
 ·exact wpAny_Name (wpAny_loadName_local I.ok.kind f hn g fin) J
 ·rcases f with f|f
  ·exact wpAny_Name (wpAny_loadName_cell I.ok.kind f hc d fin) J
  ·exact wpAny_Name (wpAny_loadName_free I.ok.kind f hc d fin U) J
def IU{i j pos}:PE X (.Constant (.int i) j pos) (tC<|.int i):=λ_ _ _ H _ I h=>wpAny_Constant_int ⟨.int i,H,I.tok _,⟨_,rfl⟩,h⟩
def acE{b j pos}:PE X (.Constant (.bool b) j pos) (tC<|.bl b):=λ_ _ _ H _ I h=>Constant_bool ⟨.bl b,H,I,rfl,h⟩
abbrev Gl (X:Cx)(x:Str):Prop:=X.env.kindOf x=some .globalImplicit
def KI{E:af->az->Prop}{H:Hp}{x:Str}{Q:af->az->Prop}(I:Inv X pins σ H s)(hg:Gl X x)(J:X.mg x=some u)(h:Q u s)
  (U:(x == ("__debug__" : Str))=false<|>δ):wpAny (model X.prog X.w) X.A (eval (.Name x pos) X.env) Q E s:=
 Calls.Name_function_global I.ok.kind hg (Calls.loadGlobal_global (by rw[I.ok.glob];exact I.mod.glob.keeps I.bk) J h) U
def A2{E:af->az->Prop}{H:Hp}{x:Str}{Q:af->az->Prop}(I:Inv X pins σ H s)(hg:Gl X x)(J:X.mg x=none)(hv:bootBuiltins x=some u)(h:Q u s)
  (hn:x ≠ "__name__"<|>δ) (U:(x == ("__debug__" : Str))=false<|>δ):wpAny (model X.prog X.w) X.A (eval (.Name x pos) X.env) Q E s:=by
 obtain⟨c,h1,h2⟩:=I.mod.blt;exact Calls.Name_function_global I.ok.kind hg (Calls.loadGlobal_builtin (by rw[I.ok.glob];exact I.mod.glob.keeps I.bk) J (by rw[I.ok.blt];exact h1.keeps I.bk) ((h2 x hn).trans hv) h) U
def Mc{x:Str}{v:V}(hg:Gl X x)(J:X.mg x=some u)(r:RelV v u)(U:(x == ("__debug__" : Str))=false<|>δ):PE X (.Name x pos) (tC v):=
 λ_ _ _ H _ I h=>KI I hg J ⟨v,H,I,r,h⟩ U
def VI{x:Str}{v:V}(hg:Gl X x)(J:X.mg x=none)(hv:bootBuiltins x=some u)(r:RelV v u)(hn:x ≠ "__name__"<|>δ)(U:(x == ("__debug__" : Str))=false<|>δ):PE X (.Name x pos) (tC v):=
 λ_ _ _ H _ I h=>A2 I hg J hv ⟨v,H,I,r,h⟩ hn U
variable {a b:aA}{ta tb:TE}{pos:Pos}
variable {tA tB':TT}{rest:List aA}
abbrev acF (t u:TT):TT:=λσ H Q=>t σ H λc H1=>if c=true then u σ H1 Q else Q false H1
abbrev adK (t:TT):TT:=λσ H Q=>t σ H λc H1=>Q (!c) H1
def Wc(J:PT X a tA):PW X (.BoolOp .And [a] pos) tA:=by
 intro d pins s σ H Q I h;refine isTrue_and (ng (J pins s σ H Q I h) λc f e=>?_)
 cases c with
 | true=>exact isTrue_and_nil e
 | false=>exact e
def aaD(J:PT X a tA)(U:PW X (.BoolOp .And (b::rest) pos) tB'):PW X (.BoolOp .And (a::b::rest) pos) (acF tA tB'):=by
 intro f pins s σ H Q I h;refine isTrue_and (ng (J pins s σ H _ I h) λc g ⟨H1,e,d⟩=>?_)
 cases c with
 | true=>exact U f pins g σ H1 Q e d
 | false=>exact⟨H1,e,d⟩
def YO(J:PT X a tA):PT X (.UnaryOp .Not a pos) (adK tA):=by
 w_up;exact isTrue_not<|J pins s σ H (λc H1=>Q (!c) H1) I h
abbrev abF (ta tb:TE):TE:=λσ H Q=>ta σ H λx H1=>∃c,x=.bl c/\if c=true then tb σ H1 Q else Q (.bl false) H1
abbrev abg (ta:TE):TE:=λσ H Q=>ta σ H λx H1=>∃c,x=.bl c/\Q (.bl<|!c) H1
def Zm{op}{t:TE}(h:PE X a t):PE X (.BoolOp op [a] pos) t:=λpins s σ H Q I hw=>BoolOp_one<|h pins s σ H Q I hw
def aaW(J:PE X a ta)(U:PE X (.BoolOp .And (b::rest) pos) tb):PE X (.BoolOp .And (a::b::rest) pos) (abF ta tb):=by
 w_up;refine BoolOp_and<|ng (J pins s σ H _ I h) λv f ⟨x,H1,e,r1,d⟩=>?_;obtain⟨c,rfl,d⟩:=d
 cases r1
 refine eK ?_
 cases c with
 | true=>exact U pins f σ H1 Q e d
 | false=>exact⟨.bl false,H1,e,rfl,d⟩
def Zt(J:PE X a ta):PE X (.UnaryOp .Not a pos) (abg ta):=by
 w_up;refine UnaryOp_<|ng (J pins s σ H _ I h) λv f ⟨x,H1,e,r1,d⟩=>?_;obtain⟨c,rfl,d⟩:=d
 cases r1
 exact not_of<|eK ⟨.bl<|!c,H1,e,rfl,d⟩
end
abbrev qt (K:au)(H:Hp)(a:ak)(xs:List V):Prop:=
 Rd H a (.lst xs) \/
  ∃(o:Obj) (its:Array af) (n:Nat),K.lookup a=some o/\o.cls=.type "list" /\ o.dict=none/\o.data=.seq its n/\its.size<=sizeLine/\Vals xs its.toList
abbrev n_ (K:au)(H:Hp)(a:ak)(xs:List V):Prop:=
 Rd H a (.tup xs) \/
  ∃(o:Obj) (its:Array af) (n:Nat),K.lookup a=some o/\o.cls=.type "tuple" /\ o.dict=none/\o.data=.seq its n/\its.size<=sizeLine/\Vals xs its.toList
abbrev aeb:af->Option V
 | .none=>some .non
 | .bool b=>some (.bl b)
 | .int i _=>some (.int i)
 | .str x _=>some (.str x)
 | .bytes b _=>some (.byt b)
 | .float b _=>some (.flt b)
 | .ref a=>some (.ref a)
 | .type n=>some (.ty n)
 | _=>none
def RelV.abs{x:V}(r:RelV x u):aeb u=some x:=by
 cases x with
 | non=>cases r;rfl
 | bl _=>cases r;rfl
 | int _=>obtain⟨t,rfl⟩:=r;rfl
 | str _=>obtain⟨t,rfl⟩:=r;rfl
 | byt _=>obtain⟨t,rfl⟩:=r;rfl
 | flt _=>obtain⟨t,rfl⟩:=r;rfl
 | ref _=>cases r;rfl
 | ty _=>cases r;rfl
def RelV.inj{x:V}(r:RelV x u)(q:RelV y u):x=y:=bz<|r.abs.symm.trans q.abs
theorem Vals.inj:∀{xs ys:List V}{us:ax},Vals xs us->Vals ys us->xs=ys
 | _,_,_,.nil,.nil=>rfl
 | _,_,_,.cons r t,.cons c d=>by rw[r.inj c,Vals.inj t d]
section
variable {X:Cx}{pins:bo}{σ:St}{H:Hp}{s:az}{a:ak}{xs ys:List V}
def qt.of{K:au}(h:H a=some (.lst xs)):qt K H a xs:=.inl<|.inl h
def n_.of{K:au}(h:H a=some (.tup xs)):n_ K H a xs:=.inl<|.inl h
def Inv.list(I:Inv X pins σ H s)(h:qt X.K H a xs):∃its:ax,Vals xs its/\PlainL s.heap a its.toArray/\xs.length<=sizeLine:=by
 rcases h with h|⟨o,its,n,d,hc,c,hs,f,r⟩
 ·obtain⟨z,its,n,r,e⟩:=h.ok I.hok;exact⟨its,r,⟨_,n,e,rfl,rfl,rfl⟩,z⟩
 ·refine⟨its.toList,r,⟨o,n,I.E4 a o d,hc,c,by simpa using hs⟩,?_⟩;have e:=r.length;dsimp[dI]at e
  lia
def Inv.tuple(I:Inv X pins σ H s)(h:n_ X.K H a xs):∃its:ax,Vals xs its/\IsTup s.heap a its.toArray/\xs.length<=sizeLine:=by
 rcases h with h|⟨o,its,n,c,hc,_,hs,d,r⟩
 ·obtain⟨z,its,r,p⟩:=h.ok I.hok;exact⟨its,r,p.tup,z⟩
 ·refine⟨its.toList,r,⟨o,I.E4 a o c,hc,n,by simpa using hs⟩,?_⟩;have e:=r.length;dsimp[dI]at e
  lia
def Inv.aaj(I:Inv X pins σ H s)(h:n_ X.K H a xs):∃o,s.heap.get? a=some o/\o.cls=.type "tuple" /\ o.dict=none:=by
 rcases h with h|⟨o,its,n,g,hc,f,hs,j,r⟩
 ·obtain⟨z,its,r,o,e,c,d,_⟩:=h.ok I.hok;exact⟨o,e,c,d⟩
 ·exact⟨o,I.E4 a o g,hc,f⟩
def Inv.UL(I:Inv X pins σ H s)(h:qt X.K H a xs)(h':qt X.K H a ys):xs=ys:=by
 obtain⟨its,r,⟨o,n,e,_,_,d⟩,_⟩:=I.list h;obtain⟨c,k,⟨o',m,f,_,_,g⟩,_⟩:=I.list h';rw[e]at f;cases f;rw[d]at g
 injection g with j _
 have:its=c:=by simpa using dY Array.toList j
 subst this;exact r.inj k
def Inv.Nq(I:Inv X pins σ H s)(h:n_ X.K H a xs)(h':n_ X.K H a ys):xs=ys:=by
 obtain⟨its,r,⟨o,e,_,n,d⟩,_⟩:=I.tuple h;obtain⟨c,k,⟨o',f,_,m,g⟩,_⟩:=I.tuple h';rw[e]at f;cases f;rw[d]at g
 injection g with j _
 have:its=c:=by simpa using dY Array.toList j
 subst this;exact r.inj k
end
meta abbrev Cx.Ct (X:Cx)(E:af->az->Prop):Cx:={ X with xe:=E }
meta abbrev Cx.nox (X:Cx):Cx:=X.Ct λ_ _=>False
def Cx.Ok.Ct{X:Cx}(ok:X.Ok)(E:af->az->Prop):(X.Ct E).Ok:=
 ⟨ok.mod,ok.kind,ok.glob,ok.blt,ok.above,ok.inj,ok.has,ok.cab,ok.hd,ok.frames,ok.stk,ok.exf,ok.bs,ok.bsz,ok.noex,ok.exfs,ok.Bb,ok.frf⟩
def Cx.Ok.uR{X:Cx}{E:af->az->Prop}(ok:(X.Ct E).Ok):X.Ok:=
 ⟨ok.mod,ok.kind,ok.glob,ok.blt,ok.above,ok.inj,ok.has,ok.cab,ok.hd,ok.frames,ok.stk,ok.exf,ok.bs,ok.bsz,ok.noex,ok.exfs,ok.Bb,ok.frf⟩
section
variable {X:Cx}{pins:bo}{σ:St}{H:Hp}{s:az}{E:af->az->Prop}
def Inv.Ct(I:Inv X pins σ H s)(E:af->az->Prop):Inv (X.Ct E) pins σ H s:=⟨I.ok.Ct E,I.os,I.bare,I.base,I.loc,I.cell,I.free,I.freeC,I.pin,I.hok,I.len⟩
def Inv.uR(I:Inv (X.Ct E) pins σ H s):Inv X pins σ H s:=⟨I.ok.uR,I.os,I.bare,I.base,I.loc,I.cell,I.free,I.freeC,I.pin,I.hok,I.len⟩
def SP.uR{D:Ends}{f:Flow}(h:SP (X.Ct E) pins D f s'):SP X pins D f s':=by
 cases f with
 | next=>obtain⟨c,H',I,q⟩:=h;exact⟨c,H',I.uR,q⟩
 | brk=>obtain⟨c,H',I,q⟩:=h;exact⟨c,H',I.uR,q⟩
 | cont=>obtain⟨c,H',I,q⟩:=h;exact⟨c,H',I.uR,q⟩
 | ret u=>obtain⟨v,c,H',I,r,q⟩:=h;exact⟨v,c,H',I.uR,r,q⟩
def Fj.nox{st:List aC}{t:TS}(h:Fj X.nox st t):Fj X st t:=λpins s σ H D I hw=>
 gM (h pins s σ H D (I.Ct _) hw) (λ_ _ q=>q.uR) λ_ _ z=>False.elim z
end
section
variable {X:Cx}{st:aC}{rest:List aC}{t u:TS}{e:aA}{te:TE}{pos:Pos}
abbrev abe:TS:=λD σ H=>D.nx σ H
abbrev acH (t u:TS):TS:=λD σ H=>t { D with nx:=u D } σ H
def Wo:Fj X [] abe:=λ_ _ σ H _ I h=>iU ⟨σ,H,I,h⟩
def Uc(h1:PS X st t)(h2:Fj X rest u):Fj X (st::rest) (acH t u):=by
 o_rec;refine wpAny_execs_cons (ng (h1 pins s σ H { D with nx:=u D } I h) λf d q=>?_)
 cases f with
 | next=>
  obtain⟨c,H',e,q⟩:=q;exact h2 pins d c H' D e q
 | ret v=>exact q
 | brk=>exact q
 | cont=>exact q
def V6(h1:PS X st t):Fj X [st] t:=by
 o_rec;refine wpAny_execs_cons (ng (h1 pins s σ H D I h) λf c q=>?_)
 cases f with
 | next=>exact iU q
 | ret v=>exact q
 | brk=>exact q
 | cont=>exact q
def Inv.quiet{H:Hp}(I:Inv X pins σ H s):interactive X.env=false:=by simp[interactive,I.ok.kind]
abbrev acs (te:TE):TS:=λD σ H=>te σ H λ_ H1=>D.nx σ H1
def Vz(J:PE X e te)(hs:swapsWith e none pos.line X.env=pure false<|>η):PS X (.Expr e pos) (acs te):=by
 o_rec;exact wpAny_Expr_any (ng (J pins s σ H _ I h) λv f ⟨x,H1,d,r1,c⟩=>⟨σ,H1,d,c⟩) I.quiet hs
abbrev aet (te:TE):TS:=λD σ H=>te σ H D.rt
def ZI(J:PE X e te):PS X (.Return (some e) pos) (aet te):=by
 o_rec;exact wpAny_Return_some<|ng (J pins s σ H _ I h) λv f ⟨x,H1,d,r1,c⟩=>⟨x,σ,H1,d,r1,c⟩
abbrev ad7 (c:TT)(t u:TS):TS:=λD σ H=>c σ H λb H1=>if b=true then t D σ H1 else u D σ H1
def acR{c:aA}{a b:List aC}{tc:TT}(hc:PT X c tc)(J:Fj X a t)(U:Fj X b u):PS X (.If c a b pos) (ad7 tc t u):=by
 o_rec;refine wpAny_If (ng (hc pins s σ H _ I h) λd f ⟨H1,g,e⟩=>?_)
 cases d with
 | true=>exact J pins f σ H1 D g e
 | false=>exact U pins f σ H1 D g e
abbrev Zz:TS:=λ_ _ _=>False
def QH:PS X st Zz:=λ_ _ _ _ _ _ h=>h.elim
end
meta abbrev TG:=V->St->Hp->(St->Hp->Prop)->Prop
meta abbrev XS:=List V->St->Hp->(St->Hp->Prop)->Prop
abbrev PG (X:Cx)(J:aA)(t:TG):Prop:=
 ∀(pins:bo) (s:az) (σ:St) (H:Hp) (v:V) (u:af) (Q:St->Hp->Prop),Inv X pins σ H s->RelV v u->t v σ H Q ->
  wpAny (model X.prog X.w) X.A (assign J X.env u) (λ_ s'=>∃c H',Inv X pins c H' s'/\Q c H') X.xe s
abbrev PGs (X:Cx)(ts:List aA)(t:XS):Prop:=
 ∀(pins:bo) (s:az) (σ:St) (H:Hp) (d:List V) (us:ax) (Q:St->Hp->Prop),Inv X pins σ H s->Vals d us->t d σ H Q ->
  wpAny (model X.prog X.w) X.A (assignInOrder ((assignEach ts X.env).map (·.2)) us) (λ_ s'=>∃c H',Inv X pins c H' s'/\Q c H') X.xe s
meta abbrev Ol:=V->V->V->Hp->(Hp->Prop)->Prop
abbrev Oj (X:Cx)(t:Ol):Prop:=
 ∀(pins:bo) (s:az) (σ:St) (H:Hp) (o i v:V) (c iv u:af) (Q:Hp->Prop),Inv X pins σ H s->RelV o c->RelV i iv->RelV v u->t o i v H Q ->
  wpAny (model X.prog X.w) X.A (setItem c iv u) (λ_ s'=>∃H',Inv X pins σ H' s'/\Q H') X.xe s
section
variable {X:Cx}{pos:Pos}
abbrev OS (i:Nat):TG:=λv σ H Q=>Q (σ.set i<|some v) H
def Ks{i:Nat}{x:Str}(J:X.N.Nodup)(hi:X.N[i]?=some x)(U:Loc X.env.scope x)(hf:X.fn x=true\/X.env.scope.names.lookup x=some .local<|>γ):PG X (.Name x pos) (OS i):=by
 intro pins s σ H v u Q I r h;exact wpAny_assign_Name<|GZ I J hi U r (λs' c=>⟨_,H,c,h⟩) hf
abbrev aeM:XS:=λc σ H Q=>c=[]/\Q σ H
abbrev abi (t:TG)(u:XS):XS:=λd σ H Q=>∃v r,d=v::r/\t v σ H λc H'=>u r c H' Q
def V4:PGs X [] aeM:=by
 intro pins s σ H c us Q I r h;obtain⟨e,h⟩:=h;subst e
 cases r
 exact assignInOrder_nil ⟨σ,H,I,h⟩
def TH{e:aA}{t:TG}{u:XS}(h1:PG X e t)(h2:PGs X es u)
  (hs:(assignEach (e::es) X.env).map (·.2)=assign e X.env::(assignEach es X.env).map (·.2)<|>η):PGs X (e::es) (abi t u):=by
 intro pins s σ H k us Q I r h;obtain⟨v,m,e1,h⟩:=h;subst e1
 cases r with
 | cons r f=>
  rw[hs];refine assignInOrder_cons<|ng (h1 pins s σ H _ _ _ I r h) λ_ g ⟨c,H1,j,d⟩=>?_;exact h2 pins g c H1 _ _ Q j f d
abbrev aeh (K:au)(n:Nat)(t:XS):TG:=λv σ H Q=>∃a xs,v=.ref a/\n_ K H a xs/\xs.length=n/\t xs σ H Q
def Y0{k:Nat}{t:XS}{n:Nat}(hc:X.calm=true)(h:PGs X es t)
  (hn:(assignEach es X.env).length=n<|>η) (J:(assignEach es X.env).findIdx? (·.1)=none<|>η):PG X (.Tuple es k pos) (aeh X.K n t):=by
 intro pins s σ H v u Q I r hw;obtain⟨a,xs,e1,d,f,hw⟩:=hw;subst e1
 cases r
 obtain⟨its,c,j,p⟩:=I.tuple d;refine assign_Tuple_tuple (I.ok.hd hc) j (by simp[hn,<- f,c.length]) J λh' g=>?_;have m:Inv X pins σ H { s with heap:=h' }:=I.kept (t':=s.toks) λb o e=>g b o (bw<|bh e) e;exact h pins _ σ H xs _ Q m (by simpa using c) hw
abbrev aea (to J:TE)(t:Ol):TG:=λv σ H Q=>to σ H λo H1=>J σ H1 λi H2=>t o i v H2 λH3=>Q σ H3
def ID{to J:TE}{t:Ol}(U:PE X o to)(hi:PE X i J)(hs:Oj X t)
  (ha:(∀v,assign (.Subscript o i pos) X.env v=(do
   let ov <- holding [v] (eval o X.env)
   let iv <- holding [v,ov] (eval i X.env)
   standAt pos
   holding [v,ov,iv] (setItem ov iv v)
   release [v,ov,iv] []))<|>θ):PG X (.Subscript o i pos) (aea to J t):=by
 intro pins s σ H v u Q I r h;rw[ha];refine aH<|dc<|ng (U pins s σ H _ I h) λov j ⟨x,H1,k,r1,c⟩=>?_;refine aH<|dc<|ng (hi pins j σ H1 _ k c) λiv f ⟨y,H2,m,r2,g⟩=>?_;refine aH<|wpAny_standAt<|aH<|dc<|ng (hs pins f σ H2 x y v ov iv u _ m r1 r2 r g) λ_ p ⟨H3,e,d⟩=>?_;exact wpAny_release ⟨σ,H3,e,d⟩
abbrev Vd (te:TE)(g:TG):TS:=λD σ H=>te σ H λx H1=>g x σ H1 D.nx
def aaN{tg e:aA}{te:TE}{g:TG}(J:PE X e te)(hg:PG X tg g)(hs:swapsWithSole [tg] e pos.line X.env=pure false<|>η)(hw:swappedStores [tg] e X.env=pure none<|>η)
  (h1:(assignEach [tg] X.env).map (·.2)=[assign tg X.env]<|>η):PS X (.Assign [tg] e pos) (Vd te g):=by
 o_rec;refine wpAny_Assign_stores (ng (J pins s σ H _ I h) λv d ⟨x,H1,f,r1,c⟩=>?_) hs hw;rw[h1];exact ng (hg pins d σ H1 x v _ f r1 c) λ_ j q=>q
def Zi{i:Nat}{x:Str}{e:aA}{te:TE}(J:X.N.Nodup)(hi:X.N[i]?=some x)(U:Loc X.env.scope x)(he:PE X e te)(hs:(swapsWith e (some<|.Name x pos') pos.line X.env=pure false)<|>η)(hf:X.fn x=true\/X.env.scope.names.lookup x=some .local<|>γ) :
  PS X (.Assign [.Name x pos'] e pos) (Vd te<|OS i):=by
 o_rec;refine wpAny_Assign_Name (ng (he pins s σ H _ I h) λv j ⟨y,H1,f,r1,d⟩=>?_) hs;exact GZ f J hi U r1 (λg c=>⟨_,H1,c,d⟩) hf
end
section
variable {X:Cx}{pos:Pos}
abbrev PU (c:TT)(tb:TS):TS:=λD σ H=>∃W:Nat->St->Hp->Prop,(∃m,W m σ H)/\∀m σ H,W m σ H ->
 c σ H λb H1=>if b=true then ∃N:St->Hp->Prop,(∀d H',N d H'->∃e,e<m/\W e d H')/\tb { D with nx:=N,ct:=N,bk:=D.nx } σ H1 else D.nx σ H1
def PX{c:aA}{tc:TT}{tb:TS}(U:PassesOwn (model X.prog X.w) X.A X.env X.xe)(hc:PT X c tc)(hb:Fj X body tb):PS X (.While c body [] pos) (PU tc tb):=by
 o_rec;obtain⟨W,⟨O,J⟩,turn⟩:=h;refine wpAny_While<|codeAny_whileLoop (λn s'=>∃g H',Inv X pins g H' s'/\W n g H') ?_ O ⟨σ,H,I,J⟩;rintro n L ⟨e,H1,M,K⟩;refine fh U (ng (hc pins L e H1 _ M<|turn n e H1 K) λb P ⟨H2,F,j⟩=>?_)
 cases b with
 | true=>
  obtain⟨N,G,j⟩:=j;rw[aJ rfl];refine fh U (ng (hb pins P e H2 _ F j) λf T k=>?_)
  cases f with
  | next=>
   obtain⟨d,H3,q,m⟩:=k;obtain⟨p,B,C⟩:=G d H3 m;exact⟨p,B,d,H3,q,C⟩
  | cont=>
   obtain⟨d,H3,q,m⟩:=k;obtain⟨p,B,C⟩:=G d H3 m;exact⟨p,B,d,H3,q,C⟩
  | brk=>exact k
  | ret v=>exact k
 | false=>
  rw[aI bJ];exact iU ⟨e,H2,F,j⟩
end
structure It where
 go:Nat->Hp->Prop
 yld:Nat->Hp->V->Hp->Prop
 stop:Nat->Hp->Prop
abbrev zp (X:Cx)(pins:bo)(H:Hp)(b:ak):Prop:=
 H b=none/\b≠X.env.locals/\b∉X.fs/\(b∈X.ex\/X.s₀.heap.objs.size<=b)/\(∀x c,X.env.cells.lookup x=some c->c≠b)/\∀p∈X.pn++pins,p.1≠b
def Inv.Nn{X:Cx}{H H':Hp}{s:az}{b:ak}(I:Inv X pins σ H s)(J:s.heap.objs.size<=b)(hn:H' b=none):zp X pins H' b:=by
 refine⟨hn,Nat.ne_of_gt<|bN I.lt J,I.aeN J,.inr<|bD I.sz J,λx c e z=>?_,λp d z=>?_⟩
 ·obtain⟨v,q⟩:=I.cell x c e;exact absurd (bN q.lt<|by rw[z];exact J) (f7 _)
 ·exact absurd (bN (bh (I.pin p d).1)<|by rw[z];exact J)<|f7 _
structure Turn (P:aj)(w:ah)(K:au)(tg:aA)(J:It)(fp:ba)(it:ak)(tn:Nat->aq->Prop):Prop where
 mem:it∈fp
 obj:∀i h,tn i h->∀b∈fp,∃o,h.get? b=some o/\∀v,o.data≠.cell v
 keep:∀i h h',tn i h->(∀b∈fp,∀o,h.get? b=some o->h'.get? b=some o)->tn i h'
 item:∀(X:Cx),X.prog=P->X.w=w->X.K=K->X.calm=true->∀(i:Nat) (pins:bo) (s:az) (σ:St) (H:Hp) (E:af->az->Prop),Inv X pins σ H s->(∀b∈fp,zp X pins H b)->tn i s.heap->J.go i H ->
  wpAny (model P w) X.A (pyNext<|.ref it) (λr s1=>∃u,r=some u /\
   wpAny (model P w) X.A (letOwnedTupleGo tg (.ref it) u) (λ_ s2=>∃x H',Inv X pins σ H' s2/\RelV x u/\J.yld i H x H'/\tn (i+1) s2.heap/\∀b∈fp,H' b=none) E s1) E s
 done:∀(X:Cx),X.prog=P->X.w=w->X.K=K->X.calm=true->∀(i:Nat) (pins:bo) (s:az) (σ:St) (H:Hp) (E:af->az->Prop),Inv X pins σ H s->(∀b∈fp,zp X pins H b)->tn i s.heap->J.stop i H ->
  wpAny (model P w) X.A (pyNext<|.ref it) (λr s1=>r=none/\Inv X pins σ H s1) E s
 self:∀(A:ay) (i:Nat) (s:az) (Q:af->az->Prop) (E:af->az->Prop),tn i s.heap->Q (.ref it) s->wpAny (model P w) A (pyIter<|.ref it) Q E s
meta abbrev TI:=St->Hp->(It->Hp->Prop)->Prop
abbrev PIE (X:Cx)(pins:bo)(σ:St)(tg:aA)(R:It->Hp->Prop)(U:af)(s2:az):Prop:=
 ∃(it:ak) (d:ba) (c:Nat->aq->Prop) (J:It) (H':Hp),U=.ref it/\Inv X pins σ H' s2/\Turn X.prog X.w X.K tg J d it c/\c 0 s2.heap/\(∀b∈d,zp X pins H' b)/\R J H'
abbrev PI (X:Cx)(tg iter:aA)(J:TI):Prop:=
 ∀(pins:bo) (s:az) (σ:St) (H:Hp) (R:It->Hp->Prop),Inv X pins σ H s->J σ H R ->
  wpAny (model X.prog X.w) X.A (eval iter X.env) (λv c=>wpAny (model X.prog X.w) X.A (pyIter v) (PIE X pins σ tg R) X.xe c) X.xe s
def F4{A:ay}{E:af->az->Prop}{s:az}{o:Obj}{n:String}{Q:Unit->az->Prop}(U:s.heap.get? it=some o)(hc:o.cls=.type n)(hd:o.data=.fields vs)
  (hn:["enumerate", "zip", "dict_itemiterator", "dict_reverseitemiterator", "odict_iterator", "itertools.zip_longest", "itertools.pairwise"].contains n=false) (J:Q Unit.unit s):wpAny M A (letOwnedTupleGo tg (.ref it) u) Q E s:=by
 unfold letOwnedTupleGo
 cases tg<;>first
  | exact aV J
  | (cases u<;>first
    | exact aV J
    | (refine aH (wpAny_load U ?_)
       rw[hc,hd];show wpAny M A (if (["enumerate", "zip", "dict_itemiterator", "dict_reverseitemiterator", "odict_iterator", "itertools.zip_longest", "itertools.pairwise"].contains n && vs[0]? == some (rawInt _))=true then _ else _) Q E s;rw[aI<|by intro h;rw[hn,Bool.false_and]at h;cases h];exact aV J))
abbrev Itl (K:au)(a:ak):It:=
 ⟨λi H=>∃xs x,qt K H a xs/\xs[i]?=some x,λi H x H'=>H'=H/\∀xs,qt K H a xs->xs[i]?=some x,λi H=>∃xs,qt K H a xs/\xs.length<=i⟩
abbrev Itt (K:au)(a:ak):It:=
 ⟨λi H=>∃xs x,n_ K H a xs/\xs[i]?=some x,λi H x H'=>H'=H/\∀xs,n_ K H a xs->xs[i]?=some x,λi H=>∃xs,n_ K H a xs/\xs.length<=i⟩
abbrev Itr (lo:Int)(n:Nat):It:=⟨λi _=>i<n,λi H x H'=>H'=H/\x=.int (lo+i),λi _=>n<=i⟩
def OC{P:aj}{w:ah}{K:au}(a it:ak):Turn P w K tg (Itl K a) [it] it (λi h=>h.IsListIter it a i) where
 mem:=by simp
 obj:=λi h st b f=>by
  have e:b=it:=by simpa using f
  subst e;obtain⟨o,e,c,d⟩:=st;exact⟨o,e,λv z=>by rw[d]at z;cases z⟩
 keep:=λi h h' st k=>st.at λo e=>k it (by simp) o e
 item:=by
  k_ne;subst hP hw hK;obtain⟨xs,x,j,q⟩:=hg;obtain⟨its,m,p,L⟩:=I.list j;obtain⟨u,C,G⟩:=m.get q;gp_on;refine wpAny_pyNext_list_item st p.isList (x:=u) (by simpa using C) λh' g J=>?_;have M:Inv X pins σ H { s with heap:=h' }:=I.turned (t':=s.toks) (λb o f e=>(J.2 b f).trans e) f0 f1 f3 f4 f5;obtain⟨o,e,c,d⟩:=id g;exact⟨u,rfl,F4 (s:={ s with heap:=h' }) e c d ⋯ ⟨x,H,M,G,⟨rfl,λys F=>by rw[I.UL F j];exact q⟩,g,λb f=>(hf b f).1⟩⟩
 done:=by
  k_ne;subst hP hw hK;obtain⟨xs,j,q⟩:=hg;obtain⟨its,m,p,L⟩:=I.list j;gp_on;have N:=m.length;exact wpAny_pyNext_list_end (I.ok.hd hc) st p.isList (by simp;omega) λh' B=>⟨rfl,I.turned (t':=s.toks) (λb o f e=>B b o f e) f0 f1 f3 f4 f5⟩
 self:=λ_ _ _ _ _ st h=>wpAny_pyIter_listiter st h
def IZ{P:aj}{w:ah}{K:au}(a it:ak):Turn P w K tg (Itt K a) [it] it (λi h=>h.IsTupleIter it a i) where
 mem:=by simp
 obj:=λi h st b f=>by
  have e:b=it:=by simpa using f
  subst e;obtain⟨o,e,c,d⟩:=st;exact⟨o,e,λv z=>by rw[d]at z;cases z⟩
 keep:=λi h h' st k=>st.at λo e=>k it (by simp) o e
 item:=by
  k_ne;subst hP hw hK;obtain⟨xs,x,j,q⟩:=hg;obtain⟨its,m,p,L⟩:=I.tuple j;obtain⟨u,C,G⟩:=m.get q;gp_on;refine wpAny_pyNext_tuple_item st (show s.heap.IsTuple a its.toArray from p) (x:=u) (by simpa using C) λh' g J=>?_;have M:Inv X pins σ H { s with heap:=h' }:=I.turned (t':=s.toks) (λb o f e=>(J.2 b f).trans e) f0 f1 f3 f4 f5;obtain⟨o,e,c,d⟩:=id g;exact⟨u,rfl,F4 (s:={ s with heap:=h' }) e c d ⋯ ⟨x,H,M,G,⟨rfl,λys F=>by rw[I.Nq F j];exact q⟩,g,λb f=>(hf b f).1⟩⟩
 done:=by
  k_ne;subst hP hw hK;obtain⟨xs,j,q⟩:=hg;obtain⟨its,m,p,L⟩:=I.tuple j;gp_on;have N:=m.length;exact wpAny_pyNext_tuple_end (I.ok.hd hc) st (show s.heap.IsTuple a its.toArray from p) (by simp;omega) λh' B=>⟨rfl,I.turned (t':=s.toks) (λb o f e=>B b o f e) f0 f1 f3 f4 f5⟩
 self:=λ_ _ _ _ _ st h=>wpAny_pyIter_tupleiter st h
def Ij{P:aj}{w:ah}{K:au}(it:ak)(lo:Int)(n:Nat):Turn P w K tg (Itr lo n) [it] it (λi h=>IsRangeIter h it (lo+(i:Nat) * 1) ((n:Int)-(i:Nat)) 1) where
 mem:=by simp
 obj:=λi h st b c=>by
  have e:b=it:=by simpa using c
  subst e;exact⟨_,st,λv z=>by
   have p:Data.fields _=Data.cell v:=z
   cases p⟩
 keep:=λi h h' st k=>k it (by simp) _ st
 item:=by
  k_ne;subst hP hw hK;gp_on;have W:=Walks.range (prog:=X.prog) (w:=X.w) (I.ok.hd hc) it lo 1 n;refine W.item i s _ _ hg st λv h' f hv d m=>?_;obtain⟨t,rfl⟩:=hv;have j:Inv X pins σ H { s with heap:=h',toks:=f }:=I.turned (λb o c e=>m b o (by simpa using c) e) f0 f1 f3 f4 f5;refine⟨_,rfl,F4 (s:={ s with heap:=h',toks:=f }) (n := "range_iterator") d rfl rfl ⋯ ⟨.int<|lo+i,H,j,⟨t,?_⟩,⟨rfl,rfl⟩,d,λb c=>(hf b c).1⟩⟩;rw[Int.mul_one]
 done:=by
  k_ne;subst hP hw hK;gp_on;exact wpAny_pyNext_range_end (I.ok.hd hc) st (by have:n<=i:=hg;lia) λh' g=>⟨rfl,I.turned (t':=s.toks) (λb o c e=>g b o c e) f0 f1 f3 f4 f5⟩
 self:=λ_ _ _ _ _ st h=>wpAny_pyIter_rangeiter st h
section
variable {X:Cx}{tg:aA}
abbrev abp (K:au)(tl:TE):TI:=λσ H R=>tl σ H λx H1=>∃a,x=.ref a/\(∃xs,qt K H1 a xs)/\R (Itl K a) H1
abbrev aef (K:au)(tl:TE):TI:=λσ H R=>tl σ H λx H1=>∃a,x=.ref a/\(∃xs,n_ K H1 a xs)/\R (Itt K a) H1
def Lq{l:aA}{tl:TE}(J:PE X l tl):PI X tg l (abp X.K tl):=by
 intro pins s σ H R I h;refine ng (J pins s σ H _ I h) λv c ⟨x,H1,I1,r1,d⟩=>?_;obtain⟨a,e,⟨xs,f⟩,q⟩:=d;subst e
 cases r1
 obtain⟨its,j,p,k⟩:=I1.list f;refine gY p.isList ?_;refine⟨c.heap.objs.size,[c.heap.objs.size],_,_,H1,rfl,I1.kept (t':=c.toks) λb o e=>aR _ e,OC a _,⟨_,bC _ rfl,rfl,rfl⟩,λb g=>?_,q⟩;have e:b=c.heap.objs.size:=by simpa using g
 subst e;exact I1.Nn (aO _)<|I1.hok.fresh<|aO _
def Pz{l:aA}{tl:TE}(J:PE X l tl):PI X tg l (aef X.K tl):=by
 intro pins s σ H R I h;refine ng (J pins s σ H _ I h) λv c ⟨x,H1,I1,r1,d⟩=>?_;obtain⟨a,e,⟨xs,f⟩,q⟩:=d;subst e
 cases r1
 obtain⟨its,j,p,k⟩:=I1.tuple f;refine wpAny_pyIter_tuple (show c.heap.IsTuple a its.toArray from p) ?_;refine⟨c.heap.objs.size,[c.heap.objs.size],_,_,H1,rfl,I1.kept (t':=c.toks) λb o e=>aR _ e,IZ a _,⟨_,bC _ rfl,rfl,rfl⟩,λb g=>?_,q⟩;have e:b=c.heap.objs.size:=by simpa using g
 subst e;exact I1.Nn (aO _)<|I1.hok.fresh<|aO _
def Hq{H:Hp}{s:az}{R:It->Hp->Prop}{E:af->az->Prop}{lo hi:Int}{t v:Tok}{tk:Nat}(I:Inv X pins σ H s)(h1:-(2 ^ 62)<=lo)(h2:lo<2 ^ 62)(h3:-(2 ^ 62)<=hi)(J:hi<2 ^ 62)
  (q:R (Itr lo (hi-lo).toNat) H):wpAny (model X.prog X.w) X.A (pyIter<|.ref s.heap.objs.size) (PIE X pins σ tg R) E { s with heap:=s.heap.push { cls:=.type "range",data:=.fields #[.int lo t,.int hi u,.int 1 v]},toks:=tk }:=by
 refine wpAny_pyIter_range (IsRange.new ..) (small_one h1 h2 h3 J) ?_;have I1:Inv X pins σ H { s with heap:=s.heap.push { cls:=.type "range",data:=.fields #[.int lo t,.int hi u,.int 1 v]},toks:=tk }:=I.kept λb o e=>aR _ e;refine⟨(s.heap.push { cls:=.type "range",data:=.fields #[.int lo t,.int hi u,.int 1 v]}).objs.size,[(s.heap.push { cls:=.type "range",data:=.fields #[.int lo t,.int hi u,.int 1 v]}).objs.size],_,_,H,rfl,
  I1.kept (t':=tk) λb o e=>aR _ e,Ij _ lo (hi-lo).toNat,?_,λb c=>?_,q⟩
 ·have e1:lo+((0:Nat):Int) * 1=lo:=by simp
  have e2:(((hi-lo).toNat:Nat):Int)-((0:Nat):Int)=Builtin.Range.rangeSize lo hi 1:=by rw[rangeSize_one];split<;>lia
  skip
  rw[e1,e2];exact bC _ rfl
 ·have e:b=(s.heap.push { cls:=.type "range",data:=.fields #[.int lo t,.int hi u,.int 1 v]}).objs.size:=by simpa using c
  subst e;exact I1.Nn (aO _)<|I1.hok.fresh<|aO _
abbrev yl (ta:TA):TI:=λσ H R=>ta σ H λc H1=>∃j:Int,c=[.int j]/\-(2 ^ 62)<=j/\j<2 ^ 62/\R (Itr 0 j.toNat) H1
abbrev qI (ta:TA):TI:=λσ H R=>ta σ H λc H1=>∃i j:Int,c=[.int i,.int j]/\(-(2 ^ 62)<=i/\i<2 ^ 62/\-(2 ^ 62)<=j/\j<2 ^ 62)/\R (Itr i (j-i).toNat) H1
def Oq{a:aA}{ta:TA}{p:Pos}(hg:Gl X "range")(J:X.mg "range" = none)(U:PA X [a] ta)(hs:starEach [a] X.env=[(false,eval a X.env)]<|>η):PI X tg (.Call (.Name "range" p) [a] [] pos) (yl ta):=by
 intro pins s σ H R I h;refine Call_<|A2 I hg J boot_range<|gc (ng (U pos pins s σ H _ I h) λus m ⟨k,H1,f,r1,c⟩=>?_) hs rfl;obtain⟨j,e,c,d,q⟩:=c;subst e
 cases r1 with
 | cons r g=>
  cases g
  obtain⟨t,rfl⟩:=r;exact call_range_1<|Hq f () () c d<|by simpa using q
def OB{a b:aA}{ta:TA}{p:Pos}(hg:Gl X "range")(U:X.mg "range" = none)(ha:PA X [a,b] ta)(hs:starEach [a,b] X.env=[(false,eval a X.env),(false,eval b X.env)]<|>η)(J:starEach [b] X.env=[(false,eval b X.env)]<|>η) :
  PI X tg (.Call (.Name "range" p) [a,b] [] pos) (qI ta):=by
 intro pins s σ H R I h;refine Call_ (A2 I hg U boot_range<|gc (ng (ha pos pins s σ H _ I h) λus F ⟨C,H1,B,r1,c⟩=>?_) (by rw[hs,J])<|by rw[J];rfl);obtain⟨i,j,e,⟨c,k,g,f⟩,q⟩:=c;subst e
 cases r1 with
 | cons r d=>
  cases d with
  | cons m d=>
   cases d
   obtain⟨t,rfl⟩:=r;obtain⟨G,rfl⟩:=m;exact call_range_2<|Hq B c k g f q
abbrev adU (U:TI)(g:TG)(tb:TS):TS:=λD σ H=>U σ H λJ H1=>∃W:Nat->Nat->St->Hp->Prop,(∃m,W 0 m σ H1)/\∀i m σ H,W i m σ H ->
 (J.stop i H/\D.nx σ H)\/(J.go i H/\∃N:St->Hp->Prop,(∀c H',N c H'->∃e,e<m/\W (i+1) e c H')/\∀x H',J.yld i H x H'->g x σ H' λd H2=>tb { D with nx:=N,ct:=N,bk:=D.nx } d H2)
abbrev BD (fp:ba)(h:aq):bo:=fp.filterMap λb=>(h.get? b).map λo=>(b,o)
def rQ{fp:ba}{h:aq}{b:ak}(J:b∈fp)(e:h.get? b=some o):(b,o)∈BD fp h:=List.mem_filterMap.mpr ⟨b,J,by rw[e];rfl⟩
def NW{fp:ba}{h:aq}{p:ak×Obj}(J:p∈BD fp h):p.1∈fp/\h.get? p.1=some p.2:=by
 obtain⟨b,d,e⟩:=List.mem_filterMap.mp J
 cases q:h.get? b with
 | none=>rw[q]at e;cases e
 | some o=>
  rw[q]at e;have c:(b,o)=p:=bz e;subst c;exact⟨d,q⟩
def Inv.pinned{H:Hp}{s:az}{fp:ba}(I:Inv X pins σ H s)(hf:∀b∈fp,zp X pins H b)(J:∀b∈fp,∃o,s.heap.get? b=some o/\∀v,o.data≠.cell v):Inv X (pins++BD fp s.heap) σ H s:=
 I.KC λp g=>(br.mp g).elim (λz=>I.pin p<|bR _ z) λz=>by
  obtain⟨f,e⟩:=NW z;obtain⟨f0,f1,f2,_⟩:=hf p.1 f;obtain⟨o,c,d⟩:=J p.1 f;rw[e]at c;cases c;exact⟨e,f0,f1,f2,d⟩
def Inv.vh{pl:bo}{H:Hp}(I:Inv X (pins++pl) σ H s):Inv X pins σ H s:=I.KC λp c=>I.pin p<|bR _<|fj _ c
def aac{iter:aA}{wi:TI}{g:TG}{tb:TS}(hp:PassesOwn (model X.prog X.w) X.A X.env X.xe)(hc:X.calm=true)(hi:PI X tg iter wi)(hg:PG X tg g)(hb:Fj X body tb)
  (hs:(∀x,foldedSetIterable iter X.env x=pure x)<|>θ):PS X (.For tg iter body [] pos) (adU wi g tb):=by
 o_rec;refine wpAny_For (ng (hi pins s σ H _ I h) λv s1 h1=>ng h1 λitv s2 h2=>?_) hs;obtain⟨it,G,tn,J,H2,e,I2,T,P,f2,W,⟨m0,w0⟩,turn⟩:=h2;subst e;have p:∀{H':Hp},(∀b∈G,H' b=none)->∀b∈G,zp X pins H' b:=λhn b hb=>⟨hn b hb,(f2 b hb).2⟩;refine codeAny_forLoop_any (λn s'=>∃i k H',Inv X pins k H' s'/\tn i s'.heap/\(∀b∈G,H' b=none)/\W i n k H') ?_ m0 ⟨0,σ,H2,I2,P,λb hb=>(f2 b hb).1,w0⟩;rintro n s3 ⟨i,B,H3,I3,M,L,w3⟩
 rcases turn i n B H3 w3 with⟨K,qn⟩|⟨go,N,hN,step⟩
 ·refine fh hp<|ng (T.done X rfl rfl rfl hc i pins s3 B H3 X.xe I3 (p L) M K) λr s4 ⟨V,I4⟩=>?_;subst V;exact iU ⟨B,H3,I4,qn⟩
 ·refine fh hp<|ng (T.item X rfl rfl rfl hc i pins s3 B H3 X.xe I3 (p L) M go) λr s4 ⟨u,V,h4⟩=>?_;subst V;refine fh hp<|ng h4 λ_ s5 ⟨x,H5,I5,r5,y5,F,U⟩=>?_;have Y:=I5.pinned (p U)<|T.obj _ _ F;refine fh hp<|ng (hg _ s5 B H5 x u _ Y r5<|step x H5 y5) λ_ s6 ⟨σ6,H6,I6,q6⟩=>?_;refine fh hp<|ng (hb _ s6 σ6 H6 _ I6 q6) λf Z C=>?_;have again:∀{c:St} {q:Hp},Inv X (pins++BD G s5.heap) c q Z->N c q->∃m,m<n/\∃i k H',Inv X pins k H' Z/\tn i Z.heap/\(∀b∈G,H' b=none)/\W i m k H':=λ{c q} j O=>by
   obtain⟨m',hm,w7⟩:=hN c q O;refine⟨m',hm,i+1,c,q,j.vh,T.keep _ _ _ F λb hb o e=>(j.pin (b,o)<|bR _<|bR _<|rQ hb e).1,λb hb=>?_,w7⟩;obtain⟨o,e,d⟩:=T.obj _ _ F b hb;exact(j.pin (b,o)<|bR _<|bR _<|rQ hb e).2.1
  cases f with
  | next=>obtain⟨c,q,j,O⟩:=C;exact again j O
  | cont=>obtain⟨c,q,j,O⟩:=C;exact again j O
  | brk=>obtain⟨c,q,j,C⟩:=C;exact⟨c,q,j.vh,C⟩
  | ret v=>obtain⟨x7,c,q,j,r7,C⟩:=C;exact⟨x7,c,q,j.vh,r7,C⟩
end
def vZ{K:au}{a:ak}{xs:List V}{g:TG}{tb:TS}{D:Ends}{H:Hp}(J:Nat->St->Hp->Prop)(h0:J 0 σ H)(U:∀i σ H,i<=xs.length->J i σ H->n_ K H a xs)
  (hs:∀i x σ H,xs[i]?=some x->J i σ H->g x σ H λσ2 H2=>tb { D with nx:=J<|i+1,ct:=J<|i+1,bk:=D.nx } σ2 H2) (hd:∀σ H,J xs.length σ H->D.nx σ H) :
  ∃W:Nat->Nat->St->Hp->Prop,(∃m,W 0 m σ H)/\∀i m σ H,W i m σ H ->
   ((Itt K a).stop i H/\D.nx σ H)\/((Itt K a).go i H/\∃N:St->Hp->Prop,(∀σ' H',N σ' H'->∃m',m'<m/\W (i+1) m' σ' H')/\∀x H',(Itt K a).yld i H x H'->g x σ H' λσ2 H2=>tb { D with nx:=N,ct:=N,bk:=D.nx } σ2 H2):=by
 refine⟨λi m σ H=>m=xs.length-i/\i<=xs.length/\J i σ H,⟨xs.length,by simp,bL _,h0⟩,?_⟩;rintro i m σ H ⟨rfl,hi,p⟩;have q:=U i σ H hi p;by_cases c:i<xs.length
 ·refine .inr ⟨⟨xs,xs[i],q,by simp[c]⟩,J<|i+1,λσ' H' d=>⟨xs.length-(i+1),(),rfl,c,d⟩,λx H' y=>?_⟩;obtain⟨e,y⟩:=y;subst e;exact hs i x σ _ (y xs q) p
 ·have e:i=xs.length:=()
  subst e;exact .inl ⟨⟨xs,q,aO _⟩,hd σ H p⟩
def B8{c:TT}{tb:TS}{D:Ends}{H:Hp}(J:St->Hp->Prop)(U:St->Hp->Nat)(h0:J σ H)
  (hs:∀σ H,J σ H->c σ H λb H1=>if b=true then tb { D with nx:=λσ' H'=>J σ' H'/\U σ' H'<U σ H,ct:=λσ' H'=>J σ' H'/\U σ' H'<U σ H,bk:=D.nx } σ H1 else D.nx σ H1)
  (mono:∀σ H Q Q',(∀b H1,Q b H1->Q' b H1)->c σ H Q->c σ H Q'):PU c tb D σ H:=by
 refine⟨λm σ H=>m=U σ H/\J σ H,⟨_,rfl,h0⟩,?_⟩;rintro m σ H ⟨rfl,p⟩;refine mono σ H _ _ (λb H1 q=>?_) (hs σ H p)
 cases b with
 | true=>exact⟨_,λσ' H' ⟨d,l⟩=>⟨_,l,rfl,d⟩,q⟩
 | false=>exact q
meta abbrev R2:=V->V->Hp->VK->Prop
abbrev pR (X:Cx)(f:af->af->Sem af)(r:R2):Prop:=
 ∀(pins:bo) (s:az) (σ:St) (H:Hp) (x y:V) (v u:af) (Q:VK),Inv X pins σ H s->RelV x v->RelV y u->r x y H Q ->
  wpAny (model X.prog X.w) X.A (f v u) (EP X pins σ Q) X.xe s
abbrev UnR (X:Cx)(f:af->Sem af)(r:V->Hp->VK->Prop):Prop:=
 ∀(pins:bo) (s:az) (σ:St) (H:Hp) (x:V) (v:af) (Q:VK),Inv X pins σ H s->RelV x v->r x H Q ->
  wpAny (model X.prog X.w) X.A (f v) (EP X pins σ Q) X.xe s
abbrev kJ (X:Cx)(f:af)(r:List V->Hp->VK->Prop):Prop:=
 ∀(pins:bo) (s:az) (σ:St) (H:Hp) (xs:List V) (us:ax) (Q:VK),Inv X pins σ H s->Vals xs us->r xs H Q ->
  wpAny (model X.prog X.w) X.A (call f us) (EP X pins σ Q) X.xe s
abbrev aeP (X:Cx)(r:V->Hp->(Bool->Hp->Prop)->Prop):Prop:=
 ∀(pins:bo) (s:az) (σ:St) (H:Hp) (x:V) (v:af) (Q:Bool->Hp->Prop),Inv X pins σ H s->RelV x v->r x H Q ->
  wpAny (model X.prog X.w) X.A (truthy v) (TP X pins σ Q) X.xe s
abbrev tOp (r:R2)(ta tb:TE):TE:=λσ H Q=>ta σ H λx H1=>tb σ H1 λy H2=>r x y H2 Q
abbrev tUn (r:V->Hp->VK->Prop)(ta:TE):TE:=λσ H Q=>ta σ H λx H1=>r x H1 Q
abbrev rI (C:Int->Int->Prop)(g:Int->Int->V):R2:=λx y H Q=>∃i j,x=.int i/\y=.int j/\C i j/\Q (g i j) H
abbrev YN (g:Int->Int->V):R2:=λx y H Q=>∃i j,x=.int i/\y=.int j/\Q (g i j) H
abbrev rU (g:Int->V):V->Hp->VK->Prop:=λx H Q=>∃i,x=.int i/\Q (g i) H
section
variable {X:Cx}{a b:aA}{ta tb:TE}{pos:Pos}
def aay(J:PE X a ta)(U:PE X b tb){H:Hp}{R:V->V->Hp->Prop}(I:Inv X pins σ H s)
  (h:ta σ H λx H1=>tb σ H1 λy H2=>R x y H2) {Q:af->az->Prop} {f:af->af->Sem af}
  (hf:∀v u s2 x y H2,Inv X pins σ H2 s2->RelV x v->RelV y u->R x y H2->wpAny (model X.prog X.w) X.A (f v u) Q X.xe s2) :
  wpAny (model X.prog X.w) X.A (eval a X.env) (λv s₁=>wpAny (model X.prog X.w) X.A (eval b X.env) (λu s₂=>wpAny (model X.prog X.w) X.A (f v u) Q X.xe s₂) X.xe s₁) X.xe s:=by
 refine ng (J pins s σ H _ I h) λv g ⟨x,H1,j,r1,e⟩=>?_;refine ng (U pins g σ H1 _ j e) λu s2 ⟨y,H2,c,r2,d⟩=>?_;exact hf v u s2 x y H2 c r1 r2 d
def acJ{r:R2}(J:pR X (binaryOp op) r)(U:PE X a ta)(hb:PE X b tb):PE X (.BinOp a op b pos) (tOp r ta tb):=by
 w_up;exact wpAny_BinOp<|aay U hb I h λv u d x y H2 c rx ry q=>J pins d σ H2 x y v u Q c rx ry q
def QK{r:V->Hp->VK->Prop}(J:UnR X (unaryOp op) r)(U:PE X a ta):PE X (.UnaryOp op a pos) (tUn r ta):=by
 w_up;exact UnaryOp_<|ng (U pins s σ H _ I h) λv d ⟨x,H1,e,r1,c⟩=>J pins d σ H1 x v Q e r1 c
def opI{f:af->af->Sem af}{C:Int->Int->Prop}{g:Int->Int->Int}
  (J:∀(i j:Int) (t u:Tok) (s:az) (Q:af->az->Prop) (E:af->az->Prop),C i j->Q (.int (g i j) s.toks) { s with toks:=s.toks+1 }->wpAny (model X.prog X.w) X.A (f (.int i t)<|.int j u) Q E s) :
  pR X f (rI C λi j=>.int<|g i j):=by
 kd_p;obtain⟨i,j,rfl,rfl,hc,q⟩:=h;kst_p;obtain⟨c,rfl⟩:=ry;exact J i j t c s _ _ hc ⟨.int<|g i j,H,I.tok _,⟨_,rfl⟩,q⟩
def ada{f:af->af->Sem af}{g:Int->Int->Int}
  (J:∀(i j:Int) (t u:Tok) (s:az) (Q:af->az->Prop) (E:af->az->Prop),Q (.int (g i j) s.toks) { s with toks:=s.toks+1 }->wpAny (model X.prog X.w) X.A (f (.int i t)<|.int j u) Q E s) :
  pR X f (YN λi j=>.int<|g i j):=by
 kd_p;obtain⟨i,j,rfl,rfl,q⟩:=h;kst_p;obtain⟨c,rfl⟩:=ry;exact J i j t c s _ _ ⟨.int<|g i j,H,I.tok _,⟨_,rfl⟩,q⟩
def YM{f:af->af->Sem af}{g:Int->Int->Bool}
  (J:∀(i j:Int) (t u:Tok) (s:az) (Q:af->az->Prop) (E:af->az->Prop),Q (.bool<|g i j) s->wpAny (model X.prog X.w) X.A (f (.int i t)<|.int j u) Q E s) :
  pR X f (YN λi j=>.bl<|g i j):=by
 kd_p;obtain⟨i,j,rfl,rfl,q⟩:=h;kst_p;obtain⟨c,rfl⟩:=ry;exact J i j t c s _ _ ⟨.bl<|g i j,H,I,rfl,q⟩
abbrev adM (i j:Int):Prop:=0<=j/\j<=1000000/\i.natAbs<2 ^ 64
abbrev Vs (i j:Int):Prop:=(-(2 ^ 64)<i/\i<2 ^ 64)\/(-(2 ^ 64)<j/\j<2 ^ 64)
def Vs.ok{i j:Int}(h:Vs i j):IntMulOk i j:=by
 rcases h with⟨h1,h2⟩|⟨h1,h2⟩
 ·exact .of_left (intBits_le_64 h1 h2)
 ·exact .of_right<|intBits_le_64 h1 h2
def aab:pR X (binaryOp .Add) (YN λi j=>.int<|i+j):=ada λ_ _ _ _ _ _ _ q=>add_int q
def aa0:pR X (binaryOp .Sub) (YN λi j=>.int<|i-j):=ada λ_ _ _ _ _ _ _ q=>sub_int q
def ZP:pR X (binaryOp .Mult) (rI Vs λi j=>.int<|i * j):=opI λ_ _ _ _ _ _ _ hc q=>mul_int q hc.ok
def YX:pR X (binaryOp .Mod) (rI (λ_ j=>0<j) λi j=>.int<|i % j):=opI λi j _ _ _ _ _ hc q=>by
 have h1:(0:Int)<j:=hc;exact mod_int' ()<|by rw[Int.fmod_eq_emod_of_nonneg i ()];exact q
def ZZ:pR X (binaryOp .Pow) (rI adM λi j=>.int<|i ^ j.toNat):=opI λ_ _ _ _ _ _ _ hc q=>pow_int_small hc.1 hc.2.1 hc.2.2 q
def unI{f:af->Sem af}{g:Int->Int}
  (J:∀(i:Int) (t:Tok) (s:az) (Q:af->az->Prop) (E:af->az->Prop),Q (.int (g i) s.toks) { s with toks:=s.toks+1 }->wpAny (model X.prog X.w) X.A (f<|.int i t) Q E s) :
  UnR X f (rU λi=>.int<|g i):=by
 intro pins s σ H x v Q I rx h;obtain⟨i,rfl,q⟩:=h;kst_p;exact J i t s _ _ ⟨.int<|g i,H,I.tok _,⟨_,rfl⟩,q⟩
def Jw:UnR X (unaryOp .USub) (rU λi=>.int<|-i):=unI λ_ _ _ _ _ q=>neg_int q
end
abbrev aaV:V->V->Bool
 | .non,.non=>true | .non,.int _=>true | .int _,.non=>true | .non,.bl _=>true | .bl _,.non=>true | .non,.str _=>true | .str _,.non=>true
 | .int _,.int _=>true | .bl _,.bl _=>true | .str _,.str _=>true | .byt _,.byt _=>true
 | .int _,.str _=>true | .str _,.int _=>true | .bl _,.str _=>true | .str _,.bl _=>true
 | _,_=>false
section
variable {X:Cx}{a b c:aA}{ta tb tc:TE}{pos:Pos}
def ach:pR X (compareOp .Lt) (YN λi j=>.bl<|decide<|i<j):=YM λ_ _ _ _ _ _ _ q=>lt_int q
def ab5:pR X (compareOp .LtE) (YN λi j=>.bl<|decide<|i<=j):=YM λ_ _ _ _ _ _ _ q=>le_int q
def ac7:pR X (compareOp .Gt) (YN λi j=>.bl<|decide<|j<i):=YM λ_ _ _ _ _ _ _ q=>gt_int q
def SJ(b:aA)(h:op≠.In<|>δ)(h2:op≠.NotIn<|>δ):behindInMarks op b=false:=by
 have e1:(op == CmpOp.In)=false:=by cases op<;>first|rfl|exact absurd rfl h
 have e2:(op == CmpOp.NotIn)=false:=by cases op<;>first|rfl|exact absurd rfl h2
 cases b<;>simp[behindInMarks,e1,e2]
def VW{J:CmpOp}{r:R2}(U:pR X (compareOp J) r)(ha:PE X a ta)(hb:PE X b tb)(hm:behindInMarks J b=false):PE X (.Compare a [J] [b] pos) (tOp r ta tb):=by
 w_up;exact wpAny_Compare1 (aay ha hb I h λv u d x y H2 c rx ry q=>U pins d σ H2 x y v u Q c rx ry q) hm
abbrev abh (t:TE):TT:=λσ H Q=>t σ H λx H'=>∃k,x=.bl k/\Q k H'
def Vv{J:CmpOp}{r:R2}(U:pR X (compareOp J) r)(ha:PE X a ta)(hb:PE X b tb)(hm:behindInMarks J b=false):PT X (.Compare a [J] [b] pos) (abh<|tOp r ta tb):=by
 w_up;refine wpAny_isTrue_Compare1 (ng (ha pins s σ H _ I h) λv q ⟨x,H1,B,r1,d⟩=>ng (hb pins q σ H1 _ B d) λu m ⟨y,H2,C,r2,p⟩=>
  ng (U pins m σ H2 x y v u _ C r1 r2 p) λc F ⟨z,H3,g,j,k,e,f⟩=>?_) hm
 subst e
 cases j
 exact eK ⟨H3,g,f⟩
abbrev TL (r J:R2)(ta tb tc:TE):TE:=λσ H Q=>ta σ H λx H1=>tb σ H1 λy H2=>r x y H2 λz H3=>∃k,z=.bl k /\
 (if k=true then tc σ H3 λd c=>J y d c Q else Q (.bl false) H3)
def RB{r r':R2}(ho:pR X (compareOp op) r)(U:pR X (compareOp op') r')(ha:PE X a ta)(hb:PE X b tb)(hc:PE X c tc)
  (hm:lastMarks [op,op'] [b,c]=false<|>ι):PE X (.Compare a [op,op'] [b,c] pos) (TL r r' ta tb tc):=by
 w_up;refine Compare_chain (ng (ha pins s σ H _ I h) λv K ⟨x,H1,L,r1,j⟩=>chain_link (ng (hb pins K σ H1 _ L j) λu C ⟨y,H2,M,r2,F⟩=>
  ng (ho pins C σ H2 x y v u _ M r1 r2 F) λd G ⟨z,H3,g,p,k,e,f⟩=>?_)) hm
 subst e
 cases p
 refine eK ?_
 cases k with
 | false=>exact ite_ff ⟨.bl false,H3,g,rfl,f⟩
 | true=>exact ite_tt<|chain_last<|ng (hc pins G σ H3 _ g f) λJ N ⟨P,q,O,B,m⟩=>U pins N σ q y P u J Q O r2 B m
abbrev aaf (K:au)(x:V)(H:Hp)(k:Bool):Prop:=
 match x with
 | .non=>k=false
 | .bl b=>k=b
 | .int i=>k=(i != 0)
 | .str y=>y.length<=sizeLine/\k=((y.length:Int) != 0)
 | .byt y=>y.size<=sizeLine/\k=((y.size:Int) != 0)
 | .ref p=>(∃xs,qt K H p xs/\k=!xs.isEmpty)\/(∃xs,n_ K H p xs/\k=!xs.isEmpty)\/∃c,H p=some (.dK c)/\k=!c.isEmpty
 | _=>False
def J4{κ:Type}{kvs:List<|κ×V}{vs:List<|κ×af}(r:KV kvs vs):(!vs.isEmpty)=!kvs.isEmpty:=by
 cases r<;>rfl
def A5{xs:List V}{its:ax}(r:Vals xs its):(!its.toArray.isEmpty)=!xs.isEmpty:=by
 cases r<;>simp
def wZ:(sizeLine:Nat)<2 ^ 63:=by rw[dR];decide
def Z6:aeP X (λx H Q=>∃k,aaf X.K x H k/\Q k H):=by
 intro pins s σ H x v Q I rx h;obtain⟨k,e,q⟩:=h;have F:=wZ;have hs:sizeLine=16777216:=dR
 cases x with
 | non=>
  cases rx
  have c:k=false:=e;subst c;exact truthy_none ⟨H,I,q⟩
 | bl b=>
  cases rx
  have c:k=b:=e;subst c;exact eK ⟨H,I,q⟩
 | int i=>
  kst_p;have c:k=(i != 0):=e;subst c;exact PySem.P.truthy_int ⟨H,I,q⟩
 | str y=>
  kst_p;obtain⟨C,c⟩:y.length<=sizeLine/\k=((y.length:Int) != 0):=e;subst c;exact PySem.P.truthy_str () ⟨H,I.tok _,q⟩
 | byt y=>
  kst_p;obtain⟨C,c⟩:y.size<=sizeLine/\k=((y.size:Int) != 0):=e;subst c;exact PySem.W.truthy_bytes () ⟨H,I.tok _,q⟩
 | ref p=>
  cases rx
  have c:(∃xs,qt X.K H p xs/\k=!xs.isEmpty)\/(∃xs,n_ X.K H p xs/\k=!xs.isEmpty)\/∃d,H p=some (.dK d)/\k=!d.isEmpty:=e
  rcases c with⟨xs,g,c⟩|⟨xs,g,c⟩|⟨d,g,c⟩
  ·subst c;obtain⟨its,r,pl,B⟩:=I.list g;have f:=r.length;exact wpAny_truthy_list pl.isList (by dsimp[aZ];lia) ⟨H,I.tok _,by rw[A5 r];exact q⟩
  ·subst c;obtain⟨its,r,pl,B⟩:=I.tuple g;have f:=r.length;exact truthy_tuple pl (by dsimp[aZ];lia) ⟨H,I.tok _,by rw[A5 r];exact q⟩
  ·subst c;obtain⟨B,hS,j,r,m⟩:d.length<=sizeLine/\(p == sysModules)=false/\∃j,KV d j/\s.heap.DictOf (kN X.prog X.w) p j:=I.hok p _ g;have f:d.length=j.length:=jt r;exact wpAny_truthy_dict hS m () ⟨H,I.tok _,by rw[J4 r];exact q⟩
 | _=>exact(show False from e).elim
def Tw(J:PE X a ta)(U:∀whole,isTrue a X.env whole=(do let v <- whole;standAt a.pos;holding [v] (truthy v))) :
  PT X a (λσ H Q=>ta σ H λx H'=>∃k,aaf X.K x H' k/\Q k H'):=by
 w_up;exact isTrue_plain (ng (J pins s σ H _ I h) λv d ⟨x,H1,e,r1,c⟩=>Z6 pins d σ H1 x v Q e r1 c)<|U _
def JO:pR X (binaryOp .Add) (λx y H Q=>∃i j,x=.str i/\y=.str j/\i.length+j.length<=sizeLine/\Q (.str<|i++j) H):=by
 kd_p;obtain⟨i,j,rfl,rfl,c,q⟩:=h;kst_p;obtain⟨d,rfl⟩:=ry;exact add_str (λd e=>⟨.str<|i++j,H,I.tok _,⟨_,rfl⟩,q⟩) c
def vals1{x:V}(r:Vals [x] us):∃u,us=[u]/\RelV x u:=by
 cases r with
 | cons r1 r2=>cases r2;exact⟨_,rfl,r1⟩
def vals2{x:V}(r:Vals [x,y] us):∃u w',us=[u,w']/\RelV x u/\RelV y w':=by
 cases r with
 | cons r1 r2=>
  cases r2 with
  | cons d c=>cases c;exact⟨_,_,rfl,r1,d⟩
def Q3:kJ X (.builtin "abs") (λxs H Q=>∃i,xs=[.int i]/\Q (.int<|if i<0 then -i else i) H):=by
 x_go;obtain⟨i,rfl,q⟩:=h;obtain⟨u,rfl,t,rfl⟩:=vals1 r;exact call_abs_int λu c=>⟨.int<|if i<0 then -i else i,H,I.tok _,⟨_,rfl⟩,q⟩
def CT:kJ X (.type "int") (λxs H Q=>(∃i,xs=[.int i]/\Q (.int i) H)\/∃k,xs=[.bl k]/\Q (.int<|if k then 1 else 0) H):=by
 x_go
 rcases h with⟨i,rfl,q⟩|⟨k,rfl,q⟩
 ·obtain⟨u,rfl,t,rfl⟩:=vals1 r;exact call_int_int ⟨.int i,H,I,⟨_,rfl⟩,q⟩
 ·obtain⟨u,rfl,r1⟩:=vals1 r
  cases r1
  exact call_int_bool ⟨.int<|if k then 1 else 0,H,I.tok _,⟨_,rfl⟩,q⟩
abbrev aeO (K:au)(x:V)(H:Hp)(n:Nat):Prop:=
 match x with
 | .str y=>y.length<=sizeLine/\n=y.length
 | .byt y=>y.size<=sizeLine/\n=y.size
 | .ref p=>(∃xs,qt K H p xs/\n=xs.length)\/∃xs,n_ K H p xs/\n=xs.length
 | _=>False
def O2:kJ X (.builtin "len") (λxs H Q=>∃x n,xs=[x]/\aeO X.K x H n/\Q (.int n) H):=by
 x_go;obtain⟨x,n,rfl,e,q⟩:=h;kcf_m;have m:=wZ;have hs:sizeLine=16777216:=dR
 cases x with
 | str y=>
  kst_p;obtain⟨j,d⟩:y.length<=sizeLine/\n=y.length:=e;subst d;exact len_str () ⟨.int _,H,I.tok _,⟨_,rfl⟩,q⟩
 | byt y=>
  kst_p;obtain⟨j,d⟩:y.size<=sizeLine/\n=y.size:=e;subst d;exact PySem.W.len_bytes () ⟨.int _,H,I.tok _,⟨_,rfl⟩,q⟩
 | ref p=>
  cases rx
  have d:(∃xs,qt X.K H p xs/\n=xs.length)\/∃xs,n_ X.K H p xs/\n=xs.length:=e
  rcases d with⟨xs,f,d⟩|⟨xs,f,d⟩
  ·subst d;obtain⟨its,g,pl,k⟩:=I.list f;have c:=g.length;exact Calls.call_len_list pl.isList (by dsimp[aZ];lia) ⟨.int xs.length,H,I.tok _,⟨_,by dsimp[aZ];rw[c]⟩,q⟩
  ·subst d;obtain⟨its,g,pl,k⟩:=I.tuple f;have c:=g.length;exact len_tuple pl (by dsimp[aZ];lia) ⟨.int xs.length,H,I.tok _,⟨_,by dsimp[aZ];rw[c]⟩,q⟩
 | _=>exact(show False from e).elim
end
structure ObjM (h:aq)(x dx C:ak)(mA:Str->bb):Prop where
 obj:h.get? x=some (PySem.W.instObj C dx)
 ns:h.Ns1 dx mA
 ne:dx≠x
def Nm{h:aq}{J:Str->bb}(n:h.Ns1 dx J):∃od,h.get? dx=some od/\∀name,PySem.W.lookIn name od=some (J name):=by
 obtain⟨o,es,ep,j,k,m,_,d⟩:=n;refine⟨o,j,λname=>?_⟩;have e:=d name;unfold nsFind findBy at e;rw[<- Array.find?_toList]at e;unfold PySem.W.lookIn;rw[k];dsimp only;split
 ·rename_i y q;rw[q]at e;exact dY some e
 ·rename_i q;rw[q]at e;have a:es.toList.any (·.refKey)=false:=by
   rw[List.any_eq_false];intro y f;obtain⟨z,t,c⟩:=m y<|Array.mem_toList_iff.mp f;simp[DictEntry.refKey,c]
  have g:¬es.toList.any (·.refKey)=true:=by rw[a];exact bJ
  rw[aI g];exact dY some e
def ObjM.look{x:ak}{J:Str->bb}(I:ObjM h x dx C J):∃od,PySem.W.InstAt h x (PySem.W.instObj C dx) C (some od)/\∀name,PySem.W.lookIn name od=some (J name):=
 let⟨od,ho,hl⟩:=Nm I.ns
 ⟨od,⟨I.obj,rfl,rfl,ho⟩,hl⟩
def yU.some_of{v:V}(r:yU (some v) o):∃u,o=some u/\RelV v u:=by
 cases o with
 | none=>exact(show False from r).elim
 | some u=>exact⟨u,rfl,r⟩
section
variable {P:aj}{w:ah}{H:Hp}{h:aq}{a C dx:ak}{fs:List (Str×V)}
def V8(J:xO P w H h)(e:H a=some (.ins C dx fs)):∃mA,ObjM h a dx C mA/\(∀f,yU (fs.lookup f)<|mA f)/\PySem.Within mA (fs.map (·.1))/\fs.length<=1000/\H dx=some (.own a):=by
 obtain⟨d,z,g,c,mA,n,r,q⟩:=(show lJ P w H h a (.ins C dx fs)from J a _ e);exact⟨mA,⟨c,n,g⟩,r,q,z,d⟩
end
structure Cls (K:au)(C:ak):Prop where
 pg:PySem.W.plainGet K C Str.empty=true
 hd:PySem.W.hasDictIn K C=true
 po:PySem.W.plainOver K C=true
 sa:PySem.W.findIn K (.ref C) "__setattr__" = some (some<|.builtin "object.__setattr__")
def Cls.get{K:au}(c:Cls K C)(f:Str):PySem.W.plainGet K C f=true:=c.pg
section
variable {X:Cx}{pins:bo}{σ:St}{H:Hp}{s:az}{A:ay}{E:af->az->Prop}{Q:af->az->Prop}{c:af}{b:Bool}
inductive TyOf (K:au) (H:Hp):V->af->Prop where
 | non:TyOf K H .non (.type "NoneType")
 | bl (x:Bool):TyOf K H (.bl x) (.type "bool")
 | int (i:Int):TyOf K H (.int i) (.type "int")
 | str (x:Str):TyOf K H (.str x) (.type "str")
 | flt (x:UInt64):TyOf K H (.flt x) (.type "float")
 | lst {a:ak} {xs:List V} (e:H a=some (.lst xs)):TyOf K H (.ref a) (.type "list")
 | frz {a:ak} {o:Obj} {xs:List V} (e:H a=some (.frz o<|.lst xs)):TyOf K H (.ref a) (.type "list")
 | tup {a:ak} {xs:List V} (e:H a=some (.tup xs)):TyOf K H (.ref a) (.type "tuple")
 | dK {a:ak} {kvs:List<|Key×V} (e:H a=some (.dK kvs)):TyOf K H (.ref a) (.type "dict")
 | dT {a:ak} {kvs:List<|List Key×V} (e:H a=some (.dT kvs)):TyOf K H (.ref a) (.type "dict")
 | ins {a C dx:ak} {fs:List<|Str×V} (e:H a=some (.ins C dx fs)) (cl:Cls K C) (ha:PySem.W.findIn K (.ref C) "__class__" = some (some<|.builtin "object.__class__"))
   (hn:PySem.W.specialIn K (.builtin "object.__class__") "__get__" = some (some<|.builtin "getset_descriptor.__get__")) (htk:PySem.W.takesIn K (.builtin "object.__class__")=some true)
   (hm:PySem.W.mroIn K C (.type "object")=some true):TyOf K H (.ref a)<|.ref C
def OG{x:V}{t:af}(I:Inv X pins σ H s)(rx:RelV x u)(ty:TyOf X.K H x t)(e:PySem.W.kitOne X.K t c=some b)(h:∀tk,Q (.bool b) { s with toks:=tk }) :
  wpAny (model X.prog X.w) A (call (.builtin "isinstance") [u,c]) Q E s:=by
 cases ty with
 | non=>cases(show u=Value.none from rx);exact c9 PySem.W.kitx_none I.E4 True.intro e (λz=>nomatch z) h
 | bl y=>cases(show u=Value.bool y from rx);exact c9 PySem.W.kitx_bool I.E4 True.intro e (λz=>nomatch z) h
 | int i=>obtain⟨t,q⟩:=(show ∃t,u=Value.int i t from rx);cases q;exact c9 PySem.W.kitx_int I.E4 True.intro e (λz=>nomatch z) h
 | str y=>obtain⟨t,q⟩:=(show ∃t,u=Value.str y t from rx);cases q;exact c9 PySem.W.kitx_str I.E4 True.intro e (λz=>nomatch z) h
 | flt y=>obtain⟨t,q⟩:=(show ∃t,u=Value.float y t from rx);cases q;exact c9 PySem.W.kitx_float I.E4 True.intro e (λz=>nomatch z) h
 | @lst a xs d=>
  cases(show u=Value.ref a from rx)
  obtain⟨_,_,n,_,h1⟩:=(show lJ X.prog X.w H s.heap a (.lst xs)from I.hok a _ d);exact c9 PySem.W.kitx_list I.E4 ⟨_,h1,rfl⟩ e (λz=>nomatch z) h
 | @frz a B xs d=>
  cases(show u=Value.ref a from rx)
  obtain⟨_,_,_,n,_,h1⟩:=(show lJ X.prog X.w H s.heap a (.frz B<|.lst xs)from I.hok a _ d);exact c9 PySem.W.kitx_list I.E4 ⟨_,h1,rfl⟩ e (λz=>nomatch z) h
 | @tup a xs d=>
  cases(show u=Value.ref a from rx)
  obtain⟨_,_,_,p⟩:=(show lJ X.prog X.w H s.heap a (.tup xs)from I.hok a _ d);obtain⟨o,h1,h2,_⟩:=p;exact c9 PySem.W.kitx_tuple I.E4 ⟨o,h1,h2⟩ e (λz=>nomatch z) h
 | @dK a f d=>
  cases(show u=Value.ref a from rx)
  obtain⟨_,_,F,_,p⟩:=(show lJ X.prog X.w H s.heap a (.dK f)from I.hok a _ d);obtain⟨o,es,ep,h1,h2,_⟩:=p;exact c9 PySem.W.kitx_dict I.E4 ⟨o,h1,h2.1⟩ e (λz=>nomatch z) h
 | @dT a f d=>
  cases(show u=Value.ref a from rx)
  obtain⟨_,_,xs,_,o,es,ep,h1,h2,_⟩:=(show lJ X.prog X.w H s.heap a (.dT f)from I.hok a _ d);exact c9 PySem.W.kitx_dict I.E4 ⟨o,h1,h2.1⟩ e (λz=>nomatch z) h
 | @ins a C dx fs d j m hn g k=>
  cases(show u=Value.ref a from rx)
  obtain⟨L,O,_⟩:=V8 I.hok d;obtain⟨G,J,_⟩:=O.look;exact c9 (PySem.W.kitx_own (j.get _) j.hd m hn g k) I.E4 J e (λz=>nomatch z) h
end
structure Room (k:Nat)(A:ay):Prop where
 hd:A.handled=none
 dp:A.depth+3 * k+5<recursionLimit
 un:A.units+16 * k+200<cLine
 gs:A.guards=some []
def Room.mono{k:Nat}{A:ay}(r:Room k A)(h:j<=k):Room j A:=⟨r.hd,by have:=r.dp;lia,by have:=r.un;lia,r.gs⟩
def Room.deeper{k:Nat}{A:ay}(r:Room (k+1) A)(env:Env):Room k (A.deeper env):=
 ⟨r.hd,by have:=r.dp;show A.depth+1+3 * k+5<_;lia,by have:=r.un;show A.units+3+16 * k+200<_;lia,r.gs⟩
def Room.depth{k:Nat}{A:ay}(r:Room k A):A.depth<recursionLimit:=by have:=r.dp;lia
def Room.units{k:Nat}{A:ay}(r:Room k A):A.units+64<cLine:=by have:=r.un;lia
abbrev ad_:TA:=λ_ H Q=>Q [] H
abbrev acT (ta:TE)(J:TA):TA:=λσ H Q=>ta σ H λx H1=>J σ H1 λxs H2=>Q (x::xs) H2
section
variable {X:Cx}{e:aA}{es:List aA}{te:TE}{t:TA}{pos:Pos}
def IW:PA X [] ad_:=λ_ _ _ _ H Q I h=>Calls.spliced_nil ⟨[],H,I,.nil,h⟩
def AK(J:PE X e te)(U:PA X es t)(hs:starEach (e::es) X.env=(false,eval e X.env)::starEach es X.env<|>η):PA X (e::es) (acT te t):=by
 intro pos pins s σ H Q I h;rw[hs]
 skip
 refine Calls.spliced_cons<|ng (J pins s σ H _ I h) λu f ⟨x,H1,g,r1,c⟩=>?_;exact ng (U pos pins f σ H1 _ g c) λus k ⟨xs,H2,j,r2,d⟩=>⟨x::xs,H2,j,.cons r1 r2,d⟩
abbrev aer (t:TA):TE:=λσ H Q=>t σ H λxs H1=>xs.length<=sizeLine/\∀p,H1 p=none->Q (.ref p) (upd H1 p<|.tup xs)
abbrev adT (t:TA):TE:=λσ H Q=>t σ H λxs H1=>xs.length<=sizeLine/\∀p,H1 p=none->Q (.ref p) (upd H1 p<|.lst xs)
def aaJ{x1}(h:PA X es t):PE X (.Tuple es x1 pos) (aer t):=by
 intro pins s σ H Q I f;refine wpAny_Tuple_spliced (ng (h pos pins s σ H _ I f) λus c ⟨xs,H1,d,r,z,q⟩=>⟨by rw[<- r.length];exact z,?_⟩);have hf:H1 c.heap.objs.size=none:=d.hok.fresh<|aO _;refine⟨.ref c.heap.objs.size,upd H1 c.heap.objs.size<|.tup xs,d.laid (t':=c.toks) (λb u e=>aR _ e) (aO _) ?_,rfl,q _ hf⟩;exact⟨z,us,r,⟨_,bC _ rfl,rfl,rfl,_,rfl⟩⟩
def Zh(h:PA X es t):PE X (.List es pos) (adT t):=by
 intro pins s σ H Q I f;refine wpAny_List_spliced (ng (h pos pins s σ H _ I f) λus c ⟨xs,H1,d,r,z,q⟩=>⟨by rw[<- r.length];exact z,?_⟩);have hf:H1 c.heap.objs.size=none:=d.hok.fresh<|aO _;refine⟨.ref c.heap.objs.size,upd H1 c.heap.objs.size<|.lst xs,d.laid (t':=c.toks) (λb u e=>aR _ e) (aO _) ?_,rfl,q _ hf⟩;exact⟨z,us,0,r,bC _ rfl⟩
end
meta abbrev Sp:=List V->Hp->VK->XK->Prop
meta abbrev UU:=List Env->Hp->az->XK->af->az->Prop
structure Env0 (P:aj)(w:ah)(K:au)(mg:Str->bb)(base:aq)(A:ay)(outer:List Env)(s:az)(H:Hp):Prop where
 frames:A.frames=some outer
 mod:Mod K mg base
 bs:∀b o,base.get? b=some o->s.heap.get? b=some o/\H b=none
 bsz:base.objs.size<=s.heap.objs.size
 Bb:s.heap.FunFrames base outer
 frf:∀b∈frs outer,H b=none
 hok:xO P w H s.heap
 bare:AllBare s.gens
abbrev CE (outer:List Env)(P:aj)(w:ah)(H:Hp)(s:az)(Q:VK)(u:af)(s':az):Prop:=
 ∃v H',s'.os=s.os/\AllBare s'.gens/\Un (frs outer) [] H H' s.heap s'.heap/\xO P w H' s'.heap/\RelV v u/\Q v H'
abbrev CR (CX:UU)(outer:List Env)(P:aj)(w:ah)(H:Hp)(s:az)(Q:VK)(E:XK)(r:Result)(s':az):Prop:=
 match r with
 | .ok (.ret u)=>CE outer P w H s Q u s'
 | .ok _=>False
 | .error e=>CX outer H s E e s'
structure FnOk (P:aj)(w:ah)(K:au)(mg:Str->bb)(base:aq)(CX:UU)(k:Nat)(f:ak)(fd:FuncData)(ps:ar)(sp:Sp):Prop where
 len:∀vs H Q E,sp vs H Q E->vs.length=ps.length
 run:∀(A:ay) (outer:List Env) (s:az) (H:Hp) (args:Args) (us:ax) (vs:List V) (Q:VK) (E:XK),Room k A->Env0 P w K mg base A outer s H->BindsTo s fd args (ps.zip us)->Vals vs us->sp vs H Q E ->
  codeAny (model P w) A (.call (.ref f) args) (CR CX outer P w H s Q E) s
section
variable {X:Cx}{pins:bo}{σ:St}{H:Hp}{s s':az}
def Inv.adY(I:Inv X pins σ H s):Env0 X.prog X.w X.K X.mg X.base X.A X.stack s H:=
 ⟨I.ok.frames,I.ok.mod,I.bs,bD I.ok.bsz I.sz,I.stack,I.MA,I.hok,I.bare⟩
def Inv.after{Q:VK}(I:Inv X pins σ H s)(h:CE X.stack X.prog X.w H s Q u s'):EP X pins σ Q u s':=by
 obtain⟨v,H',os,c,un,e,r,q⟩:=h;obtain⟨j,g,d,t,f⟩:=s';obtain rfl:f=s.os:=os;exact⟨v,H',I.call (h':=j) (g':=g) (d':=d) (t':=t) (ch:=[]) un e c λb z=>absurd z<|by simp,r,q⟩
end
abbrev Yz (sp:Sp)(dvs:List V)(E:XK)(t:TA):TE:=λσ H Q=>t σ H λc H1=>sp (c++dvs) H1 Q E
abbrev Binds (K:au)(fd:FuncData)(ps:ar)(ds:ax):Prop:=
 ∀(s:az) (us:ax),K.In s.heap->(us++ds).length=ps.length->BindsTo s fd ⟨us,[]⟩ (ps.zip<|us++ds)
def Binds.all{K:au}{ps:ar}(h:∀us:ax,us.length=ps.length->bindArgs fd ⟨us,[]⟩=pure (ps.zip us)):Binds K fd ps []:=λs us _ c=>by
 rw[cI]at c ⊢;exact .of_eq<|h us c
abbrev Passes (CX:UU)(X:Cx)(E:XK):Prop:=∀(pins:bo) (σ:St) (H:Hp) (s:az) (e:af) (s':az),Inv X pins σ H s->CX X.stack H s E e s'->X.xe e s'
section
variable {X:Cx}{CX:UU}{k:Nat}{f C:ak}{fd:FuncData}{ps:ar}{sp:Sp}{dvs:List V}{ds:ax}{E:XK}{x:Str}{p pos:Pos}{e:aA}{es:List aA}{t:TA}
def Ze{H:Hp}{Q:VK}(F:FnOk X.prog X.w X.K X.mg X.base CX k f fd ps sp)(J:Room k X.A)(U:Binds X.K fd ps ds)(hd:Vals dvs ds)(hx:Passes CX X E)
  (I:Inv X pins σ H s) (r:Vals vs us) (h:sp (vs++dvs) H Q E):wpAny (model X.prog X.w) X.A (call (.ref f) us) (EP X pins σ Q) X.xe s:=by
 have r2:Vals (vs++dvs) (us++ds):=r.append hd;have d:(us++ds).length=ps.length:=by rw[<- r2.length];exact F.len _ _ _ _ h
 refine wpAny_call (jE (F.run X.A X.stack s H ⟨us,[]⟩ (us++ds) (vs++dvs) Q E J I.adY (U s us I.E4 d) r2 h) λr s' c=>?_)
 cases r with
 | error e=>exact hx pins σ H s e s' I c
 | ok fl=>
  cases fl with
  | ret u=>exact I.after c
  | next=>exact False.elim c
  | brk=>exact False.elim c
  | cont=>exact False.elim c
def WM(F:FnOk X.prog X.w X.K X.mg X.base CX k f fd ps sp)(hr:Room k X.A)(hg:Gl X x)(hm:X.mg x=some (.ref f))(hk:PySem.W.keepIn X.K (.ref f)=true)(hb:Binds X.K fd ps ds)(hd:Vals dvs ds)(hx:Passes CX X E)
  (ha:PA X (e::es) t) (J:(x == ("__debug__" : Str))=false<|>δ) (he:starEach (e::es) X.env=(false,eval e X.env)::starEach es X.env<|>η) (U:((backTo pos<|starEach es X.env).any (·.1)=false)<|>η) :
  PE X (.Call (.Name x p) (e::es) [] pos) (Yz sp dvs E t):=by
 w_up;refine ja<|KI I hg hm ?_ J;refine PySem.W.callWith_K (h₀:=X.base) I.ok.mod.kin hk (ng (ha pos pins s σ H _ I h) λus d ⟨c,H1,I1,r,q⟩=>⟨I1.E4,?_⟩) he U;exact Ze F hr hb hd hx I1 r q
end
section
variable {fd:FuncData}{ps ks:ar}
end
structure FnScope (N P:ar)(sc:Scope):Prop where
 kind:sc.kind=.function
 co:sc.isCoroutine=false
 gen:sc.isGenerator=false
 nd:N.Nodup
 pre:N.take P.length=P
 par:∀x∈P,sc.names.lookup x=some .local\/sc.names.lookup x=some .cell
 nofree:∀y∈sc.names,y.2≠.free
theorem C1{J:Str->Option NameKind}{x:Str}:∀{binds:List<|Str×af}{m:Str->bb},(∀v,(x,v)∉binds)->bindL J binds m x=m x
 | [],_,_=>rfl
 | (n,v)::r,m,h=>by
  unfold bindL;rw[C1 λw hw=>h w<|aN _ hw];split
  ·have:x≠n:=by rintro rfl;exact h v aL
   simp[this]
  ·rfl
theorem CV{J:Str->Option NameKind}{x:Str}:∀{binds:List<|Str×af}{m:Str->bb},(∀v,(x,v)∉binds)->bindC J binds m x=m x
 | [],_,_=>rfl
 | (n,v)::r,m,h=>by
  unfold bindC;rw[CV λw hw=>h w<|aN _ hw];split
  ·rfl
  ·have:x≠n:=by rintro rfl;exact h v aL
   simp[this]
theorem CZ{J:Str->Option NameKind}{x:Str}{v:af}:∀{P:ar}{vs:ax}{i:Nat}{m:Str->bb},P.Nodup->P[i]?=some x->vs[i]?=some v->J x=some .local ->
  bindL J (P.zip vs) m x=some v
 | [],_,_,_,_,h,_,_=>by simp at h
 | _::_,[],_,_,_,_,h,_=>by simp at h
 | p::P,w::vs,0,m,nd,h1,h2,hk=>by
  simp at h1 h2;subst h1;subst h2;show bindL J ((p,w)::P.zip vs) m p=_;unfold bindL;rw[C1 λv hv=>(cN.mp nd).1 (jH hv).1,aJ hk];simp
 | p::P,w::vs,i+1,m,nd,h1,h2,hk=>by
  skip
  unfold bindL;exact CZ (i:=i) (cN.mp nd).2 (by simpa using h1) (by simpa using h2) hk
theorem Dj{J:Str->Option NameKind}{x:Str}{v:af}:∀{P:ar}{vs:ax}{i:Nat}{m:Str->bb},P.Nodup->P[i]?=some x->vs[i]?=some v->J x≠some .local ->
  bindC J (P.zip vs) m x=some v
 | [],_,_,_,_,h,_,_=>by simp at h
 | _::_,[],_,_,_,_,h,_=>by simp at h
 | p::P,w::vs,0,m,nd,h1,h2,hk=>by
  simp at h1 h2;subst h1;subst h2;show bindC J ((p,w)::P.zip vs) m p=_;unfold bindC;rw[CV λv hv=>(cN.mp nd).1 (jH hv).1,aI hk];simp
 | p::P,w::vs,i+1,m,nd,h1,h2,hk=>by
  skip
  unfold bindC;exact Dj (i:=i) (cN.mp nd).2 (by simpa using h1) (by simpa using h2) hk
abbrev start (N:ar)(vs:List V):St:=vs.map some++List.replicate (N.length-vs.length) none
abbrev Iu (CX:UU)(P:aj)(w:ah)(K:au)(mg:Str->bb)(base:aq)(N:ar)(J:Str)(scope:Scope)(f:ak)(U:af)(A:ay)(outer:List Env)(s:az)(H:Hp)(E:XK):Cx where
 prog:=P
 w:=w
 K:=K
 mg:=mg
 base:=base
 A:=A.deeper (envOfC J scope s.heap.objs.size f U)
 N:=N
 s₀:=s
 H₀:=H
 env:=envOfC J scope s.heap.objs.size f U
 outer:=outer
 stack:=envOfC J scope s.heap.objs.size f U::outer
 ex:=[]
 calm:=true
 fn:=λ_=>true
 pn:=[]
 xe:=λe s'=>wpAny (model P w) (A.deeper<|envOfC J scope s.heap.objs.size f U) (leaving (envOfC J scope s.heap.objs.size f U) e) (λ_ c=>CX outer H s E e c) (λd c=>CX outer H s E d c) s'
def GR{J:Scope}{n:Nat}{x:Str}(h:J.names.lookup x=some .cell):∃c,(cellsFrom n J.names []).lookup x=some c:=by
 have q:=PySem.W.cellsFrom_some J.names n []<|.inl h;exact fG.mp q
def Oa{CX:UU}{P:aj}{w:ah}{K:au}{mg:Str->bb}{base:aq}{N ps:ar}{scope:Scope}{f:ak}{A:ay}{outer:List Env}{s:az}{H:Hp}{E:XK}{vs:List V}
  (S:FnScope N ps scope) (U:A.handled=none) (e0:Env0 P w K mg base A outer s H) (hl:vs.length=ps.length) (r:Vals vs us)
  (x:InCallC s s.heap.objs.size (bindL (envOfC qual scope s.heap.objs.size f cd).kindOf (ps.zip us) λ_=>none) (cellsFrom (s.heap.objs.size+1) scope.names []) (bindC (envOfC qual scope s.heap.objs.size f cd).kindOf (ps.zip us) λ_=>none) s1) :
  Inv (Iu CX P w K mg base N qual scope f cd A outer s H E) [] (start N vs) H s1:=by
 have J:ps.length<=N.length:=by have:=dY List.length S.pre;rw[bI]at this;lia
 obtain⟨h1,L,rfl,B⟩:=x.done;have d:∀b:ak,b∉(Iu CX P w K mg base N qual scope f cd A outer s H E).ex:=λb z=>absurd (show b∈([]:ba)from z) (by simp);refine⟨⟨e0.mod,S.kind,rfl,rfl,aO _,λy z c h1 h2=>?_,λy g=>?_,λy c _ h=>?_,λ_=>U,Around.frames_deeper e0.frames,.inr ⟨rfl,rfl⟩,λb z=>absurd z<|d b,e0.bs,e0.bsz,λb _ _=>d b,λb z=>absurd z<|d b,e0.Bb,e0.frf⟩,
  rfl,e0.bare,Un.kept B,⟨_,x.toInCall.ns,λi y v h1 h2 h3=>?_⟩,λy c h=>⟨_,x.cell y c h⟩,e0.hok.fresh<|aO _,λy c h=>?_,λp j=>absurd (show p∈([]:bo)from j)<|by simp,e0.hok.kept B,?_⟩
 ·exact name_of_addr x.apart (fK h1) (fK h2)
 ·have g:scope.names.lookup y=some .cell\/scope.names.lookup y=some .free:=g
  rcases g with g|g
  ·exact GR g
  ·exact absurd rfl<|S.nofree _<|fK g
 ·exact i9 (x.above y c<|fK h)
 ·have hi:i<vs.length:=by
   unfold start at h2;by_cases hi:i<vs.length
   ·exact hi
   ·rw[gh<|by simpa using hi]at h2;rw[List.getElem?_replicate]at h2;split at h2<;>cases h2
  have F:vs[i]?=some v:=by
   unfold start at h2;rw[bE<|by simpa using hi,aQ]at h2
   cases e:vs[i]? with
   | none=>rw[e]at h2;cases h2
   | some a=>rw[e]at h2;cases h2;rfl
  obtain⟨u,C,G⟩:=r.get F;have j:ps[i]?=some y:=by
   rw[<- S.pre,dN ()];exact h1
  have m:ps.Nodup:=by rw[<- S.pre];exact S.nd.sublist (List.take_sublist _ _)
  refine⟨u,G,?_⟩
  rcases S.par y (aX j)with k|k
  ·exact .inl ⟨k,CZ m j C k⟩
  ·obtain⟨c,e⟩:=GR (n:=s.heap.objs.size+1) k;refine .inr ⟨.inl k,c,e,?_⟩;have q:=x.cell y c e;rw[Dj m j C<|by show scope.names.lookup y≠_;rw[k];decide]at q;exact q
 ·exact e0.hok.fresh (i9<|x.above y c<|fK h)
 ·unfold start;show _=N.length;rw[bg,aG,List.length_replicate]
  lia
def acU{CX:UU}{P:aj}{w:ah}{K:au}{mg:Str->bb}{base:aq}{k:Nat}{f:ak}{kV pm ct:af}
  {osl:Array<|bb} {N ps:ar} {sp:Sp} (lk:K.lookup f=some ⟨oc,od,.func<|PySem.W.fnOf name qual params body scope dV kV doc pm an cdv ct,osl⟩) (hcd:PySem.W.codeIn K cdv qual=true) (S:FnScope N ps scope)
  (len:∀vs H Q E,sp vs H Q E->vs.length=ps.length)
  (hbody:∀(A:ay) (outer:List Env) (s:az) (H:Hp) (vs:List V) (Q:VK) (E:XK),Room k (A.deeper<|envOfC qual scope s.heap.objs.size f cdv)->sp vs H Q E ->
   ∃t,Fj (Iu CX P w K mg base N qual scope f cdv A outer s H E) body t/\t { nx:=λ_ H'=>Q .non H',rt:=Q } (start N vs) H) :
  FnOk P w K mg base CX (k+1) f (PySem.W.fnOf name qual params body scope dV kV doc pm an cdv ct) ps sp:=by
 refine⟨len,λA outer s H B us vs Q E p e0 T r g=>?_⟩;have O:=len _ _ _ _ g;have F:K.In s.heap:=e0.mod.kin.keeps λb o e=>(e0.bs b o e).1;have j:s.heap.NoLimit:=e0.mod.nolimit.keeps λb o e=>(e0.bs b o e).1;have d:∀y∈ps.zip us,scope.names.lookup y.1=some .local\/(scope.names.lookup y.1=some .cell/\((cellsFrom (s.heap.objs.size+1) scope.names []).lookup y.1).isSome=true):=λ⟨n,v⟩ M=>by
  rcases S.par n (jH M).1 with q|q
  ·exact .inl q
  ·exact .inr ⟨q,PySem.W.cellsFrom_some _ _ _<|.inl q⟩
 refine codeAny_call_function p.depth (F _ _ lk) rfl S.co S.gen rfl (PySem.W.codeRec_of F hcd)<|T _ _ _ _ ?_;refine wpAny_newFunctionEnv_cells S.kind d λY G C x=>?_;subst G;refine⟨j.keeps x.toInCall.keep,codeAny_func ?_⟩;obtain⟨t,U,L⟩:=hbody A outer s H vs Q E (p.deeper _) g;have I:Inv (Iu CX P w K mg base N qual scope f cdv A outer s H E) [] (start N vs) H C:=Oa S p.hd e0 O r x;refine gM (U [] C (start N vs) H _ I L) (λfl s' hs=>?_) λe s' hs=>hs;have fin:∀{c:St} {H':Hp} {v:V} {u:af},Inv (Iu CX P w K mg base N qual scope f cdv A outer s H E) [] c H' s'->RelV v u->Q v H'->CE outer P w H s Q u s':=
  λ{c H' v u} J m q=>⟨v,H',J.os,J.bare,J.base,J.hok,m,q⟩
 cases fl with
 | ret u=>
  obtain⟨v,c,H',J,m,q⟩:=hs;exact fin J m q
 | next=>
  obtain⟨c,H',J,q⟩:=hs;exact fin (v:=V.non) (u:=Value.none) J rfl q
 | brk=>
  obtain⟨_,_,_,q⟩:=hs;exact False.elim q
 | cont=>
  obtain⟨_,_,_,q⟩:=hs;exact False.elim q
section
variable {X:Cx}{x:Str}{p pos:Pos}{e:aA}{es:List aA}{t:TA}{id T:String}{r:List V->Hp->VK->Prop}
abbrev tCB (r:List V->Hp->VK->Prop)(t:TA):TE:=λσ H Q=>t σ H λc H1=>r c H1 Q
def O9(hc:kJ X (.builtin id) r)(hg:Gl X x)(hm:X.mg x=none)(hv:bootBuiltins x=some (.builtin id))(ha:PA X (e::es) t)(hn:x ≠ "__name__"<|>δ)(J:(x == ("__debug__" : Str))=false<|>δ)
  (he:starEach (e::es) X.env=(false,eval e X.env)::starEach es X.env<|>η) (U:((backTo pos<|starEach es X.env).any (·.1)=false)<|>η):PE X (.Call (.Name x p) (e::es) [] pos) (tCB r t):=by
 w_up;refine ja<|A2 I hg hm hv ?_ hn J;exact PyProof.Rows.callWith_builtin1 (ng (ha pos pins s σ H _ I h) λus f ⟨c,H1,g,r1,d⟩=>hc pins f σ H1 c us Q g r1 d) he U
def OH(hc:kJ X (.type T) r)(hg:Gl X x)(hm:X.mg x=none)(hv:bootBuiltins x=some (.type T))(ha:PA X (e::es) t)(hn:x ≠ "__name__"<|>δ)(J:(x == ("__debug__" : Str))=false<|>δ)
  (he:starEach (e::es) X.env=(false,eval e X.env)::starEach es X.env<|>η) (U:((backTo pos<|starEach es X.env).any (·.1)=false)<|>η):PE X (.Call (.Name x p) (e::es) [] pos) (tCB r t):=by
 w_up;refine ja<|A2 I hg hm hv ?_ hn J;exact gc (ng (ha pos pins s σ H _ I h) λus f ⟨c,H1,g,r1,d⟩=>hc pins f σ H1 c us Q g r1 d) he U
end
end L2
namespace HT
open PySem PyProof.Rows
abbrev lexLt:ag->ag->Bool
 | [],[]=>false
 | [],_::_=>true
 | _::_,[]=>false
 | x::xs,y::ys=>if x=y then lexLt xs ys else decide (x<y)
def uC(x y:Int)(xs ys:ag):lexLt (x::xs) (y::ys)=if x=y then lexLt xs ys else decide (x<y):=rfl
def sD:lexLt [] []=false:=rfl
def o_(y:Int)(ys:ag):lexLt [] (y::ys)=true:=rfl
theorem rf(x:Int)(xs:ag):lexLt (x::xs) []=false:=rfl
section
variable {prog:aj}{w:ah}{A:ay}{E:af->az->Prop}{s:az}
def WR{t b:ak}{vs ws:ax}{Q:af->az->Prop}(J:IsTup s.heap t vs.toArray)(U:IsTup s.heap b ws.toArray)(hv:vs≠[])
  (h1:ws=[]->Q (.ref t) s) (h2:ws≠[]->Q (.ref s.heap.objs.size) { s with heap:=s.heap.push { cls:=.type "tuple",data:=.seq (vs++ws).toArray }})
  (hsz:vs.length+ws.length<=sizeLine):wpAny (model prog w) A (binaryOp .Add (.ref t)<|.ref b) Q E s:=by
 obtain⟨⟨cls,p,data,C⟩,k,hc,n,F⟩:=id J;obtain⟨⟨q,g,m,d⟩,c,f,B,j⟩:=id U;simp only at hc F f j;subst hc F f j;have e:vs.toArray++ws.toArray=(vs++ws).toArray:=by simp
 by_cases hw:ws=[]
 ·exact concat_meets ⟨_,k,rfl⟩ ⟨_,c,rfl⟩ noFill_tuple_add seq_tuple_add gZ gU (gG _ _)
   (tuple_addW1 t b vs.toArray ws.toArray n B p g C d (by simpa using hv)<|by simp[hw]) ⟨k,c,h1 hw⟩
 ·refine concat_meets ⟨_,k,rfl⟩ ⟨_,c,rfl⟩ noFill_tuple_add seq_tuple_add gZ gU (gG _ _)
   (tuple_addW2 t b vs.toArray ws.toArray n B p g C d (by simpa using hv) (by simpa using hw)<|by rw[aZ,aZ];exact hsz) ⟨k,c,?_⟩
  rw[e];exact h2 hw
abbrev oY (n d:Nat):bi->Nat
 | none=>d
 | some v=>if v<0 then(v+(n:Int)).toNat else min v.toNat n
def HL(n d:Nat):oY n d none=d:=rfl
def AA(n d k:Nat):oY n d (some (k:Int))=min k n:=by
 show(if (k:Int)<0 then((k:Int)+(n:Int)).toNat else min (k:Int).toNat n)=min k n;rw[aI (),eL]
def aan(n d:Nat)(J:d<=n)(o:bi):oY n d o<=n:=by
 cases o with
 | none=>exact J
 | some v=>
  show(if v<0 then(v+(n:Int)).toNat else min v.toNat n)<=n;by_cases hv:v<0
  ·rw[aJ hv];lia
  ·rw[aI hv];exact Nat.min_le_right _ _
def MN(v:Int)(n d:Nat):(if v<0 then max (v+(n:Int)) 0 else min v (n:Int))=((oY n d (some v):Nat):Int):=by
 show(if v<0 then max (v+(n:Int)) 0 else min v (n:Int))=(((if v<0 then(v+(n:Int)).toNat else min v.toNat n):Nat):Int);by_cases hv:v<0
 ·dsimp[aJ hv];lia
 ·dsimp[aI hv];lia
def IG(lo hi:bi)(n:Nat):Builtin.Slice.sliceAdjust lo hi 1 (n:Int)=(((oY n 0 lo:Nat):Int),((oY n n hi:Nat):Int)):=by
 have h1:¬((1:Int)<0):=()
 unfold Builtin.Slice.sliceAdjust;dsimp[h1,cG];refine Prod.ext ?_ ?_
 ·cases lo with
  | none=>rfl
  | some v=>exact MN v n 0
 ·cases hi with
  | none=>rfl
  | some v=>exact MN v n n
def JU(i j:Nat):Builtin.Slice.slicePlaces (i:Int) (j:Int) 1=j-i:=by
 unfold Builtin.Slice.slicePlaces;have h1:(1:Int)>0:=()
 dsimp[h1,dj,Int.ediv_one];split<;>lia
def BE{v:af}{Q:bi->az->Prop}(p:IsPart v o)(h:Q o s):wpAny (model prog w) A (Builtin.Slice.slicePartIndex v) Q E s:=by
 cases p with
 | none=>exact slicePart_none h
 | int i t=>exact slicePart_int h
def zj{lo hi:bi}{n:Nat}{Q:Int×Int×Nat->az->Prop}(hs:s.heap.IsSliceOf sl vl vu .none)(pl:IsPart vl lo)(J:IsPart vu hi)
  (h:Q (((oY n 0 lo:Nat):Int),1,oY n n hi-oY n 0 lo) s):wpAny (model prog w) A (Builtin.Slice.sliceApplied (.ref sl)<|pure (n:Int)) Q E s:=by
 obtain⟨f,d,e,c⟩:=id hs;unfold Builtin.Slice.sliceApplied Builtin.Slice.sliceFields;refine aH<|aH<|iQ d c (x:=vl) rfl<|aH<|iQ d c (x:=vu) rfl<|aH<|iQ d c (x:=.none) rfl<|aV ?_;refine aH (slicePart_none ?_)
 skip
 rw[aI ⋯];refine aH<|BE pl<|aH<|BE J<|aH<|aV ?_;show wpAny _ _ (match Builtin.Slice.sliceAdjust lo hi 1 (n:Int)with|(lo,hi)=>pure (lo,(1:Int),Builtin.Slice.slicePlaces lo hi 1)) _ _ s;rw[IG lo hi n];show wpAny _ _ (pure (((oY n 0 lo:Nat):Int),(1:Int),Builtin.Slice.slicePlaces ((oY n 0 lo:Nat):Int) ((oY n n hi:Nat):Int) 1)) _ _ s;rw[JU];exact aV h
def Pe(xs:Array af)(i k:Nat):((List.range k).filterMap λ(m:Nat)=>xs[((i:Int)+(m:Int) * 1).toNat]?).toArray=((xs.toList.drop i).take k).toArray:=by
 have e:(λ(m:Nat)=>xs[((i:Int)+(m:Int) * 1).toNat]?)=λm=>xs[i+m]?:=by
  funext m
  have:((i:Int)+(m:Int) * 1).toNat=i+m:=()
  rw[this]
 rw[e];have:=pick_run xs i k;rw[jb]at this;have e2:((λx=>xs[x]?) ∘ λx=>i+x)=λm=>xs[i+m]?:=rfl;rw[e2]at this;rw[this]
def yj{t:ak}{J:Array af}{lo hi:bi}{Q:af->az->Prop}(U:IsTup s.heap t J)(hs:s.heap.IsSliceOf sl vl vu .none)(pl:IsPart vl lo)(pu:IsPart vu hi)
  (hw:¬(oY J.size 0 lo=0/\oY J.size J.size hi=J.size))
  (h:Q (.ref s.heap.objs.size) { s with heap:=s.heap.push { cls:=.type "tuple",data:=.seq ((J.toList.drop<|oY J.size 0 lo).take<|oY J.size J.size hi-oY J.size 0 lo).toArray }})
  (hsz:J.size<=sizeLine):wpAny (model prog w) A (getItem (.ref t)<|.ref sl) Q E s:=by
 have c:sizeOk (.seq ((J.toList.drop<|oY J.size 0 lo).take<|oY J.size J.size hi-oY J.size 0 lo).toArray):=by
  show((J.toList.drop<|oY J.size 0 lo).take<|oY J.size J.size hi-oY J.size 0 lo).toArray.size<=sizeLine;rw[aZ,bI,dU,dI];omega
 have B:oY J.size J.size hi<=J.size:=aan _ _ (aO _) hi;obtain⟨k,g,e,j⟩:=id hs;have f:s.TypeIs (.ref sl) "slice" := ⟨k,g,e⟩;unfold getItem
 try with_reducible refine dc ?_
 first|refine aH (aV ?_)|skip
 refine aH<|wpAny_sequenceKey U.typeIs ⋯ ?_;refine aH (fM (name:=Str.ofString "__getitem__") U.typeIs cR
  (eg cR U.typeIs entry_tuple_getitem ?_<|args_tuple_getitem _ _))
 show wpAny _ _ (Builtin.Tuple.tupleItemsOf (.ref t) >>= _) _ _ s;refine aH<|tupleItemsOf_ U ?_;refine aH<|fS f ?_;rw[aJ ⋯];refine aH<|zj hs pl pu ?_;have d:¬((((oY J.size 0 lo:Nat):Int) == 0 && (1:Int) == 1 && (oY J.size J.size hi-oY J.size 0 lo) == J.size)=true):=by
  intro q;rw[b_,b_]at q;have C:((oY J.size 0 lo:Nat):Int)=0:=eq_of_beq q.1.1;have p:oY J.size J.size hi-oY J.size 0 lo=J.size:=eq_of_beq q.2;exact hw ⟨by omega,by omega⟩
 show wpAny _ _ (if (((oY J.size 0 lo:Nat):Int) == 0 && (1:Int) == 1 && (oY J.size J.size hi-oY J.size 0 lo) == J.size)=true then _ else _) _ _ s;rw[aI d,Pe]
 first
  | exact aH (m:=Builtin.Tuple.tupleExact _) (cu (aV ⟨_,rfl,aV h⟩) c)
  | exact aH (m:=Builtin.Tuple.tupleExact _) (cu (aH<|aV<|aV ⟨_,rfl,aV h⟩) c)
  | exact aH (aH (m:=Builtin.Tuple.tupleExact _)<|cu (aV<|aV ⟨_,rfl,aV h⟩) c)
  | exact aH<|aH (m:=Builtin.Tuple.tupleExact _)<|cu (aV ⟨_,rfl,aV h⟩) c
end
end HT
namespace L2
open PySem PySem.Spec PyProof.Rows
meta abbrev TO:=St->Hp->(bi->Hp->Prop)->Prop
abbrev PO (X:Cx)(e:Option aA)(t:TO):Prop:=
 ∀(pins:bo) (s:az) (σ:St) (H:Hp) (Q:bi->Hp->Prop),Inv X pins σ H s->t σ H Q ->
  wpAny (model X.prog X.w) X.A (evalPart e X.env) (λu s'=>∃o H',Inv X pins σ H' s'/\IsPart u o/\Q o H') X.xe s
abbrev VO:TO:=λ_ H Q=>Q none H
abbrev abH (t:TE):TO:=λσ H Q=>t σ H λx H1=>∃i,x=.int i/\Q (some i) H1
def intsAre_of{ns:ag}:∀{us:ax},Vals (ns.map V.int) us->IntsAre us ns:=by
 induction ns with
 | nil=>intro us r;rw[fV]at r;cases r;exact .nil
 | cons n ns c=>
  intro us r;rw[bH]at r
  cases r with
  | cons r1 r2=>
   obtain⟨t,e⟩:=r1;subst e;exact .cons n t<|c r2
section
variable {X:Cx}{e:aA}{te:TE}{lo hi:Option aA}{tl th:TO}{pos p2:Pos}
def WE:PO X none VO:=by
 w_up;rw[ju];exact aV ⟨none,H,I,.none,h⟩
def W0(h:PE X e te):PO X (some e) (abH te):=by
 intro pins s σ H Q I hw;rw[evalPart_some];refine ng (h pins s σ H _ I hw) λu f ⟨x,H1,d,r1,c⟩=>?_;obtain⟨i,rfl,q⟩:=c;obtain⟨t,rfl⟩:=r1;exact⟨some i,H1,d,.int i t,q⟩
abbrev SlR (X:Cx)(r:V->bi->bi->Hp->VK->Prop):Prop:=
 ∀(pins:bo) (s:az) (σ:St) (H:Hp) (x:V) (v c e:af) (lo hi:bi) (d:ak) (Q:VK),Inv X pins σ H s->RelV x v->s.heap.IsSliceOf d c e .none->IsPart c lo->IsPart e hi->r x lo hi H Q ->
  ∃T id,typeLookup (.type T) "__getitem__" = pure (some<|.builtin id)/\s.TypeIs v T/\wpAny (model X.prog X.w) X.A (getItem v<|.ref d) (EP X pins σ Q) X.xe s
abbrev tSl (r:V->bi->bi->Hp->VK->Prop)(te:TE)(tl th:TO):TE:=λσ H Q=>te σ H λx H1=>tl σ H1 λl H2=>th σ H2 λu H3=>r x l u H3 Q
def Sh{r:V->bi->bi->Hp->VK->Prop}(U:SlR X r)(he:PE X e te)(hl:PO X lo tl)(hu:PO X hi th):PE X (.Subscript e (.Slice lo hi none p2) pos) (tSl r te tl th):=by
 w_up;refine Subscript_<|ng (he pins s σ H _ I h) λv C ⟨x,H1,F,r1,g⟩=>?_;refine wpAny_Slice<|ng (hl pins C σ H1 _ F g) λf p ⟨l,H2,G,pl,B⟩=>ng (hu pins p σ H2 _ G B) λd c ⟨u,H3,m,j,k⟩=>?_;rw[ju];refine aV ?_;have J:Inv X pins σ H3 { c with heap:=c.heap.push { cls:=.type "slice",data:=.fields #[f,d,.none]}}:=m.kept (t':=c.toks) λb K q=>aR _ q;obtain⟨T,id,hT,ht,hg⟩:=U pins { c with heap:=c.heap.push { cls:=.type "slice",data:=.fields #[f,d,.none]}} σ H3 x v f d l u c.heap.objs.size Q J r1 (jc ..) pl j k
 skip
 exact tail_any (ops:=[.ref c.heap.objs.size,v]) ht hT hg<|by with_unfolding_all rfl
abbrev HP (xs:List V)(lo hi:bi):List V:=(xs.drop<|HT.oY xs.length 0 lo).take<|HT.oY xs.length xs.length hi-HT.oY xs.length 0 lo
def zF(xs:List V)(lo hi:bi):(HP xs lo hi).length<=xs.length:=by
 unfold HP;rw[bI,dU]
 lia
abbrev aee (K:au):V->bi->bi->Hp->VK->Prop:=λx lo hi H Q=>∃a xs,x=.ref a/\n_ K H a xs /\
 ¬(HT.oY xs.length 0 lo=0/\HT.oY xs.length xs.length hi=xs.length)/\∀p,H p=none->Q (.ref p) (upd H p<|.tup<|HP xs lo hi)
def YV:SlR X (aee X.K):=by
 intro pins s σ H x v k j lo hi p Q I rx hs pl f h;obtain⟨a,xs,rfl,g,hw,q⟩:=h
 cases rx
 obtain⟨its,r,d,e⟩:=I.tuple g;have c:its.toArray.size=xs.length:=by rw[aZ];exact r.length.symm
 refine⟨"tuple",_,cR.lookup,d.typeIs,?_⟩;refine HT.yj d hs pl f (by rw[c];exact hw) ?_ (by rw[c];exact e);rw[c];refine⟨.ref s.heap.objs.size,_,I.laid (t':=s.toks) (o:=.tup<|HP xs lo hi) (λb m q=>aR _ q) (aO _) ?_,rfl,q _<|I.hok.fresh<|aO _⟩;exact⟨bD (zF xs lo hi) e,_,(r.drop<|HT.oY xs.length 0 lo).take<|HT.oY xs.length xs.length hi-HT.oY xs.length 0 lo,p_.new _ _⟩
abbrev acu (K:au):R2:=λx y H Q=>∃a b xs ys,x=.ref a/\y=.ref b/\n_ K H a xs/\n_ K H b ys/\xs≠[]/\xs.length+ys.length<=sizeLine /\
 (ys=[]->Q (.ref a) H)/\(ys≠[]->∀p,H p=none->Q (.ref p) (upd H p<|.tup<|xs++ys))
def Vals.EF(r:Vals xs us):us=[] ↔ xs=[]:=by
 cases r with
 | nil=>simp
 | cons _ _=>simp
def Ve:pR X (binaryOp .Add) (acu X.K):=by
 kd_p;obtain⟨a,b,xs,ys,rfl,rfl,f,k,g,c,e,j⟩:=h
 cases rx
 cases ry
 obtain⟨its,r1,p1,_⟩:=I.tuple f;obtain⟨d,r2,p2,_⟩:=I.tuple k;refine HT.WR p1 p2 (λz=>g<|r1.EF.mp z) (λz=>⟨.ref a,H,I,rfl,e<|r2.EF.mp z⟩) (λz=>?_) (by rw[<- r1.length,<- r2.length];exact c);refine⟨.ref s.heap.objs.size,_,I.laid (t':=s.toks) (o:=.tup<|xs++ys) (λb m q=>aR _ q) (aO _) ?_,rfl,j (λw=>z<|r2.EF.mpr w) _<|I.hok.fresh<|aO _⟩;exact⟨by rw[bg];exact c,_,r1.append r2,p_.new _ _⟩
end
abbrev FY (n:Nat)(i:Int):bn:=if 0<=i then(if i<n then some i.toNat else none)else if -(n:Int)<=i then some (i+n).toNat else none
abbrev sQ {α:Type}(xs:List α)(i:Int):Option α:=(FY xs.length i).bind λj=>xs[j]?
def Ke{n:Nat}{i:Int}(h:FY n i=some j):seqIndex? i n=some j/\j<n/\-(n:Int)<=i/\i<n:=by
 unfold FY at h;by_cases h0:0<=i
 ·rw[aJ h0]at h;by_cases h1:i<n
  ·rw[aJ h1]at h;have e:i.toNat=j:=bz h;exact⟨by rw[seqIndex_of h0 h1,e],(),(),h1⟩
  ·rw[aI h1]at h;cases h
 ·rw[aI h0]at h;by_cases h1:-(n:Int)<=i
  ·rw[aJ h1]at h;have e:(i+n).toNat=j:=bz h;exact⟨by rw[seqIndex_neg () h1,e],(),h1,()⟩
  ·rw[aI h1]at h;cases h
def EU{α:Type}{xs:List α}{i:Int}{v:α}(h:sQ xs i=some v):∃j,seqIndex? i xs.length=some j/\xs[j]?=some v/\j<xs.length/\-(xs.length:Int)<=i/\i<xs.length:=by
 unfold sQ at h
 cases e:FY xs.length i with
 | none=>rw[e]at h;cases h
 | some j=>
  rw[e]at h;obtain⟨h1,h2,h3,c⟩:=Ke e;exact⟨j,h1,h,h2,h3,c⟩
def Vp{α:Type}{xs:List α}{j:Nat}{v:α}(h:xs[j]?=some v):sQ xs (j:Int)=some v:=by
 have c:j<xs.length:=(aF.mp h).1;have e:FY xs.length (j:Int)=some j:=by
  unfold FY;rw[aJ (),aJ ()];simp
 unfold sQ;rw[e];exact h
def HF{α:Type}(xs:List α)(v:α):sQ (xs++[v]) (-1)=some v:=by
 have c:(xs++[v]).length=xs.length+1:=by simp
 have e:FY (xs++[v]).length (-1)=some xs.length:=by
  unfold FY;rw[c,aI ⋯,aJ ()];congr 1
  lia
 unfold sQ;rw[e]
 skip
 simp
abbrev wj (b:aA):Prop:=∀o i,subscripted b false o i=operate [o,i] (getItem o i)
abbrev UY (X:Cx)(r:R2):Prop:=
 ∀(d c:aA) (pins:bo) (s:az) (σ:St) (H:Hp) (x y:V) (v u:af) (Q:VK),Inv X pins σ H s->RelV x v->RelV y u->r x y H Q ->
  subscripted c false v u=operate [v,u] (getItem v u)->wpAny (model X.prog X.w) X.A (subscriptTail d c v u) (EP X pins σ Q) X.xe s
abbrev Ja (X:Cx)(id:String)(r:V->List V->Hp->VK->Prop):Prop:=
 ∀(pins:bo) (s:az) (σ:St) (H:Hp) (x:V) (xs:List V) (v:af) (us:ax) (Q:VK),Inv X pins σ H s->RelV x v->Vals xs us->r x xs H Q ->
  wpAny (model X.prog X.w) X.A (call (.builtin id) (v::us)) (EP X pins σ Q) X.xe s
section
variable {X:Cx}{a b:aA}{ta tb:TE}{pos:Pos}
def G7{r:R2}(J:UY X r)(U:PE X a ta)(hb:PE X b tb)(hs:wj b):PE X (.Subscript a b pos) (tOp r ta tb):=by
 w_up;exact Subscript_<|aay U hb I h λv u d x y H2 c rx ry q=>J a b pins d σ H2 x y v u Q c rx ry q<|hs _ _
abbrev aeg (K:au):R2:=λx y H Q=>∃p xs i v,x=.ref p/\y=.int i/\qt K H p xs/\sQ xs i=some v/\Q v H
abbrev ad2 (K:au):R2:=λx y H Q=>∃p xs i v,x=.ref p/\y=.int i/\n_ K H p xs/\sQ xs i=some v/\Q v H
abbrev adR:R2:=λx y H Q=>∃z i c,x=.str z/\y=.int i/\z.length<=sizeLine/\sQ z.cps.toList i=some c/\Q (.str ⟨#[c]⟩) H
def Ko:UY X (aeg X.K):=by
 intro f c pins s σ H x y v u Q I rx ry h hs;obtain⟨p,xs,i,z,rfl,rfl,m,k,q⟩:=h
 cases rx
 obtain⟨t,rfl⟩:=ry;obtain⟨its,r,pl,G⟩:=I.list m;obtain⟨j,h1,h2,h3,F,B⟩:=EU k;obtain⟨w,g,e⟩:=r.get h2;have C:=r.length;have hn:=wZ;have fin:EP X pins σ Q w s:=⟨z,H,I,e,q⟩;by_cases h0:0<=i
 ·have d:i.toNat=j:=by
   rw[seqIndex_of h0 B]at h1;exact bz h1
  exact item_listR pl.isList h0 () (by rw[d];simpa using g) fin hs
 ·have d:(i+(its.toArray.size:Int)).toNat=j:=by
   rw[seqIndex_neg () F]at h1;rw[aZ,<- C];exact bz h1
  exact subscriptTail_builtinR (x:=w) pl.isList.typeIs jl.lookup
   (wpAny_getItem_list_neg (Q:=λr s'=>r=w/\EP X pins σ Q r s') pl.isList () (by rw[aZ]<;>lia) () (by rw[d];simpa using g) ⟨rfl,fin⟩) hs
def aak:UY X (ad2 X.K):=by
 intro e c pins s σ H x y v u Q I rx ry h hs;obtain⟨p,xs,i,z,rfl,rfl,k,g,q⟩:=h
 cases rx
 obtain⟨t,rfl⟩:=ry;obtain⟨its,r,pl,C⟩:=I.tuple k;obtain⟨j,h1,h2,h3,F,B⟩:=EU g;obtain⟨w,f,d⟩:=r.get h2;have m:=r.length;have hn:=wZ;have fin:EP X pins σ Q w s:=⟨z,H,I,d,q⟩;exact subscriptTail_builtinR (x:=w) pl.typeIs slot_tuple_getitem.lookup
  (getItem_tuple (j:=j) (Q:=λr s'=>r=w/\EP X pins σ Q r s') pl () () (by rw[aZ,<- m];exact h1) (by simpa using f) ⟨rfl,fin⟩) hs
def aau:UY X adR:=by
 intro e d pins s σ H x y v u Q I rx ry h hs;obtain⟨z,i,c,rfl,rfl,p,f,q⟩:=h;kst_p;obtain⟨B,rfl⟩:=ry;obtain⟨j,h1,h2,h3,m,g⟩:=EU f;have k:z.cps.toList.length=z.length:=by simp[Str.length]
 rw[k]at h1 m g;have hn:=wZ;exact tail_any (typeIs_str s z t) slot_str_getitem.lookup (getItem_str (c:=c) (by
  have e1:decide (i < -(2 ^ 63:Int))=false:=bq ();have e2:decide (i>=2 ^ 63)=false:=bq ();rw[e1,e2,Bool.or_false]) (by rw[h1];simpa using h2) ⟨.str ⟨#[c]⟩,H,I.tok _,⟨_,rfl⟩,q⟩) hs
def IS(its:ax)(n j:Nat)(u:af):Obj.mapSeq (·.setIfInBounds j u) { cls:=.type "list",data:=.seq its.toArray n }={ cls:=.type "list",data:=.seq (its.set j u).toArray n }:=by
 simp[Obj.mapSeq]
def Inv.lst{H:Hp}{s:az}{p:ak}{xs:List V}(I:Inv X pins σ H s)(h:H p=some (.lst xs)) :
  ∃(its:ax) (n:Nat),Vals xs its/\s.heap.get? p=some { cls:=.type "list",data:=.seq its.toArray n }/\xs.length<=sizeLine:=by
 obtain⟨z,its,n,r,e⟩:=I.hok p _ h;exact⟨its,n,r,e,z⟩
def Inv.Zr{H:Hp}{s:az}{p:ak}{ys:List V}{its its':ax}{n:Nat}{f:Obj->Obj}(I:Inv X pins σ H s)(h:H p=some (.lst xs))
  (J:s.heap.get? p=some { cls:=.type "list",data:=.seq its.toArray n }) (hf:f { cls:=.type "list",data:=.seq its.toArray n }={ cls:=.type "list",data:=.seq its'.toArray n' }) (r:Vals ys its') (U:ys.length<=sizeLine) (t:Nat) :
  Inv X pins σ (upd H p<|.lst ys) { s with heap:=s.heap.update p f,toks:=t }:=by
 have e:(s.heap.update p f).get? p=some { cls:=.type "list",data:=.seq its'.toArray n' }:=by
  rw[Heap.get?_update_self f J<|by rw[hf]<;>rfl,hf]
 refine I.write (x:=p) (e:=p) (by rw[h];trivial) (.inl rfl) (λb u c q=>(Heap.get?_update_other _ _<|di c).trans q) ⟨_,e⟩ ?_;exact⟨U,its',n',r,e⟩
abbrev acp:V->V->V->Hp->(Hp->Prop)->Prop:=λo i v H Q=>∃p xs k j,o=.ref p/\i=.int k/\H p=some (.lst xs)/\FY xs.length k=some j/\Q (upd H p<|.lst<|xs.set j v)
def set_list:Oj X acp:=by
 intro pins s σ H o i v K iv u Q I B G C h;obtain⟨p,xs,k,j,rfl,rfl,f,F,q⟩:=h
 cases B
 obtain⟨t,rfl⟩:=G;obtain⟨its,n,r,e,J⟩:=I.lst f;obtain⟨h1,h2,h3,m⟩:=Ke F;have d:=r.length;have hn:=wZ;have g:Inv X pins σ (upd H p<|.lst<|xs.set j v) { s with heap:=s.heap.update p<|Obj.mapSeq (·.setIfInBounds j u)}:=
  I.Zr f e (IS its n j u) (r.set C j) (by rw[cE];exact J) s.toks
 by_cases h0:0<=k
 ·have c:k.toNat=j:=by
   rw[seqIndex_of h0 m]at h1;exact bz h1
  exact PySem.W.ki_setAt e h0 () (by rw[aZ,<- d];exact m)<|by rw[c];exact⟨_,g,q⟩
 ·have c:(k+(its.toArray.size:Int)).toNat=j:=by
   rw[seqIndex_neg () h3]at h1;rw[aZ,<- d];exact bz h1
  exact PySem.W.ki_setBack e () (by rw[aZ,<- d];exact h3) ()<|by rw[c];exact⟨_,g,q⟩
def Ef(lo hi:bi)(n:Nat):(sliceBounds lo hi none n).1=((HT.oY n 0 lo:Nat):Int)/\(sliceBounds lo hi none n).2.1=((HT.oY n n hi:Nat):Int)/\(sliceBounds lo hi none n).2.2=1:=by
 refine⟨?_,?_,rfl⟩
 ·cases lo with
  | none=>simp[sliceBounds,HT.oY]
  | some i=>
   dsimp[sliceBounds,HT.oY,getD_none,show(1:Int)>0 by decide,dj];by_cases h:i<0
   ·dsimp[h,dj]<;>lia
   ·dsimp[h,cG]<;>lia
 ·cases hi with
  | none=>simp[sliceBounds,HT.oY]
  | some i=>
   dsimp[sliceBounds,HT.oY,getD_none,show(1:Int)>0 by decide,dj];by_cases h:i<0
   ·dsimp[h,dj]<;>lia
   ·dsimp[h,cG]<;>lia
def CH(its:ax)(lo hi:bi):slicePick its.toArray lo hi none=((its.drop<|HT.oY its.length 0 lo).take<|HT.oY its.length its.length hi-HT.oY its.length 0 lo).toArray:=by
 obtain⟨h1,h2,h3⟩:=Ef lo hi its.toArray.size;unfold slicePick;rw[h1,h2,h3];dsimp[sliceRange_one,pick_run,aZ]<;>rfl
abbrev adZ (K:au):V->bi->bi->Hp->VK->Prop:=λx lo hi H Q=>∃a xs,x=.ref a/\qt K H a xs/\∀p,H p=none->Q (.ref p) (upd H p<|.lst<|HP xs lo hi)
def LV:SlR X (adZ X.K):=by
 intro pins s σ H x v k j lo hi p Q I rx hs pl e h;obtain⟨a,xs,rfl,f,q⟩:=h
 cases rx
 obtain⟨its,r,d,g⟩:=I.list f;have c:=r.length;refine⟨"list",_,jl.lookup,d.isList.typeIs,?_⟩;refine wpAny_getItem_list_slice d.isList hs pl e .none (by simp) ?_ (by rw[aZ]<;>lia);rw[CH,<- c];refine⟨.ref s.heap.objs.size,_,I.laid (t':=s.toks) (o:=.lst<|HP xs lo hi) (λb m q=>aR _ q) (aO _) ?_,rfl,q _<|I.hok.fresh<|aO _⟩;exact⟨bD (zF xs lo hi) g,_,0,(r.drop<|HT.oY xs.length 0 lo).take<|HT.oY xs.length xs.length hi-HT.oY xs.length 0 lo,bC _ rfl⟩
abbrev qY:V->Bool
 | .non=>true
 | .bl _=>true
 | .int _=>true
 | .str _=>true
 | _=>false
abbrev H_:V->V->Bool
 | .non,.non=>true
 | .bl a,.bl b=>a == b
 | .bl a,.int b=>(if a then 1 else 0) == b
 | .int a,.bl b=>a == (if b then 1 else 0)
 | .int a,.int b=>a == b
 | .str a,.str b=>a == b
 | _,_=>false
def aaE{A:ay}{x:V}{v:af}(ry:RelV y u)(rx:RelV x v)(U:qY y=true)(J:qY x=true):SeqAt.EqAt A s u v (H_ y x):=by
 cases y with
 | non=>
  cases ry
  cases x with
  | non=>cases rx;exact SeqAt.EqAt.same _
  | bl b=>cases rx;exact SeqAt.EqAt.none_bool b
  | int b=>obtain⟨t,rfl⟩:=rx;exact SeqAt.EqAt.none_int b t
  | str b=>obtain⟨t,rfl⟩:=rx;exact SeqAt.EqAt.none_str b t
  | _=>exact absurd (show false=true from J) bJ
 | bl a=>
  cases ry
  cases x with
  | non=>cases rx;exact SeqAt.EqAt.bool_none a
  | bl b=>cases rx;exact SeqAt.EqAt.bool_bool a b
  | int b=>obtain⟨t,rfl⟩:=rx;exact SeqAt.EqAt.bool_int a b t
  | str b=>obtain⟨t,rfl⟩:=rx;exact SeqAt.EqAt.bool_str a b t
  | _=>exact absurd (show false=true from J) bJ
 | int a=>
  obtain⟨c,rfl⟩:=ry
  cases x with
  | non=>cases rx;exact SeqAt.EqAt.int_none a c
  | bl b=>cases rx;exact SeqAt.EqAt.int_bool a c b
  | int b=>obtain⟨t,rfl⟩:=rx;exact SeqAt.EqAt.int_int a c b t
  | str b=>obtain⟨t,rfl⟩:=rx;exact SeqAt.EqAt.int_str a c b t
  | _=>exact absurd (show false=true from J) bJ
 | str a=>
  obtain⟨c,rfl⟩:=ry
  cases x with
  | non=>cases rx;exact SeqAt.EqAt.str_none a c
  | bl b=>cases rx;exact SeqAt.EqAt.str_bool a c b
  | int b=>obtain⟨t,rfl⟩:=rx;exact SeqAt.EqAt.str_int a c b t
  | str b=>obtain⟨t,rfl⟩:=rx;exact SeqAt.EqAt.str_str a c b t
  | _=>exact absurd (show false=true from J) bJ
 | _=>exact absurd (show false=true from U) bJ
abbrev D_ (x:V)(u:af):Bool:=match u with
 | .none=>H_ .non x
 | .bool b=>H_ (.bl b) x
 | .int i _=>H_ (.int i) x
 | .str z _=>H_ (.str z) x
 | _=>false
def EI{x:V}(r:RelV y u)(f:qY y=true):D_ x u=H_ y x:=by
 cases y with
 | non=>cases r;rfl
 | bl b=>cases r;rfl
 | int i=>obtain⟨t,rfl⟩:=r;rfl
 | str z=>obtain⟨t,rfl⟩:=r;rfl
 | _=>exact absurd (show false=true from f) bJ
theorem yy{x:V}:∀{xs:List V}{us:ax},Vals xs us->xs.all qY=true->us.any (D_ x)=xs.any λy=>H_ y x
 | _,_,.nil,_=>rfl
 | y::xs,u::us,.cons r t,f=>by
  rw[iN,b_]at f;rw[iO,iO,EI r f.1,yy t f.2]
theorem rO{A:ay}{x:V}{v:af}(rx:RelV x v)(J:qY x=true):∀{xs:List V}{us:ax},Vals xs us->xs.all qY=true->∀u∈us,SeqAt.EqAt A s u v (D_ x u)
 | _,_,.nil,_=>λu c=>by cases c
 | y::xs,u::us,.cons r t,f=>λd c=>by
  rw[iN,b_]at f
  rcases bG.mp c with rfl|c
  ·rw[EI r f.1];exact aaE r rx f.1 J
  ·exact rO rx J t f.2 d c
abbrev inV (x:V)(xs:List V):Bool:=xs.any λy=>H_ y x
abbrev rIn (K:au)(J:Bool):R2:=λx y H Q=>∃p xs,y=.ref p/\(qt K H p xs\/n_ K H p xs)/\qY x=true/\xs.all qY=true/\Q (.bl<|if J then !inV x xs else inV x xs) H
def N3:pR X (compareOp .In) (rIn X.K false):=by
 kd_p;obtain⟨p,xs,rfl,c,d,fs,q⟩:=h
 cases ry
 rcases c with c|c
 ·obtain⟨its,r,pl,e⟩:=I.list c;refine SeqAt.in_listAt (D_ x) pl.isList (λw hw=>rO rx d r fs w<|by simpa using hw) ⟨.bl _,H,I,rfl,?_⟩;mg_lt;exact q
 ·obtain⟨its,r,pl,e⟩:=I.tuple c;refine SeqAt.in_tupleAt (D_ x) pl (λw hw=>rO rx d r fs w<|by simpa using hw) ⟨.bl _,H,I,rfl,?_⟩;mg_lt;exact q
def EN:pR X (compareOp .NotIn) (rIn X.K true):=by
 kd_p;obtain⟨p,xs,rfl,c,d,fs,q⟩:=h
 cases ry
 rcases c with c|c
 ·obtain⟨its,r,pl,e⟩:=I.list c;refine SeqAt.notIn_listAt (D_ x) pl.isList (λw hw=>rO rx d r fs w<|by simpa using hw) ⟨.bl _,H,I,rfl,?_⟩;mg_lt;exact q
 ·obtain⟨its,r,pl,e⟩:=I.tuple c;refine SeqAt.notIn_tupleAt (D_ x) pl (λw hw=>rO rx d r fs w<|by simpa using hw) ⟨.bl _,H,I,rfl,?_⟩;mg_lt;exact q
def uw:kJ X (.type "list") (λxs H Q=>∃p ys,xs=[.ref p]/\(qt X.K H p ys\/n_ X.K H p ys)/\∀l,H l=none->Q (.ref l) (upd H l<|.lst ys)):=by
 x_go;obtain⟨p,ys,rfl,g,q⟩:=h;kcf_m
 cases rx
 have fin:∀(its:ax),Vals ys its->ys.length<=sizeLine->∀(h':aq) (c:Nat),(∀b o',s.heap.get? b=some o'->h'.get? b=some o') ->
   h'.get? s.heap.objs.size=some { cls:=.type "list",dict:=none,data:=.seq its.toArray c,slots:=#[]}->EP X pins σ Q (.ref s.heap.objs.size) { s with heap:=h' }:=λits d j h' c kp e=>
  ⟨.ref s.heap.objs.size,_,I.laid (t':=s.toks) kp (aO _)<|show lJ X.prog X.w _ h' _ (.lst ys)from⟨j,its,c,d,e⟩,rfl,q _<|I.hok.fresh<|aO _⟩
 rcases g with g|g
 ·obtain⟨its,d,pl,j⟩:=I.list g;have f:=d.length;obtain⟨o,k,hc,n,m⟩:=pl.isList;exact call_list_seq p (.inl rfl) k hc m (λh' c kp e=>fin its d j h' c kp e) (by dsimp[aZ]<;>lia)
 ·obtain⟨its,d,pl,j⟩:=I.tuple g;have f:=d.length;obtain⟨o,k,hc,n,m⟩:=pl;exact call_list_seq p (.inr rfl) k hc m (λh' c kp e=>fin its d j h' c kp e)<|by dsimp[aZ]<;>lia
theorem sL:kJ X (.type "tuple") (λxs H Q=>∃p ys,xs=[.ref p]/\((qt X.K H p ys/\∀l,H l=none->Q (.ref l) (upd H l<|.tup ys))\/(n_ X.K H p ys/\Q (.ref p) H))):=by
 x_go;obtain⟨p,ys,rfl,h⟩:=h;kcf_m
 cases rx
 rcases h with⟨c,q⟩|⟨c,q⟩
 ·obtain⟨its,d,pl,g⟩:=I.list c;have f:=d.length;refine call_tuple_list pl.isList (λh' kp=>?_) (by dsimp[aZ]<;>lia);have j:Inv X pins σ H { s with heap:=h' }:=I.kept (t':=s.toks) kp;have k:Inv X pins σ (upd H h'.objs.size<|.tup ys) { s with heap:=h'.push { cls:=.type "tuple",data:=.seq its.toArray }}:=
   j.laid (t':=s.toks) (λb o e=>aR _ e) (aO _) (show lJ X.prog X.w _ _ _ (.tup ys)from⟨g,its,d,p_.new _ _⟩)
  exact⟨.ref h'.objs.size,_,k,rfl,q _<|j.hok.fresh<|aO _⟩
 ·obtain⟨its,d,pl,g⟩:=I.tuple c;exact call_tuple_same pl ⟨.ref p,H,I,rfl,q⟩
abbrev tyV (K:au)(T:String)(x:V)(H:Hp):Prop:=match x with
 | .str _=>T = "str"
 | .int _=>T = "int"
 | .ref p=>(T = "list" /\ ∃xs,qt K H p xs)\/(T = "tuple" /\ ∃o,K.lookup p=some o/\o.cls=.type "tuple" /\ o.dict=none) \/
   (T = "dict" /\ ((∃c,H p=some (.dK c))\/∃c,H p=some (.dT c)))\/(T = "set" /\ ∃S n,H p=some (.set S n))
 | _=>False
def YG{H:Hp}{s:az}{x:V}{v:af}(I:Inv X pins σ H s)(r:RelV x v)(ty:tyV X.K T x H) :
  s.TypeIs v T/\∀a,v=.ref a->∃ob,s.heap.get? a=some ob/\ob.dict=none:=by
 cases x with
 | str z=>
  obtain⟨t,rfl⟩:=r
  cases(show T = "str" from ty)
  exact⟨typeIs_str s z t,nofun⟩
 | int i=>
  obtain⟨t,rfl⟩:=r
  cases(show T = "int" from ty)
  exact⟨typeIs_int s i t,nofun⟩
 | ref p=>
  cases r
  rcases ty with⟨rfl,xs,j⟩|⟨rfl,o,d,hc,g⟩|⟨rfl,d⟩|⟨rfl,S,n,d⟩
  ·obtain⟨its,_,pl,_⟩:=I.list j;refine⟨pl.isList.typeIs,λa e=>?_⟩
   cases e
   obtain⟨o,n,e,c,g,_⟩:=pl;exact⟨o,e,g⟩
  ·refine⟨⟨o,I.E4 p o d,hc⟩,λa e=>?_⟩
   cases e
   exact⟨o,I.E4 _ o d,g⟩
  ·have z:∃o,s.heap.get? p=some o/\o.ExactDict:=by
    rcases d with⟨f,d⟩|⟨f,d⟩
    ·obtain⟨_,_,_,_,o,_,_,e,ex,_⟩:=I.hok p _ d;exact⟨o,e,ex⟩
    ·obtain⟨_,_,_,_,o,_,_,e,ex,_⟩:=I.hok p _ d;exact⟨o,e,ex⟩
   obtain⟨o,e,ex⟩:=z;refine⟨⟨o,e,ex.1⟩,λa e2=>?_⟩
   cases e2
   exact⟨o,e,ex.2.1⟩
  ·obtain⟨o,_,_,_,e,ex,_⟩:=I.hok p _ d;refine⟨⟨o,e,ex.1⟩,λa e2=>?_⟩
   cases e2
   exact⟨o,e,ex.2.1⟩
 | _=>exact False.elim ty
abbrev tBM (K:au)(T:String)(r:V->List V->Hp->VK->Prop)(to:TE)(t:TA):TE:=λσ H Q=>to σ H λx H1=>tyV K T x H1/\t σ H1 λxs H2=>r x xs H2 Q
variable {o e:aA}{es:List aA}{to:TE}{t:TA}{name:Str}{apos cpos:Pos}{T id:String}{r:V->List V->Hp->VK->Prop}
def Rf(pa:PlainAttrs T)(slot:Slot T name id)(hty:typeOf (.builtin id)=pure (.type "method_descriptor"))(hm:Ja X id r)(ho:PE X o to)(ha:PA X (e::es) t)
  (U:attributeBase o name X.env (eval o X.env)=eval o X.env<|>η)
  (hfew:(((backTo cpos<|starEach (e::es) X.env).all (λx=>!x.1) && (backToKw cpos<|keywordEach [] X.env).all (λx=>x.1.isSome)
   && decide ((e::es).length+([]:List Keyword).length+(if ([]:List Keyword).isEmpty then 0 else 1)<30))=true)<|>η)
  (hline:(apos.endLine == cpos.line)=true<|>η) (hs:starEach (e::es) X.env=(false,eval e X.env)::starEach es X.env<|>η) (J:((backTo cpos<|starEach es X.env).any (·.1)=false)<|>η) :
  PE X (.Call (.Attribute o name apos) (e::es) [] cpos) (tBM X.K T r to t):=by
 w_up;refine g_ U hfew hline rfl<|ng (ho pins s σ H _ I h) λv p ⟨x,H1,d,r1,ty,m⟩=>?_;obtain⟨h1,h2⟩:=YG d r1 ty;refine⟨T,id,pa,slot,hty,h1,h2,?_⟩;have c:=ha cpos pins p σ H1 _ d m;rw[hs]at c ⊢;refine fW (by show(false || (backTo cpos<|starEach es X.env).any (·.1))=false;rw[J]<;>rfl)<|gp ?_;exact ng c λus g ⟨f,H2,j,r2,k⟩=>hm pins g σ H2 x f v us Q j r1 r2 k
end
abbrev MtM (X:Cx)(id:String)(r:V->List V->Hp->VK->Prop):Prop:=
 ∀(pins:bo) (s:az) (σ:St) (H:Hp) (x:V) (xs:List V) (v:af) (us:ax) (Q:VK),Inv X pins σ H s->RelV x v->Vals xs us->r x xs H Q ->
  wpAny (model X.prog X.w) X.A (call (.builtin id) (v::us)) (EP X pins σ Q) X.xe s
def Vals.one:∀{x:V}{us:ax},Vals [x] us->∃u,us=[u]/\RelV x u
 | _,_,.cons r .nil=>⟨_,rfl,r⟩
theorem Vals.eraseIdx:∀{xs:List V}{us:ax}(i:Nat),Vals xs us->Vals (xs.eraseIdx i) (us.eraseIdx i)
 | _,_,_,.nil=>.nil
 | _,_,0,.cons _ t=>t
 | _,_,i+1,.cons r t=>.cons r<|Vals.eraseIdx i t
def Vals.reverse{xs:List V}{us:ax}(h:Vals xs us):Vals xs.reverse us.reverse:=by
 induction h with
 | nil=>exact .nil
 | cons r t c=>rw[c5,c5];exact Vals.append c<|.cons r .nil
theorem Vals.rep(h:Vals xs us):∀k:Nat,Vals (List.replicate k xs).flatten (List.replicate k us).flatten
 | 0=>.nil
 | k+1=>by
  rw[dZ,dZ,fq,fq];exact Vals.append h<|Vals.rep h k
theorem Dk{α:Type}:∀(l:List α) (i:Nat),(l.eraseIdx i).length<=l.length
 | [],_=>aO _
 | _::_,0=>Nat.le_succ _
 | _::r,i+1=>Nat.succ_le_succ<|Dk r i
theorem foldl_rep(its:ax):∀(k:Nat) (acc:ax),
  List.foldl (λx1 x2=>x1++x2) acc.toArray (List.replicate k its.toArray)=(acc++(List.replicate k its).flatten).toArray
 | 0,acc=>by simp
 | k+1,acc=>by
  have e:acc.toArray++its.toArray=(acc++its).toArray:=by simp
  have e2:(acc++its)++(List.replicate k its).flatten=acc++(List.replicate (k+1) its).flatten:=by
   rw[dZ,fq,cA]
  rw[<- e2,<- foldl_rep its k (acc++its),<- e,dZ,cW]
section
variable {X:Cx}{pins:bo}{σ:St}{H:Hp}{s:az}{l:ak}{xs ys:List V}
def Inv.aap{its its':ax}{n:Nat}{f:Array af->Array af}{t':Nat}(I:Inv X pins σ H s)(J:H l=some (.lst xs))
  (e:s.heap.get? l=some { cls:=.type "list",data:=.seq its.toArray n }) (hf:f its.toArray=its'.toArray) (hv:Vals ys its') (U:ys.length<=sizeLine) :
  Inv X pins σ (upd H l<|.lst ys) { s with heap:=s.heap.update l<|Obj.mapSeq f,toks:=t' }:=by
 have q:=PySem.IsL.update e f;rw[hf]at q;refine I.write (x:=l) (e:=l) (by rw[J];exact trivial) (.inl rfl) (λg u d c=>(Heap.get?_update_other s.heap (Obj.mapSeq f)<|di d).trans c) ⟨_,q⟩ ?_;exact⟨U,its',_,hv,q⟩
def Inv.WL{its:ax}{t':Nat}(I:Inv X pins σ H s)(hv:Vals ys its)(J:ys.length<=sizeLine) :
  Inv X pins σ (upd H s.heap.objs.size<|.lst ys) { s with heap:=s.heap.push { cls:=.type "list",data:=.seq its.toArray },toks:=t' }:=
 I.laid (λ_ _ q=>aR _ q) (aO _) ⟨J,its,0,hv,bC _ rfl⟩
def Inv.fresh(I:Inv X pins σ H s):H s.heap.objs.size=none:=I.hok.fresh<|aO _
def Inv.Jd(I:Inv X pins σ H s)(J:H l=some (.lst xs)):xs.length<=sizeLine/\∃(its:ax) (n:Nat),Vals xs its/\xs.length=its.length/\s.heap.get? l=some { cls:=.type "list",data:=.seq its.toArray n }:=by
 obtain⟨z,its,n,r,e⟩:=I.hok l _ J;exact⟨z,its,n,r,r.length,e⟩
def Gz{n:Nat}(h:n<=sizeLine):Builtin.List.listTooLong n=false:=by
 unfold Builtin.List.listTooLong;exact bq ()
end
section
variable {X:Cx}
abbrev WD:V->List V->Hp->VK->Prop:=λx c H Q=>∃l xs y,x=.ref l/\c=[y]/\H l=some (.lst xs)/\xs.length<sizeLine/\Q .non (upd H l<|.lst<|xs++[y])
def C6:MtM X "list.append" WD:=by
 intro pins s σ H x g v us Q I rx f h;obtain⟨l,xs,y,rfl,rfl,c,k,q⟩:=h
 cases rx
 obtain⟨u,rfl,d⟩:=f.one;obtain⟨z,its,n,r,j,e⟩:=I.Jd c;refine gO F.slot_list_append ⟨_,e,rfl⟩ F.entry_list_append (F.args_list_append_2 _ _) (PySem.list_append l its.toArray n u<|by rw[aZ];lia) ⟨e,?_⟩;refine⟨.non,_,I.aap (its':=its++[u]) c e (by simp) (r.append<|.cons d .nil) ?_,rfl,q⟩;rw[bg,iC]
 lia
abbrev Vm:V->List V->Hp->VK->Prop:=λx c H Q=>∃l b xs zs,x=.ref l/\c=[.ref b]/\H l=some (.lst xs)/\H b=some (.lst zs)/\xs.length+zs.length<=sizeLine/\Q .non (upd H l<|.lst<|xs++zs)
def Ov:MtM X "list.extend" Vm:=by
 intro pins s σ H x C v us Q I rx p h;obtain⟨l,b,xs,zs,rfl,rfl,g,j,K,q⟩:=h
 cases rx
 obtain⟨u,rfl,m⟩:=p.one
 cases m
 obtain⟨z,its,n,r,G,e⟩:=I.Jd g;obtain⟨J,c,B,r2,k,e2⟩:=I.Jd j;have f:its.toArray.size+c.toArray.size<=sizeLine:=by rw[aZ,aZ];lia
 have d:¬(!its.toArray.isEmpty && Builtin.List.listTooLong (its.toArray.size+c.toArray.size))=true:=by
  rw[Gz f,Bool.and_false];exact bJ
 refine gO F.slot_list_extend ⟨_,e,rfl⟩ F.entry_list_extend (F.args_list_extend_2 _ _)
  (AutoSeq1.list_extend_list_list_0 l its.toArray n b c.toArray B d (by rw[aZ];lia) ()) ⟨e,e2,?_⟩
 refine⟨.non,_,I.aap (its':=its++c) g e (by simp) (r.append r2) ?_,rfl,q⟩;rw[bg]
 lia
abbrev aa5:V->List V->Hp->VK->Prop:=λx c H Q=>∃l xs i k y,x=.ref l/\c=[.int i]/\H l=some (.lst xs)/\-(2 ^ 63)<=i/\i<2 ^ 63/\seqIndex? i xs.length=some k/\xs[k]?=some y/\Q y (upd H l<|.lst<|xs.eraseIdx k)
def SI:MtM X "list.pop" aa5:=by
 intro pins s σ H x B v us Q I rx p h;obtain⟨l,xs,i,k,y,rfl,rfl,d,h1,h2,f,g,q⟩:=h
 cases rx
 obtain⟨u,rfl,m⟩:=p.one;obtain⟨t,rfl⟩:=m;obtain⟨z,its,n,r,j,e⟩:=I.Jd d;obtain⟨w,hw,c⟩:=r.get g;refine gO F.slot_list_pop ⟨_,e,rfl⟩ F.entry_list_pop (F.args_list_pop_2 _ _)
  (MeetsSeq.list_pop_at l its.toArray n i t k w (fitsIndex_both h1 h2) (by rw[aZ,<- j];exact f) (by rw[<- dJ];exact hw)<|by rw[aZ];lia) ⟨e,?_⟩
 refine⟨y,_,I.aap (its':=its.eraseIdx k) d e ?_ (r.eraseIdx k) ?_,c,q⟩
 ·skip
  rw[iB]
 ·have:=Dk xs k
  lia
abbrev adQ:R2:=λx y H Q=>∃l b xs zs,x=.ref l/\y=.ref b/\H l=some (.lst xs)/\H b=some (.lst zs)/\xs.length+zs.length<=sizeLine/\∀p,H p=none->Q (.ref p) (upd H p<|.lst<|xs++zs)
def aa7:pR X (binaryOp .Add) adQ:=by
 kd_p;obtain⟨l,b,xs,zs,rfl,rfl,d,f,p,q⟩:=h
 cases rx
 cases ry
 obtain⟨z,its,n,r,k,e⟩:=I.Jd d;obtain⟨m,c,B,r2,j,e2⟩:=I.Jd f;refine PySem.P.add_list e e2 ?_ (by rw[aZ,aZ];lia);have g:its.toArray++c.toArray=(its++c).toArray:=by simp
 rw[g];exact⟨.ref _,_,I.WL (t':=s.toks) (r.append r2)<|by rw[bg];lia,rfl,q _ I.fresh⟩
abbrev aeQ:R2:=λx y H Q=>∃l k xs,x=.ref l/\y=.int k/\H l=some (.lst xs)/\-(2 ^ 63)<=k/\k<2 ^ 63/\xs.length * k.toNat<=sizeLine /\
 ∀p,H p=none->Q (.ref p) (upd H p<|.lst (List.replicate k.toNat xs).flatten)
def len_rep{α:Type}(xs:List α)(k:Nat):(List.replicate k xs).flatten.length=k * xs.length:=by
 induction k with
 | zero=>simp
 | succ k c=>rw[dZ,fq,bg,c,fX,Nat.add_comm]
def Y6:pR X (binaryOp .Mult) aeQ:=by
 kd_p;obtain⟨l,k,xs,rfl,rfl,G,h1,h2,C,q⟩:=h
 cases rx
 obtain⟨t,rfl⟩:=ry;obtain⟨z,its,n,r,J,e⟩:=I.Jd G;have d:its.toArray.size * k.toNat<=sizeLine:=by rw[aZ,<- J];exact C
 have f:¬its.toArray.size * k.toNat>(2 ^ 63-1) / 8:=by
  have:(sizeLine:Nat)<=(2 ^ 63-1) / 8:=by decide
  omega
 have g:¬(!Builtin.List.listFitsIndex k)=true:=by
  rw[fitsIndex_both h1 h2];exact bJ
 have c:¬Builtin.List.listTooLong (its.toArray.size * k.toNat)=true:=by
  rw[Gz d];exact bJ
 have j:List.foldl (λB p=>B++p) #[] (List.replicate (if its.toArray.isEmpty=true then 0 else k.toNat) its.toArray)=(List.replicate k.toNat its).flatten.toArray:=by
  have f0:∀m:Nat,List.foldl (λB p=>B++p) #[] (List.replicate m its.toArray)=(List.replicate m its).flatten.toArray:=λm=>by
   have:=foldl_rep its m [];rw[jI]at this;exact this
  rw[f0]
  cases its with
  | nil=>simp
  | cons a K=>rw[aI<|by simp]
 refine wpAny_binaryOp_repeat_ref (T := "list") (U := "int") ⋯ ⟨_,e,rfl⟩ (λs'=>typeIs_int s' k t) noFill_list_mul F.fills_int_mul F.slot_int_rmul repeat_list F.slot_int_index.lookup
  (gO F.slot_int_rmul (typeIs_int s k t) F.entry_int_rmul (F.args_int_rmul_2 _ _) (int___rmul___int_list k t l its.toArray n)
   ⟨e,rfl,⟨_,e,rfl⟩,gO F.slot_list_mul ⟨_,e,rfl⟩ F.entry_list_mul (F.args_list_mul_2 _ _) (AutoListH.list___mul___list_int_3 l its.toArray n k t g f c) ⟨e,?_⟩⟩)
 rw[j];exact⟨.ref _,_,I.WL (t':=s.toks) (r.rep k.toNat)<|by rw[len_rep,Nat.mul_comm];exact C,rfl,q _ I.fresh⟩
end
end L2
namespace Att
open PySem PySem.W PySem.Calls PyProof.Rows
def zV{P:Params}:∀(ns:ag) (vs:ax),WellAll P h vs (ns.map WData.int)->IntsAre vs ns:=by
 intro ns
 induction ns with
 | nil=>
  intro vs w;rw[fV]at w
  cases w
  exact .nil
 | cons n ns c=>
  intro vs w;rw[bH]at w
  cases w with
  | cons a b=>
   cases a
   exact .cons _ _<|c _ b
def OF{l:OpenLaw}{n:Nat}(hn:l.most=some n){P:Params}{h:aq}
  (J:l.row.toRowW.claim.pre args=true) (U:WellAll P h vals args) :
  ∃a vs ns,vals=[Value.ref a]/\args=[WData.list<|ns.map WData.int]/\h.get? a=some { cls:=.type "list",data:=.seq vs.toArray }/\IntsAre vs ns/\ns.length<=n:=by
 have j:WShape.hasAll [] args [.list .int]=true:=(pre_splitW J).1;have hc:l.pre.holds [] { args:=args }=true:=(pre_splitW J).2;obtain⟨d,r,rfl,h1,h2⟩:=hasAllW_cons j;obtain rfl:=hasAllW_nil h2;obtain⟨xs,rfl,h3⟩:=hasW_list h1;obtain⟨ns,rfl⟩:=items_int h3;have c:ns.length<=n:=by
  unfold OpenLaw.pre at hc;have f:(WTm.not<|.lt (.lit<|.int (n:Int))<|.len<|.arg 0).holds [] { args:=[.list<|ns.map .int]}=true:=by
   have f:=(holds_andW hc).1;rw[hn]at f;exact f
  have g:=condW_of f<|w_not<|w_lt w_lit<|w_len_list<|w_arg rfl;rw[aG]at g;refine gz λq=>?_;have p:(n:Int)<((ns.length:Nat):Int):=by omega
  first
   | (rw[a_ p]at g;exact absurd g ⋯)
   | (simp at g;omega)
 cases U with
 | cons m B=>
  cases B
  cases m with
  | list k e=>exact⟨_,_,ns,rfl,rfl,k,zV ns _ e,c⟩
def N1(l:OpenLaw)(args:List WData):l.row.toRowW.claim.post args (.bool true) args=true:=
 postW_of (r:=l.row.toRowW) (X:=(true == true))
  (show WShape.has [] (.bool true) .bool=true by first|rfl|decide|simp[WShape.has,WShape.arms,WShape.armsAll])
  (show(WTm.eq .res<|.lit<|.bool true).value [] { args:=args,res:=some<|.bool true,after:=args }=some (.bool<|true == true)from w_eq_bool (w_res rfl) w_lit) rfl
def Ht{l:OpenLaw}{n:Nat}{q:aj}{XP:(Str->bb)->aq->Prop}{YP:ah->aq->Prop}{d:DefRec}
  (hn:l.most=some n) (hdf:d.params.defaults=[])
  (call:∀(w:ah) (s₀ s₁:az) (mg mb:Str->bb) (fa:ak) (o:Obj) (pm cd doc:af) (a:ak) (vs:ax) (ns:ag),
   Ground q loose [] XP w s₀ mg mb s₁.heap->YP w s₁.heap ->
   s₁.heap.get? fa=some o->o.data=.func (docDef d.name d.params d.body d.scope pm cd doc)->s₁.heap.CodeRec cd d.name->mg d.name=some (.ref fa) ->
   s₁.heap.get? a=some { cls:=.type "list",data:=.seq vs.toArray }->IntsAre vs ns->ns.length<=n->s₁.gens=#[] ->
   codeAny (model l.prog w) callerA (.call (.ref fa) ⟨[.ref a],[]⟩) (λr s'=>r=.ok (.ret<|.bool true)/\OldK s₁.heap s'.heap/\s'.os=s₁.os/\AllBare s'.gens) s₁) :
  WalkO q loose XP YP l.row.toRowW d [] (λf vs=>PySem.call f vs):=by
 intro w s₀ s₁ mg mb G Y fa o pm cd doc K kV P U m C k hg J F as g B M p O;obtain rfl:K=.none:=Dflts.none C hdf;obtain rfl:kV=.none:=Dflts.noKw C;obtain⟨a,vs,ns,rfl,rfl,j,c,e⟩:=OF hn g p;refine enter_call<|jE (call w s₀ s₁ mg mb fa o pm cd doc a vs ns G Y P (fd_plain U) m k j c e hg) λr s' N=>?_;obtain⟨rfl,h2,h3,T⟩:=N;exact⟨.inl ⟨.bool true,.bool true,[],rfl,λ_=>rfl,.bool true,N1 l _,λ_=>⟨List.Pairwise.nil,λ_ L=>(nomatch L)⟩⟩,h2,h3,T⟩
end Att
namespace L2
open PySem PySem.Spec PyProof.Rows
theorem yP:∀{vs:ax}{ns:ag},IntsAre vs ns->Vals (ns.map V.int) vs
 | _,_,.nil=>.nil
 | _,_,.cons n t h=>.cons ⟨t,rfl⟩<|yP h
abbrev Vu (H:Hp):Prop:=∀b,H b=none\/∃o xs,H b=some (.frz o<|.lst xs)
def QX{P:aj}{w:ah}{K:au}{mg mb:Str->bb}{CX:UU}{k:Nat}{fa a:ak}{x:Str}{sp:Sp}{s₁:az}{vs:ax}{ns:ag}
  (KX:K.In s₁.heap) (hns:s₁.heap.Ns mainGlobals mg) (hb:s₁.heap.Ns builtinsNs mb) (hbb:∀x:Str,x ≠ "__name__" -> mb x=bootBuiltins x) (hlim:s₁.heap.NoLimit) (hg:s₁.gens=#[])
  (ha:s₁.heap.get? a=some { cls:=.type "list",data:=.seq vs.toArray }) (hi:IntsAre vs ns) (hl:ns.length<=sizeLine) (hr:Room k callerA)
  (F:∀base:aq,K.In base->base.Ns mainGlobals mg->FnOk P w K mg base CX k fa fd [x] sp) (hbind:∀(s:az) (u:af),BindsTo s fd ⟨[u],[]⟩ [(x,u)])
  (hsp:∀H:Hp,Vu H->qt K H a (ns.map V.int)->sp [.ref a] H (λv _=>v=.bl true) λ_ _ _=>False)
  (hCX:∀H e s',CX [] H s₁ (λ_ _ _=>False) e s'->False) :
  codeAny (model P w) callerA (.call (.ref fa) ⟨[.ref a],[]⟩) (λr s'=>r=.ok (.ret<|.bool true)/\OldK s₁.heap s'.heap/\s'.os=s₁.os/\AllBare s'.gens) s₁:=by
 have T:=yP hi;have j:=hi.length;have g:∀H:Hp,Vu H->qt K H a (ns.map V.int)->xO P w H s₁.heap->(∀b,H b≠none->b=a)->(H a≠none->K.lookup a=none) ->
   codeAny (model P w) callerA (.call (.ref fa) ⟨[.ref a],[]⟩) (λr s'=>r=.ok (.ret<|.bool true)/\OldK s₁.heap s'.heap/\s'.os=s₁.os/\AllBare s'.gens) s₁:=by
  intro H O hS p U hK;have c:∀{b:ak} {o:Obj},s₁.heap.get? b=some o->H b=none->(Fi s₁.heap H).get? b=some o:=λe n=>Pb e n;have L:∀{b:ak} {o:Obj} {es:Array DictEntry} {ep:Nat},s₁.heap.get? b=some o->o.data=.dict es ep->H b=none:=λ{b o es ep} e d=>by
   cases q:H b with
   | none=>rfl
   | some u=>
    have N:b=a:=U b (by rw[q];simp);subst N;rw[ha]at e;cases e;have d':Data.seq vs.toArray _=Data.dict es ep:=d
    cases d'
  have f:∀{b:ak} {m:Str->bb},s₁.heap.Ns b m->(Fi s₁.heap H).Ns b m:=λ{b m} ⟨o,es,ep,e,d,r⟩=>⟨o,es,ep,c e<|L e d,d,r⟩;have G:K.In (Fi s₁.heap H):=λb o e=>c (KX b o e) (by
   cases q:H b with
   | none=>rfl
   | some u=>
    have N:b=a:=U b (by rw[q];simp);subst N;rw[hK<|by rw[q];simp]at e;cases e)
  have Y:Mod K mg (Fi s₁.heap H):=⟨G,f hns,⟨mb,f hb,hbb⟩,let⟨mc,h1,h2⟩:=hlim;⟨mc,f h1,h2⟩⟩;have e0:Env0 P w K mg (Fi s₁.heap H) callerA [] s₁ H:=⟨rfl,Y,λb o e=>V3 e,Nat.le_of_eq<|Nz _ _,trivial,λb hb=>absurd (show b∈([]:ba)from hb)<|by simp,p,.of_eq hg⟩;refine jE ((F _ G<|f hns).run callerA [] s₁ H ⟨[.ref a],[]⟩ [.ref a] [.ref a] _ _ hr e0 (hbind s₁<|.ref a) (.cons rfl .nil)<|hsp H O hS) λr s' h=>?_
  cases r with
  | error e=>exact(hCX H e s' h).elim
  | ok fl=>
   cases fl with
   | next=>exact False.elim h
   | brk=>exact False.elim h
   | cont=>exact False.elim h
   | ret u=>
    obtain⟨v,H',os,C,un,B,r',q⟩:=h;have W:v=.bl true:=q;subst W;obtain rfl:u=Value.bool true:=r';refine⟨rfl,OldK.of_keep λb o e=>?_,os,C⟩
    cases q:H b with
    | none=>exact un.keep b o e q (by intro z;exact absurd (show b∈([]:ba)from z)<|by simp) (by simp)
    | some u=>
     rcases O b with z|⟨Z,xs,z⟩
     ·rw[q]at z;cases z
     ·have z2:=un.frzs b Z _ z;obtain⟨e1,_⟩:=p b _ z;obtain⟨e2,_⟩:=B b _ z2;rw[e]at e1;cases e1;exact e2
 cases M:K.lookup a with
 | some o=>
  have e:=KX a o M;rw[ha]at e
  cases e
  refine g (λ_=>none) (λ_=>.inl rfl) (.inr ⟨_,vs.toArray,_,M,rfl,rfl,rfl,by rw[aZ,j];exact hl,by simpa using T⟩) (λb u z=>by have J:(none:Option HO)=some u:=z;cases J) (λb z=>absurd rfl z) λz=>absurd rfl z
 | none=>
  refine g (λb=>if b=a then some (.frz { cls:=.type "list",data:=.seq vs.toArray } (.lst<|ns.map V.int))else none) (λb=>?_) (.inl<|.inr ⟨{ cls:=.type "list",data:=.seq vs.toArray },aJ rfl⟩) (λb u z=>?_) (λb z=>?_) λ_=>M
  ·by_cases hb:b=a
   ·exact .inr ⟨_,_,aJ hb⟩
   ·exact .inl<|aI hb
  ·by_cases hb:b=a
   ·have J:=(aJ hb).symm.trans z
    cases J
    subst hb;exact⟨ha,by rw[aG];exact hl,vs,_,T,ha⟩
   ·have J:=(aI hb).symm.trans z
    cases J
  ·by_cases hb:b=a
   ·exact hb
   ·exact absurd (aI hb) z
def WU{l:PySem.W.OpenLaw}{n k:Nat}{q:aj}{XP:(Str->bb)->aq->Prop}{YP:ah->aq->Prop}{d:DefRec}{K:Params->au}{CX:ah->UU}{sp:ah->Sp}{x:Str}
  (hn:l.most=some n) (hn2:n<=sizeLine) (hdf:d.params.defaults=[]) (hr:Room k callerA)
  (hY:∀(w:ah) (h:aq),YP w h->(K w.params).In h)
  (F:∀(w:ah) (mg:Str->bb) (fa:ak) (h:aq),(K w.params).In h->h.Ns mainGlobals mg->mg d.name=some (.ref fa) ->
   ∃fd:FuncData,(∀(s:az) (u:af),BindsTo s fd ⟨[u],[]⟩ [(x,u)]) /\
    ∀base:aq,(K w.params).In base->base.Ns mainGlobals mg->FnOk l.prog w (K w.params) mg base (CX w) k fa fd [x] (sp w))
  (hsp:∀(w:ah) (H:Hp) (a:ak) (ns:ag),ns.length<=n->Vu H->qt (K w.params) H a (ns.map V.int)->sp w [.ref a] H (λv _=>v=.bl true) λ_ _ _=>False)
  (hCX:∀(w:ah) (H:Hp) (s:az) (e:af) (s':az),CX w [] H s (λ_ _ _=>False) e s'->False) :
  PySem.W.WalkO q loose XP YP l.row.toRowW d [] (λf vs=>PySem.call f vs):=by
 refine Att.Ht hn hdf λw C p mg mb fa o U Z P a vs ns G Y ho hd N B m j c hg=>?_;have J:=hY w _ Y;obtain⟨fd,O,M⟩:=F w mg fa _ J G.T.g B;exact QX J G.T.g G.T.b G.T.builtins G.T.nolimit hg m j (bD c hn2) hr M O (λH L hS=>hsp w H a ns c L hS) λH e s'=>hCX w H p e s'
abbrev v_ (s:aC):Arguments:=match s with
 | .FunctionDef _ a _ _ _ _ _ _ _ _=>a
 | _=>{ posonlyargs:=[],args:=[],vararg:=none,kwonlyargs:=[],kw_defaults:=[],kwarg:=none,defaults:=[]}
abbrev rX (s:aC):List aC:=match s with
 | .FunctionDef _ _ b _ _ _ _ _ _ _=>b
 | _=>[]
abbrev j9 (s:aC):Scope:=match s with
 | .FunctionDef _ _ _ _ _ _ c _ _ _=>c
 | _=>{ kind:=.function,names:=[],isGenerator:=false,isCoroutine:=false }
meta abbrev qG:UU:=λ_ _ _ _ _ _=>False
meta abbrev E0:XK:=λ_ _ _=>False
def abl{X:Cx}:Passes qG X E0:=λ_ _ _ _ _ _ _ h=>h.elim
structure Fun (K:au)(x qual:Str)(st:aC)(f:ak)(fd:FuncData):Prop where
 ex:∃(oc:af) (od:Option ak) (kV doc pm:af) (an:Option ak) (cdv ct:af) (osl:Array<|bb),
  fd=PySem.W.fnOf x qual (v_ st) (rX st) (j9 st) .none kV doc pm an cdv ct/\K.lookup f=some ⟨oc,od,.func fd,osl⟩/\PySem.W.codeIn K cdv qual=true
 kp:PySem.W.keepIn K (.ref f)=true
section
variable {P:aj}{w:ah}{K:au}{mg:Str->bb}{base:aq}
def Fun.ok{x:Str}{st:aC}{f:ak}{N ps:ar}{k:Nat}{sp:Sp}(F:Fun K x qual st f fd)(S:FnScope N ps<|j9 st)(len:∀vs H Q E,sp vs H Q E->vs.length=ps.length)
  (J:∀(cdv:af) (A:ay) (outer:List Env) (s:az) (H:Hp) (vs:List V) (Q:VK) (E:XK),Room k (A.deeper<|envOfC qual (j9 st) s.heap.objs.size f cdv)->sp vs H Q E ->
   ∃t,Fj (Iu qG P w K mg base N qual (j9 st) f cdv A outer s H E).nox (rX st) t/\t { nx:=λ_ H'=>Q .non H',rt:=Q } (start N vs) H):FnOk P w K mg base qG (k+1) f fd ps sp:=by
 obtain⟨G,C,kV,m,p,B,cdv,ct,g,rfl,e,c⟩:=F.ex;refine acU e c S len λA outer s H vs Q E j d=>?_;obtain⟨t,h,q⟩:=J cdv A outer s H vs Q E j d;exact⟨t,h.nox,q⟩
def Fun.binds{x:Str}{st:aC}{f:ak}{ps:ar}(F:Fun K x qual st f fd)
  (h:∀(kV doc pm:af) (an:Option ak) (cdv ct:af) (us:ax),us.length=ps.length->bindArgs (PySem.W.fnOf x qual (v_ st) (rX st) (j9 st) .none kV doc pm an cdv ct) ⟨us,[]⟩=pure (ps.zip us)):Binds K fd ps []:=by
 obtain⟨g,j,kV,doc,pm,an,cdv,ct,d,rfl,e,c⟩:=F.ex;exact .all<|h kV doc pm an cdv ct
def Y7{x:Str}{st:aC}{f:ak}{kV J ct:af}(l:K.lookup f=some ⟨oc,od,.func<|PySem.W.fnOf x qual (v_ st) (rX st) (j9 st) .none kV doc J an cdv ct,osl⟩)
  (c:PySem.W.codeIn K cdv qual=true) (k:PySem.W.keepIn K (.ref f)=true):Fun K x qual st f (PySem.W.fnOf x qual (v_ st) (rX st) (j9 st) .none kV doc J an cdv ct):=⟨⟨oc,od,kV,doc,J,an,cdv,ct,osl,rfl,l,c⟩,k⟩
end
section
variable {X:Cx}
def pv(i:Nat){x:Str}(U:X.N[i]?=some x<|>η)(hv:Vis X.env.scope x:=by first|exact Or.inl rfl|exact Or.inr (Or.inl rfl)|exact Or.inr<|Or.inr rfl)(hd:(x == ("__debug__" : Str))=false:=by decide)
  (J:(x == ("__classdict__" : Str))=false:=by decide):PE X (.Name x pos) (ac0 i):=UC U hv hd J
end
set_option maxHeartbeats 4000000
abbrev aa1 (σ:St):bn->Option V
 | some j=>(σ[j]?).getD none
 | none=>none
abbrev Ce (env:Env):List (Str×NameKind)->List (Str×ak)->List (Str×ak)
 | [],cs=>cs
 | (n,k)::r,cs=>Ce env r (if k == .free then(n,(env.cells.lookup n).getD 0)::cs else cs)
def IB{scope:Scope}{env:Env}(h:∀y∈scope.names,y.2=.free->∃c,env.cells.lookup y.1=some c):closureFor scope env=pure (Ce env scope.names []):=by
 have g:∀(l:List<|Str×NameKind) (d:List<|Str×ak),(∀y∈l,y.2=.free->∃c,env.cells.lookup y.1=some c) ->
   (forIn l d (λ(x:Str×NameKind) (r:List<|Str×ak)=>(match x with
    | (name,kind)=>if (kind == NameKind.free)=true then(do let c <- cellOf env name;pure (ForInStep.yield ((name,c)::r)))else pure (ForInStep.yield r):Sem<|ForInStep<|List<|Str×ak)))=(pure (Ce env l d):Sem<|List<|Str×ak):=by
  intro l
  induction l with
  | nil=>intro d _;rfl
  | cons y r p=>
   intro d e;obtain⟨n,k⟩:=y;rw[List.forIn_cons];by_cases j:k=.free
   ·subst j;obtain⟨c,hc⟩:=e (n,.free) aL rfl;have e1:cellOf env n=pure c:=by
     unfold cellOf;rw[hc]
    dsimp[cg,dj,e1,pure_bind];rw[p _ λz f=>e z<|aN _ f];dsimp[Ce,cg,dj,hc,iH]
   ·have m:(k == NameKind.free)=false:=by simpa using j
    dsimp[m,bF,cG,pure_bind];rw[p _ λz f=>e z<|aN _ f];dsimp[Ce,m,bF,cG]
 have:=g scope.names [] h;exact(dY (λz=>z >>= λd=>(pure d:Sem<|List<|Str×ak)) this).trans (pure_bind _ _)
theorem By:∀{l:List<|Str×NameKind}{x:Str}{k:NameKind},l.lookup x=some k->(x,k)∈l
 | [],_,_,h=>nomatch h
 | (n,k')::r,x,k,h=>by
  rw[gA]at h
  cases c:x == n with
  | true=>
   rw[c]at h;have e:x=n:=by simpa using c
   subst e
   cases h
   exact aL
  | false=>rw[c]at h;exact aN _<|By h
theorem Dy{env:Env}{x:Str}{c:ak}:∀{l:List<|Str×NameKind}{cs:List<|Str×ak},(∀y∈l,y.2=.free->∃c,env.cells.lookup y.1=some c)->(Ce env l cs).lookup x=some c->env.cells.lookup x=some c\/cs.lookup x=some c
 | [],cs,_,h=>.inr h
 | (n,k)::r,cs,hl,h=>by
  have h':=Dy (l:=r) (λz j=>hl z<|aN _ j) h
  rcases h' with h'|h'
  ·exact .inl h'
  ·by_cases f:k=.free
   ·subst f;dsimp[cg,dj]at h';obtain⟨m,hc⟩:=hl (n,.free) aL rfl;rw[hc,iH,gA]at h'
    cases d:x == n with
    | true=>
     rw[d]at h';have e:x=n:=by simpa using d
     subst e;left;rw[hc];exact h'
    | false=>rw[d]at h';exact .inr h'
   ·have g:(k == NameKind.free)=false:=by simpa using f
    dsimp[g,bF,cG]at h';exact .inr h'
theorem CJ{env:Env}{x:Str}:∀{l:List<|Str×NameKind}{cs:List<|Str×ak},(cs.lookup x).isSome=true->((Ce env l cs).lookup x).isSome=true
 | [],cs,h=>h
 | (n,k)::r,cs,h=>by
  skip
  refine CJ (l:=r) ?_;by_cases c:(k == NameKind.free)=true
  ·rw[aJ c,gA]
   cases d:x == n with
   | true=>rfl
   | false=>exact h
  ·rw[aI c];exact h
theorem A6{env:Env}{x:Str}:∀{l:List<|Str×NameKind}{cs:List<|Str×ak},(x,NameKind.free)∈l->((Ce env l cs).lookup x).isSome=true
 | [],_,h=>nomatch h
 | (n,k)::r,cs,h=>by
  rcases bG.mp h with e|h
  ·cases e
   skip
   refine CJ (l:=r) ?_;rw[aJ<|by rfl,gA];simp
  ·exact A6 (l:=r) h
abbrev pS (X:Cx)(scope:Scope)(N:ar)(C:ak)(s₀:az)(H₀:Hp)(ex:ba):Cx where
 prog:=X.prog
 w:=X.w
 K:=X.K
 mg:=X.mg
 base:=X.base
 A:=X.A
 N:=N
 s₀:=s₀
 H₀:=H₀
 env:=compEnvC scope (Ce X.env scope.names []) C X.env
 outer:=X.stack
 stack:=X.stack
 ex:=ex
 fn:=λ_=>false
 calm:=X.calm
 pn:=[]
 xe:=λ_ _=>False
structure CpScope (X:Cx)(scope:Scope)(N:ar)(cap:List (bn)):Prop where
 kind:scope.kind=.function
 nocell:∀y∈scope.names,y.2≠.cell
 nm:∀y∈scope.names,y.2=.local->scope.names.lookup y.1=some .local
 fr:∀y∈scope.names,y.2=.free->X.env.kindOf y.1=some .cell\/X.env.kindOf y.1=some .free
 rl:∀y,((relabel scope X.env).names.lookup y=some .cell\/(relabel scope X.env).names.lookup y=some .free)->(y,NameKind.free)∈scope.names
 len:cap.length=N.length
 nolf:∀x,(x,NameKind.free)∈scope.names->scope.names.lookup x≠some .local
 cp:∀(i j:Nat) (x:Str),N[i]?=some x->cap[i]?=some (some j)->X.N[j]?=some x/\(x,NameKind.free)∈scope.names
def aaL{X:Cx}{N:ar}{cap:List<|bn}{H:Hp}{s:az}{fp:ba}{h₁:aq}{m:Str->bb}{tk:Nat}(S:CpScope X scope N cap)(I:Inv X pins σ H s)
  (hf:∀b∈fp,zp X pins H b) (ho:∀b∈fp,∃o,s.heap.get? b=some o) (hn:h₁.Ns s.heap.objs.size m) (hk:∀b o,s.heap.get? b=some o->h₁.get? b=some o) :
  Inv (pS X scope N s.heap.objs.size s H fp) [] (cap.map<|aa1 σ) H { s with heap:=h₁,toks:=tk }:=by
 have q:∀y∈scope.names,y.2=.free->∃c,X.env.cells.lookup y.1=some c:=λy hy e=>I.ok.has _<|S.fr y hy e;have C:∀x c,(Ce X.env scope.names []).lookup x=some c->X.env.cells.lookup x=some c:=λx c e=>by
  rcases Dy q e with z|z
  ·exact z
  ·cases z
 have lt:∀b o,s.heap.get? b=some o->b≠s.heap.objs.size:=λb o e=>bw<|bh e;refine⟨⟨I.ok.mod,?_,I.ok.glob,I.ok.blt,aO _,?_,?_,?_,I.ok.hd,I.ok.frames,.inl rfl,?_,I.bs,bD I.ok.bsz I.sz,?_,?_,I.stack,I.MA⟩,rfl,I.bare,Un.kept hk,?_,?_,I.hok.fresh<|aO _,?_,?_,I.hok.kept hk,?_⟩
 ·exact S.kind
 ·intro x y c e1 e2;exact I.ok.inj x y c (C x c e1) (C y c e2)
 ·intro x e;have K:=S.rl x e;have:=A6 (env:=X.env) (cs:=[]) K;exact fG.mp this
 ·intro x c e _;exact absurd e (by simp[pS])
 ·intro b F;obtain⟨o,e⟩:=ho b F;refine⟨lt b o e,λx c e2=>(hf b F).2.2.2.2.1 x c<|C x c e2⟩
 ·intro b o e F;obtain⟨_,_,_,h3,_⟩:=hf b F
  rcases h3 with z|z
  ·exact I.ok.noex b o e z
  ·exact absurd (bN (bh (I.ok.bs b o e).1) z)<|f7 _
 ·intro b F hz;obtain⟨_,h1,h2,_⟩:=hf b F
  rcases bG.mp (I.Jl b hz)with z|z
  ·exact h1 z
  ·exact h2 z
 ·refine⟨m,hn,λi x v e1 e2 e3=>?_⟩;rw[aQ]at e2
  cases hc:cap[i]? with
  | none=>rw[hc]at e2;cases e2
  | some V=>
   rw[hc]at e2
   cases V with
   | none=>cases e2
   | some j=>
    have d:(σ[j]?).getD none=some v:=bz e2;obtain⟨hj,K⟩:=S.cp i j x e1 hc;obtain⟨m0,W,P⟩:=I.loc;have O:σ[j]?=some (some v):=by
     cases h:σ[j]? with
     | none=>rw[h]at d;cases d
     | some z=>rw[h,iH]at d;rw[d]
    have J:=S.fr (x,.free) K rfl;have hv:Vis X.env.scope x:=.inr J;obtain⟨u,ru,lo⟩:=P j x v hj O hv;refine⟨u,ru,?_⟩
    rcases lo with⟨lo,_⟩|⟨_,c,ec,Z⟩
    ·rcases J with z|z<;>(rw[z]at lo;cases lo)
    ·have h2:=A6 (env:=X.env) (cs:=[]) K;obtain⟨T,g⟩:=fG.mp h2;have:T=c:=bz<|(C x T g).symm.trans ec;subst this;refine .inr ⟨?_,T,g,?_⟩
     ·rcases e3 with z|z|z
      ·exfalso;have:(relabel scope X.env).names.lookup x=some .local:=z;have G:scope.names.lookup x=some .local:=by
        have L:∃k,(x,k)∈(relabel scope X.env).names/\k=.local:=by
         clear g h2;have:=By this;exact⟨_,this,rfl⟩
        obtain⟨k,U,rfl⟩:=L;obtain⟨⟨n',k'⟩,M,f⟩:=aW.mp U;dsimp only at f;split at f
        ·cases f
        ·cases f
         exact S.nm (x,.local) M rfl
       exact False.elim<|S.nolf x K G
      ·exact .inl z
      ·exact .inr z
     ·obtain⟨o,B,hd⟩:=Z;exact⟨o,hk _ _ B,hd⟩
 ·intro x c e;obtain⟨v,o,B,hd⟩:=I.cell x c<|C x c e;exact⟨v,o,hk _ _ B,hd⟩
 ·intro x c e;exact I.freeC x c (C x c e)
 ·intro p Y
  cases Y
 ·rw[aG,S.len];rfl
abbrev PTs (X:Cx)(ifs:List aA)(t:TT):Prop:=
 ∀(pins:bo) (s:az) (σ:St) (H:Hp) (Q:Bool->Hp->Prop),Inv X pins σ H s->t σ H Q ->
  wpAny (model X.prog X.w) X.A (forIn ifs true λc r=>if r=true then do let ok <- isTrue c X.env (eval c X.env);pure (ForInStep.yield ok)else pure (ForInStep.yield r)) (TP X pins σ Q) X.xe s
abbrev aei:TT:=λ_ H Q=>Q true H
def VP{X:Cx}:PTs X [] aei:=λ_ _ _ H _ I h=>wpAny_tests_nil ⟨H,I,h⟩
def U_{X:Cx}{c:aA}{t:TT}(h:PT X c t):PTs X [c] t:=λpins s σ H Q I q=>wpAny_tests_one<|h pins s σ H Q I q
abbrev aaa (cap:List<|bn)(g:TG)(tc:TT)(te:TE)(σ:St)(Q:VK)(J:It)(H1:Hp):Prop:=∀D,H1 D=none ->
 ∃W:Nat->Nat->St->Hp->Prop,(∃m,W 0 m (cap.map<|aa1 σ)<|upd H1 D<|.lst [])/\∀i m e H',W i m e H' ->
  (J.stop i H'/\Q (.ref D) H')\/(J.go i H'/\∀x H2,J.yld i H' x H2->g x e H2 λc H3=>tc c H3 λb f=>
   if b=true then te c f λy j=>∃ys,j D=some (.lst ys)/\ys.length<sizeLine/\∃d,d<m/\W (i+1) d c (upd j D<|.lst<|ys++[y])
   else ∃d,d<m/\W (i+1) d c f)
abbrev tLC (cap:List<|bn)(J:TI)(g:TG)(tc:TT)(te:TE):TE:=λσ H Q=>J σ H<|aaa cap g tc te σ Q
def WG{α:Type}{t:Sem α}{Q Q':α->az->Prop}{A:ay}{E:af->az->Prop}(h:wpAny M A t Q (λ_ _=>False) s)(J:∀a s,Q a s->Q' a s):wpAny M A t Q' E s:=
 gM h J λ_ _ f=>f.elim
structure TurnG (ok:Cx->Prop)(P:aj)(w:ah)(K:au)(tg:aA)(J:It)(fp:ba)(it:ak)(tn:Nat->aq->Prop):Prop where
 obj:∀i h,tn i h->∀b∈fp,∃o,h.get? b=some o/\∀v,o.data≠.cell v
 keep:∀i h h',tn i h->(∀b∈fp,∀o,h.get? b=some o->h'.get? b=some o)->tn i h'
 item:∀(X:Cx),X.prog=P->X.w=w->X.K=K->ok X->∀(i:Nat) (pins:bo) (s:az) (σ:St) (H:Hp) (E:af->az->Prop),Inv X pins σ H s->(∀b∈fp,zp X pins H b)->tn i s.heap->J.go i H ->
  wpAny (model P w) X.A (pyNext<|.ref it) (λr s1=>∃u,r=some u /\
   wpAny (model P w) X.A (letOwnedTupleGo tg (.ref it) u) (λ_ s2=>∃x H',Inv X pins σ H' s2/\RelV x u/\J.yld i H x H'/\tn (i+1) s2.heap/\∀b∈fp,H' b=none) E s1) E s
 done:∀(X:Cx),X.prog=P->X.w=w->X.K=K->ok X->∀(i:Nat) (pins:bo) (s:az) (σ:St) (H:Hp) (E:af->az->Prop),Inv X pins σ H s->(∀b∈fp,zp X pins H b)->tn i s.heap->J.stop i H ->
  wpAny (model P w) X.A (pyNext<|.ref it) (λr s1=>r=none/\Inv X pins σ H s1) E s
 self:∀(A:ay) (i:Nat) (s:az) (Q:af->az->Prop) (E:af->az->Prop),tn i s.heap->Q (.ref it) s->wpAny (model P w) A (pyIter<|.ref it) Q E s
abbrev aeo (ok:Cx->Prop)(X:Cx)(pins:bo)(σ:St)(tg:aA)(R:It->Hp->Prop)(U:af)(s2:az):Prop:=
 ∃(it:ak) (d:ba) (c:Nat->aq->Prop) (J:It) (H':Hp),U=.ref it/\Inv X pins σ H' s2/\TurnG ok X.prog X.w X.K tg J d it c/\c 0 s2.heap/\(∀b∈d,zp X pins H' b)/\R J H'
abbrev PIg (ok:Cx->Prop)(X:Cx)(tg iter:aA)(J:TI):Prop:=
 ∀(pins:bo) (s:az) (σ:St) (H:Hp) (R:It->Hp->Prop),Inv X pins σ H s->J σ H R ->
  wpAny (model X.prog X.w) X.A (eval iter X.env) (λv c=>wpAny (model X.prog X.w) X.A (pyIter v) (aeo ok X pins σ tg R) X.xe c) X.xe s
def PI.g{X:Cx}{iter:aA}{U:TI}(h:PI X tg iter U):PIg (λY=>Y.calm=true) X tg iter U:=λpins s σ H R I q=>
 ng (h pins s σ H R I q) λv p h1=>ng h1 λj m ⟨it,k,d,J,H',e,f,T,a,b,c⟩=>⟨it,k,d,J,H',e,f,⟨T.obj,T.keep,T.item,T.done,T.self⟩,a,b,c⟩
def Mi{ok:Cx->Prop}{X:Cx}{use:Option<|af->Sem Unit}{Q':af->az->Prop}{iter:aA}{N:ar}{wi:TI}{g:TG}{tc:TT}{te:TE}(S:CpScope X scope N cap)(hok:∀C s₀ H₀ ex,(∀a o u,X.H₀ a=some (.frz o u)->H₀ a=some (.frz o u))->ok (pS X scope N C s₀ H₀ ex))(hi:PIg ok X tg iter wi)
  (hg:∀C s₀ H₀ ex,PG (pS X scope N C s₀ H₀ ex) tg g) (ht:∀C s₀ H₀ ex,PTs (pS X scope N C s₀ H₀ ex) ifs tc) (he:∀C s₀ H₀ ex,PE (pS X scope N C s₀ H₀ ex) elt te)
  (hs:(∀x,foldedSetIterable iter X.env x=pure x)<|>θ):∀(pins:bo) (s:az) (σ:St) (H:Hp) (Q:VK),Inv X pins σ H s->tLC cap wi g tc te σ H Q ->
  (∀(s6:az) (C D:ak) (H5:Hp) (m:Str->bb),s6.heap.Ns C m->zp X pins H5 C->(∀h',Heap.SameBut C s6.heap h'->Inv X pins σ H5 { s6 with heap:=h' })->Q (.ref D) H5->∀v,compPost (model X.prog X.w) X.A X.xe use Q' (.ref D) C (.ok v) s6) ->
  wpAny (model X.prog X.w) X.A (comprehension (.ListComp elt [⟨tg,iter,ifs,0⟩] scope pos) scope X.env (firstIterPos [⟨tg,iter,ifs,0⟩] pos) (newList []) (firstAsync [⟨tg,iter,ifs,0⟩]) (firstIter [⟨tg,iter,ifs,0⟩] X.env) use) Q' X.xe s:=by
 intro pins s σ H Q I h hfin;have hfree:∀y∈scope.names,y.2=.free->∃c,X.env.cells.lookup y.1=some c:=λy hy e=>I.ok.has _<|S.fr y hy e;refine wpAny_comprehension_free (use:=use) rfl hs (IB hfree) S.kind S.nm<|ng (hi pins s σ H _ I h) λxv s1 h1=>ng h1 λitv f h2=>?_;obtain⟨it,fp,tn,J,H2,rfl,I2,T,st2,f2,h2⟩:=h2;refine cu (wpAny_newFunctionEnv S.nocell (by intro y hy;simp at hy) (λL B F=>?_) S.kind);obtain⟨W,⟨m0,w0⟩,turn⟩:=h2 f.heap.objs.size I2.fresh;dsimp only at B F ⊢;have I3:Inv X pins σ (upd H2 f.heap.objs.size<|.lst []) { f with heap:=f.heap.push {}}:=I2.WL (t':=f.toks) (its:=[]) .nil<|bL _;have hfp:∀b∈fp,∃o,f.heap.get? b=some o:=λb j=>by
  obtain⟨o,e,_⟩:=T.obj 0 _ st2 b j;exact⟨o,e⟩
 have neD:∀b∈fp,b≠f.heap.objs.size:=λb j=>by
  obtain⟨o,e⟩:=hfp b j;exact bw<|bh e
 have f3:∀b∈fp,zp X pins (upd H2 f.heap.objs.size<|.lst []) b:=λb j=>⟨by rw[j7<|neD b j];exact(f2 b j).1,(f2 b j).2⟩;have hDC:f.heap.objs.size≠(f.heap.push {}).objs.size:=by rw[h_];exact bw (fN _)
 have old:∀b o,(f.heap.push {}).get? b=some o->L.get? b=some o:=λb o e=>F.extBut b o (bw<|bh e)<|aR _ e;have I4:=aaL (tk:=f.toks+([]:List<|Str×af).length) (fp:=fp) S I3 f3 (λb j=>by
  obtain⟨o,e⟩:=hfp b j;exact⟨o,aR _ e⟩) B old
 have st4:tn 0 L:=T.keep _ _ _ st2 λb j o e=>old b o<|aR _ e;have hc:=hok (f.heap.push {}).objs.size { f with heap:=f.heap.push {}} (upd H2 f.heap.objs.size<|.lst []) fp λa o u e=>by
  have z:=I2.base.frzs a o u e;rw[j7 λq=>by rw[q,I2.fresh]at z;cases z];exact z
 have O:∀{H':Hp},(∀b∈fp,H' b=none)->∀b∈fp,zp (pS X scope N (f.heap.push {}).objs.size { f with heap:=f.heap.push {}} (upd H2 f.heap.objs.size<|.lst []) fp) [] H' b:=λhn b j=>by
  have ok:=I4.ok;refine⟨hn b j,(ok.exf b j).1,ok.exfs b j,.inl j,λx c e=>(ok.exf b j).2 x c e,λp hp=>nomatch hp⟩
 have V:∀s4:az,s4={ f with heap:=L,toks:=f.toks+([]:List<|Str×af).length } ->
   codeAny (model X.prog X.w) X.A (.compLoop (.ListComp elt [⟨tg,iter,ifs,0⟩] scope pos) 0 (.ref it) (.ref f.heap.objs.size)<|compEnvC scope (Ce X.env scope.names []) (f.heap.push {}).objs.size X.env)
    (compPost (model X.prog X.w) X.A X.xe use Q' (.ref f.heap.objs.size) (f.heap.push {}).objs.size) s4:=by
  rintro s4 rfl;refine codeAny_loop rfl (λn s'=>∃i M H',Inv (pS X scope N (f.heap.push {}).objs.size { f with heap:=f.heap.push {}} (upd H2 f.heap.objs.size<|.lst []) fp) [] M H' s'/\tn i s'.heap/\(∀b∈fp,H' b=none)/\W i n M H') (λn s5 hI=>?_) m0 ⟨0,_,_,I4,st4,λb j=>(f3 b j).1,w0⟩;obtain⟨i,U,H5,I5,st5,fr5,w5⟩:=hI
  skip
  refine wpAny_noted ?_;rw[compTurn_list];refine aH (wpAny_standAt<|aH ?_)
  rcases turn i n U H5 w5 with⟨stop,q⟩|⟨go,step⟩
  ·refine ng (T.done (pS X scope N (f.heap.push {}).objs.size { f with heap:=f.heap.push {}} (upd H2 f.heap.objs.size<|.lst []) fp) rfl rfl rfl hc i [] s5 U H5 _ I5 (O fr5) st5 stop) λr s6 h9=>?_;obtain⟨hr,Z⟩:=h9;subst hr;obtain⟨m6,hn6,_⟩:=Z.loc;refine aV<|hfin s6 _ _ H5 m6 hn6 (I3.Nn (aO _) Z.free) (λh' sb=>?_) q _;have u6:=Z.base;have nC:∀b o,(f.heap.push {}).get? b=some o->b≠(f.heap.push {}).objs.size:=λb o e=>bw<|bh e;refine I3.Xk (ch:=fp) Z.os ⟨λb o e n j hx=>?_,λb o e n j hx=>?_,λb o e n hx=>?_,λb o e hx=>?_,u6.tups,u6.frzs,u6.tbls⟩ ?_ Z.bare ?_
   ·exact sb.extBut b o (nC b o e) (u6.keep b o e n j hx)
   ·obtain⟨sl,z⟩:=u6.slot b o e n j hx;exact⟨sl,sb.extBut b _ (nC b o e) z⟩
   ·exact u6.free b o e n hx
   ·obtain⟨o',z⟩:=u6.there b o e hx;exact⟨o',sb.extBut b _ (nC b o e) z⟩
   ·intro b o e;have j:∀c v,H5 c=some v->c≠(f.heap.push {}).objs.size:=λc v e z=>by
     rw[z]at e;have:=Z.free;rw[show H5 (f.heap.push {}).objs.size=none from this]at e
     cases e
    refine(Z.hok b o e).stay (λc v hc q=>sb.extBut c v ?_ q) (λ_ q=>q) λ_ _ q=>q
    rcases hc with z|z
    ·rw[z];exact j b o e
    ·exact j c _ z
   ·intro b j;obtain⟨_,z1,_,z3,z4,z5⟩:=f3 b j;exact⟨z3,z1,z4,z5⟩
  ·refine ng (T.item (pS X scope N (f.heap.push {}).objs.size { f with heap:=f.heap.push {}} (upd H2 f.heap.objs.size<|.lst []) fp) rfl rfl rfl hc i [] s5 U H5 _ I5 (O fr5) st5 go) λr s6 h9=>?_;obtain⟨u,hr,h6⟩:=h9;subst hr;refine aH<|ng h6 λ_ s7 ⟨x,H7,I7,r7,y7,st7,fr7⟩=>?_;have I7':=I7.pinned (O fr7)<|T.obj _ _ st7;refine aH<|WG (hg _ _ _ fp _ s7 U H7 x u _ I7' r7<|step x H7 y7) λ_ s8 ⟨G,H8,I8,q8⟩=>?_;refine aH<|WG (ht _ _ _ fp _ s8 G H8 _ I8 q8) λok s9 ⟨H9,I9,q9⟩=>?_;have again:∀{K:az} {k:Hp},Inv (pS X scope N (f.heap.push {}).objs.size { f with heap:=f.heap.push {}} (upd H2 f.heap.objs.size<|.lst []) fp) ([]++BD fp s7.heap) G k K->(∃m',m'<n/\W (i+1) m' G k) ->
     ∃m,m<n/\∃i M H',Inv (pS X scope N (f.heap.push {}).objs.size { f with heap:=f.heap.push {}} (upd H2 f.heap.objs.size<|.lst []) fp) [] M H' K/\tn i K.heap/\(∀b∈fp,H' b=none)/\W i m M H':=λ{K k} P h9=>by
    obtain⟨m',hm,Y⟩:=h9;refine⟨m',hm,i+1,G,k,P.vh,T.keep _ _ _ st7 λb j o e=>(P.pin (b,o)<|bR _<|bR _<|rQ j e).1,λb j=>?_,Y⟩;obtain⟨o,e,d⟩:=T.obj _ _ st7 b j;exact(P.pin (b,o)<|bR _<|bR _<|rQ j e).2.1
   cases ok with
   | false=>
    rw[aI bJ]at q9;exact aV ⟨rfl,again I9 q9⟩
   | true=>
    rw[aJ rfl]at q9;refine aH<|aH<|WG (he _ _ _ fp _ s9 G H9 _ I9 q9) λy K ⟨v10,k,P,r10,ys,hD,hz,Y⟩=>?_;refine aH<|WG (C6 _ K G k (.ref f.heap.objs.size) [v10] _ [y] (λ_ H'=>H'=upd k f.heap.objs.size (.lst<|ys++[v10])) P rfl (.cons r10 .nil) ⟨_,ys,v10,rfl,rfl,hD,hz,rfl⟩) λ_ s11 ⟨_,H11,I11,_,e11⟩=>?_;subst e11;exact aV<|aV ⟨rfl,again I11 Y⟩
 exact codeAny_compStart_list (V _ rfl)<|T.self _ 0 _ _ _ st4<|V _ rfl
def aaK{ok:Cx->Prop}{X:Cx}{iter:aA}{N:ar}{U:TI}{g:TG}{tc:TT}{te:TE}(S:CpScope X scope N cap)(J:∀C s₀ H₀ ex,(∀a o u,X.H₀ a=some (.frz o u)->H₀ a=some (.frz o u))->ok (pS X scope N C s₀ H₀ ex))(hi:PIg ok X tg iter U)
  (hg:∀C s₀ H₀ ex,PG (pS X scope N C s₀ H₀ ex) tg g) (ht:∀C s₀ H₀ ex,PTs (pS X scope N C s₀ H₀ ex) ifs tc) (he:∀C s₀ H₀ ex,PE (pS X scope N C s₀ H₀ ex) elt te)
  (hs:(∀x,foldedSetIterable iter X.env x=pure x)<|>θ):PE X (.ListComp elt [⟨tg,iter,ifs,0⟩] scope pos) (tLC cap U g tc te):=by
 w_up;rw[eval_ListComp];exact Mi (use:=none) (Q':=EP X pins σ Q) S J hi hg ht he hs pins s σ H Q I h λf C D d m hn e inv q v=>⟨m,hn,λh' c=>⟨.ref D,d,inv h' c,rfl,q⟩⟩
def abA{X:Cx}{iter:aA}{N:ar}{J:TI}{g:TG}{tc:TT}{te:TE}(hc:X.calm=true)(S:CpScope X scope N cap)(hi:PI X tg iter J)
  (hg:∀C s₀ H₀ ex,PG (pS X scope N C s₀ H₀ ex) tg g) (U:∀C s₀ H₀ ex,PTs (pS X scope N C s₀ H₀ ex) ifs tc) (he:∀C s₀ H₀ ex,PE (pS X scope N C s₀ H₀ ex) elt te)
  (hs:(∀x,foldedSetIterable iter X.env x=pure x)<|>θ):PE X (.ListComp elt [⟨tg,iter,ifs,0⟩] scope pos) (tLC cap J g tc te):=
 aaK S (λ_ _ _ _ _=>hc) hi.g hg U he hs
section
variable {X:Cx}
def Qx{bs:List Bool}:∀{us:ax},Vals (bs.map V.bl) us->LSm.BoolsAre us bs:=by
 induction bs with
 | nil=>intro us r;cases r;exact .nil
 | cons b bs c=>
  intro us r
  cases r with
  | cons h t=>
   have e:_=Value.bool b:=h;subst e;exact .cons b<|c t
def NJ(hc:X.calm=true):kJ X (.builtin "all") (λxs H Q=>∃(p:ak) (bs:List Bool),xs=[.ref p]/\qt X.K H p (bs.map V.bl)/\Q (.bl<|bs.all id) H):=by
 x_go;obtain⟨p,bs,rfl,k,q⟩:=h;kcf_m
 cases rx
 obtain⟨its,m,pl,F⟩:=I.list k;have f:=Qx m;have d:=pl.isList;have c:p<s.heap.objs.size:=by obtain⟨_,e,_⟩:=d;exact bh e
 refine call_all_walk<|gY d ?_;refine⟨s.heap.objs.size,[s.heap.objs.size,p],[s.heap.objs.size],its.toArray.size,_,_,λi=>(bs[i]?).getD true,rfl,Walks.list (A:=X.A.in1) (I.ok.hd hc) _ p (bw c) its.toArray,
  ⟨⟨_,bC _ rfl,rfl,rfl⟩,d.push _⟩,λi v s' Q' B hP g=>?_,λh' C j=>?_⟩
 ·obtain⟨b,e,rfl⟩:=f.get i v (by simpa using hP);dsimp[e,iH]at g;exact eK g
 ·have e:((List.range its.toArray.size).all λi=>(bs[i]?).getD true)=bs.all id:=by
   rw[aZ,f.length];exact LSm.range_all bs
  rw[e];exact⟨.bl _,H,I.kept<|LSm.kept_iter j,rfl,q⟩
def EB:kJ X (.builtin "sorted") (λxs H Q=>∃(p:ak) (ns:ag),xs=[.ref p]/\(qt X.K H p (ns.map V.int)\/n_ X.K H p (ns.map V.int))/\ns.length<64 /\
  ∀l (ns':ag),H l=none->ns'.Perm ns->ns'.Pairwise (·<=·)->Q (.ref l) (upd H l<|.lst<|ns'.map V.int)):=by
 x_go;obtain⟨p,ns,rfl,j,M,q⟩:=h;kcf_m
 cases rx
 have go:∀(its:ax) (T:String) (o:Obj) (n:Nat),(T = "list" \/ T = "tuple")->s.heap.get? p=some o->o.cls=.type T->o.data=.seq its.toArray n->Vals (ns.map V.int) its ->
   wpAny (model X.prog X.w) X.A (call (.builtin "sorted") [.ref p]) (EP X pins σ Q) X.xe s:=by
  intro its T o n O k c B f;have U:=intsAre_of f;have g:its.length=ns.length:=by have:=f.length;rw[aG]at this;exact this.symm
  kln_w;unfold Builtin.«sorted»;refine aH (m:=checkCount "sorted" 1 1 _)<|aV ?_;refine aH (wpAny_collect_seq p O k c B (λh' P=>?_)<|by rw[aZ,g,dR];lia);refine aH<|jv ?_;have d:(h'.push<|seqObj "list" its.toArray 0).get? h'.objs.size=some (seqObj "list" its.toArray 0):=bC _ rfl
  skip
  refine aH<|dc<|eg slot_list_sort ⟨_,d,rfl⟩ entry_list_sort (list_sort_tree d U () λout ns' Z J Y=>⟨_,rfl,?_⟩)<|args_list_sort _;obtain⟨e,N⟩:=sortedHeap_at (out:=out) d;have G:ns'.length=ns.length:=J.length_eq;have L:Inv X pins σ H { s with heap:=h' }:=I.kept (t':=s.toks) P;have old:∀b F,h'.get? b=some F->(sortedHeap (h'.push<|seqObj "list" its.toArray 0) h'.objs.size its out).get? b=some F:=λb F C=>by
   rw[sortedHeap_old (bw<|bh C)<|by rw[h_];exact fu<|bh C];exact aR _ C
  refine aV ⟨_,rfl,.ref h'.objs.size,_,L.laid (t':=s.toks) (o:=.lst<|ns'.map V.int) old (aO _) ?_,rfl,q _ ns' (L.hok.fresh<|aO _) J Y⟩;refine⟨by rw[aG,G,dR];lia,out.toList,e,yP Z,?_⟩;rw[N]
 rcases j with j|j
 ·obtain⟨its,f,pl,W⟩:=I.list j;obtain⟨o,k,c,n,B⟩:=pl.isList;exact go its "list" o n (.inl rfl) k c B f
 ·obtain⟨its,f,pl,W⟩:=I.tuple j;obtain⟨o,k,c,n,B⟩:=pl;exact go its "tuple" o n (.inr rfl) k c B f
def Fv:kJ X (.type "range") (λxs H Q=>∃i j,xs=[.int i,.int j]/\∀p,H p=none->Q (.ref p) (upd H p<|.rng i j)):=by
 x_go;obtain⟨i,j,rfl,q⟩:=h;obtain⟨u,d,rfl,⟨t,rfl⟩,⟨c,rfl⟩⟩:=vals2 r;refine call_range_2 ⟨.ref s.heap.objs.size,_,I.laid (o:=.rng i j) (λb o e=>aR _ e) (aO _) ?_,rfl,q _ I.fresh⟩;exact⟨t,c,s.toks,bC _ rfl⟩
abbrev mh (i j:Int):ag:=(List.range (j-i).toNat).map λk:Nat=>i+(k:Int)
def uM(i j:Int):(mh i j).length=(j-i).toNat:=by unfold mh;rw[aG,cJ]
def Bf{i:Int}{n:Nat}{acc:Array af}(h:ItemsOf (λk v=>∃t,v=Value.int (i+(k:Int) * 1) t) acc n):Vals (((List.range n).map λk:Nat=>i+(k:Int)).map V.int) acc.toList:=by
 obtain⟨hs,hv⟩:=h;have c:∀(l:ax) (b:Nat),(∀j v,l[j]?=some v->∃t,v=Value.int (i+((b+j:Nat):Int)) t)->Vals (((List.range' b l.length).map λk:Nat=>i+(k:Int)).map V.int) l:=by
  intro l
  induction l with
  | nil=>intro b _;exact .nil
  | cons v l g=>
   intro b d;rw[bA,iI,bH,bH];refine .cons ?_ ?_
   ·obtain⟨t,e⟩:=d 0 v rfl;exact⟨t,by rw[e];simp⟩
   ·refine g (b+1) λj w hw=>?_;obtain⟨t,e⟩:=d (j+1) w hw;exact⟨t,by rw[e,show b+(j+1)=b+1+j by lia]⟩
 have:=c acc.toList 0 λj v f=>by
  obtain⟨t,e⟩:=hv j v (by simpa using f);exact⟨t,by rw[e,cU,Int.mul_one]⟩
 rw[dI,hs,<- gq]at this;exact this
def Tv{i j:Int}:Builtin.Range.rangeSize i j 1=(((j-i).toNat:Nat):Int):=by rw[rangeSize_one];split<;>omega
def Cz(hc:X.calm=true):kJ X (.type "list") (λxs H Q=>∃p i j,xs=[.ref p]/\H p=some (.rng i j)/\(-(2 ^ 62)<=i/\i<2 ^ 62/\-(2 ^ 62)<=j/\j<2 ^ 62)/\(j-i).toNat<=1000/\∀l,H l=none->Q (.ref l) (upd H l<|.lst<|(mh i j).map V.int)):=by
 x_go;obtain⟨p,i,j,rfl,f,⟨m,F,B,C⟩,hn,q⟩:=h;kcf_m
 cases rx
 obtain⟨t,G,v,e⟩:=I.hok p _ f;refine call_list_range (n:=(j-i).toNat) (I.ok.hd hc) e (small_one m F B C) Tv () λh' J d k g hS c=>?_;refine⟨.ref s.heap.objs.size,_,I.laid (o:=.lst<|(mh i j).map V.int) g (aO _) ⟨?_,d.toList,k,Bf c,by rw[hS]⟩,rfl,q _ I.fresh⟩;rw[aG,uM,dR];lia
end
section
variable {X:Cx}
def GJ{prog:aj}{w:ah}{A:ay}{E:af->az->Prop}{s:az}{Q:ax->az->Prop}{r:ak}{a b c:Int}{t v:Tok}{n:Nat}(hh:A.handled=none)(hr:IsRange s.heap r a b c t u v)(J:Builtin.Range.small a b c=true)
  (hn:Builtin.Range.rangeSize a b c=n) (U:n<=2 ^ 24)
  (hQ:∀h' tk (acc':Array af),(∀b o,s.heap.get? b=some o->h'.get? b=some o)->ItemsOf (λi v=>∃t,v=.int (a+i * c) t) acc' n->Q acc'.toList { s with heap:=h',toks:=tk }) :
  wpAny (model prog w) A (collect<|.ref r) Q E s:=by
 unfold collect;refine aH<|wpAny_runValue<|f6 F.entry_proto_collect ?_;rw[eB F.plain_proto_collect _]
 skip
 refine aH<|cu ?_;refine aV ⟨iP F.plain_list_iadd _,f6 F.entry_list_iadd ?_⟩;rw[eB F.plain_list_iadd _]
 skip
 have hS:(s.heap.push {}).get? s.heap.objs.size=some { cls:=.type "list",data:=.seq #[] 0 }:=bC _ rfl;have k:∀(h':aq) (tk:Nat) (acc':Array af) (j:Nat),(∀b o,b≠s.heap.objs.size->(s.heap.push {}).get? b=some o->h'.get? b=some o) ->
   h'.get? s.heap.objs.size=some { cls:=.type "list",dict:=none,data:=.seq acc' j,slots:=#[]}->ItemsOf (λi v=>∃t,v=.int (a+i * c) t) acc' n ->
   wpAny (model prog w) A (match Value.ref s.heap.objs.size with
   | Value.ref a=>do
    match (<- load a).data with
     | Data.seq xs _=>pure xs.toList
     | _=>unsupported "internal:collect"
   | _=>unsupported "internal:collect") Q E { s with heap:=h',toks:=tk }:=by
  intro h' tk acc' j m g d
  skip
  refine aH<|wpAny_load g ?_;refine aV ?_;exact hQ h' tk acc' (λb o e=>m b o (bw<|bh e)<|aR _ e) d
 refine gM (wpAny_extend_range (A:=A) (R:=λq s'=>q=.ok (.ret<|.ref s.heap.objs.size)/\∃h' tk acc' j,s'={ s with heap:=h',toks:=tk }/\(∀b o,b≠s.heap.objs.size->(s.heap.push {}).get? b=some o->h'.get? b=some o) /\
   h'.get? s.heap.objs.size=some { cls:=.type "list",dict:=none,data:=.seq acc' j,slots:=#[]}/\ItemsOf (λi v=>∃t,v=.int (a+i * c) t) acc' n)
  (s:={ s with heap:=s.heap.push {}}) hh (aR _ hr) J hn U s.heap.objs.size (.ref s.heap.objs.size) 0 hS
  (λh' tk acc' j m g d=>⟨rfl,h',tk,acc',j,rfl,m,g,d⟩)) (λfin s' h=>?_) λe s' h=>?_
 ·cases fin with
  | done f=>
   obtain⟨e,h',tk,acc',j,rfl,m,g,d⟩:=h
   cases e
   exact k h' tk acc' j m g d
  | again j=>exact⟨h.1,jE h.2 λr p hr=>by
    obtain⟨rfl,h',tk,acc',j,rfl,m,g,d⟩:=hr;exact k h' tk acc' j m g d⟩
 ·exact absurd h.1<|by simp
def wI(l:ak){a b:Int}{t v:Tok}{n:Nat}(U:Builtin.Range.small a b 1=true)
  (hn:Builtin.Range.rangeSize a b 1=n) (hlen:n<=1000) :
  Meets (Builtin.«tuple.__new__» ⟨[.type "tuple",.ref l],[]⟩)
   (λA R s=>A.handled=none/\IsRange s.heap l a b 1 t u v/\∀(h':aq) (tk:Nat) (acc':Array af),(∀b o',s.heap.get? b=some o'->h'.get? b=some o')->ItemsOf (λi v=>∃t,v=.int (a+i * 1) t) acc' n->R (.ok<|.ret<|.ref h'.objs.size) { s with heap:=h'.push { cls:=.type "tuple",data:=.seq acc' },toks:=tk }):=
 .of_wp λprog w A R s h=>by
  obtain⟨C,g,d,tk,q⟩:=s;obtain⟨G,k,h⟩:=h;have p:=sub_tuple_self;have f:=init_tuple_lookup;have J:=madeHere_tuple;have B:Shared.TypeIs ⟨C,g,d,tk,q⟩ (.ref l) "range" := ⟨_,k,rfl⟩;have j:A.in1.handled=none:=G
  wp_walk using AutoSeq1.wpAny_loadPart' k,fS B,GJ (A:=A.in1) j k U hn (by omega)
  intro h' m acc' F c;show wpAny _ _ (Builtin.Tuple.tupleExact acc'.toList.toArray >>= λv=>ret v) _ _ _;unfold Builtin.Tuple.tupleExact;have e:acc'.toList.toArray=acc':=by simp
  refine aH (cu ?_<|by show acc'.toList.toArray.size<=sizeLine;rw[e,c.1,dR];omega);refine aV ⟨_,rfl,?_⟩;rw[e];exact h h' m acc' F c
def BX(hc:X.calm=true):kJ X (.type "tuple") (λxs H Q=>∃p i j,xs=[.ref p]/\H p=some (.rng i j)/\(-(2 ^ 62)<=i/\i<2 ^ 62/\-(2 ^ 62)<=j/\j<2 ^ 62)/\(j-i).toNat<=1000/\∀l,H l=none->Q (.ref l) (upd H l<|.tup<|(mh i j).map V.int)):=by
 x_go;obtain⟨p,i,j,rfl,m,⟨C,K,G,J⟩,hn,q⟩:=h;kcf_m
 cases rx
 obtain⟨t,L,v,e⟩:=I.hok p _ m;refine callType_new F.called_tuple ⋯ (F.typeCall_tuple_1 _) (F.newCall_tuple_1 _) (λf=>F.args_object_init_2 f _) F.entry_tuple_new
  (wI (n:=(j-i).toNat) p (small_one C K G J) Tv hn) ⟨I.ok.hd hc,e,λh' g c B d=>⟨⟨_,bC _ rfl,rfl⟩,?_⟩⟩
 have k:Inv X pins σ H { s with heap:=h',toks:=g }:=I.kept B;refine⟨.ref h'.objs.size,_,k.laid (t':=g) (o:=.tup<|(mh i j).map V.int) (λb o e=>aR _ e) (aO _) ⟨?_,c.toList,Bf d,?_⟩,rfl,q _<|k.hok.fresh<|aO _⟩
 ·rw[aG,uM,dR];lia
 ·have e:c.toList.toArray=c:=by simp
  rw[e];exact p_.new _ _
abbrev ad5 (K:au)(te:TE):TE:=λσ H Q=>te σ H λx H1=>∃a xs,x=.ref a/\qt K H1 a xs/\∀p,H1 p=none->Q (.ref p) (upd H1 p<|.lst xs.reverse)
def WS{e:aA}{te:TE}{up cp:Pos}{U:Nat}(he:PE X e te):PE X (.Subscript e (.Slice none none (some<|.UnaryOp .USub (.Constant (.int 1) U cp) up) p2) pos) (ad5 X.K te):=by
 w_up;refine Subscript_<|ng (he pins s σ H _ I h) λv C ⟨x,H1,F,r1,a,xs,ex,j,q⟩=>?_;subst ex
 cases r1
 refine wpAny_Slice ?_;rw[ju];refine aV ?_;refine aV ?_;rw[evalPart_some];refine ng ((QK (a:=.Constant (.int 1) U cp) Jw IU) pins C σ H1 (λv H'=>v=.int (-1)/\H'=H1) F ⟨1,rfl,rfl,rfl⟩) λG c h9=>?_;obtain⟨y,H3,g,k,p,m⟩:=h9;subst p m;obtain⟨t,rfl⟩:=k;have I4:Inv X pins σ H3 { c with heap:=c.heap.push { cls:=.type "slice",data:=.fields #[.none,.none,.int (-1) t]}}:=g.kept (t':=c.toks) λb J q=>aR _ q;obtain⟨its,f,pl,B⟩:=I4.list j
 skip
 refine tail_any (ops:=[.ref a,.ref c.heap.objs.size]) pl.isList.typeIs jl.lookup ?_ (by with_unfolding_all rfl);have d:=f.length;refine wpAny_getItem_list_slice pl.isList (jc ..) .none .none (.int (-1) t) ⋯ ?_ (by rw[aZ]<;>lia);rw[PySem.W.krv_pick];refine⟨.ref _,_,I4.WL (t':=c.toks) (ys:=xs.reverse) (its:=its.reverse) f.reverse<|by rw[eN];exact B,rfl,q _ I4.fresh⟩
def F3{c:String}:kJ X (.builtin "isinstance") (λxs H Q=>∃x t b,xs=[x,.ty c]/\TyOf X.K H x t/\PySem.W.kitOne X.K t (.type c)=some b/\Q (.bl b) H):=by
 x_go;obtain⟨x,t,b,rfl,ty,e,q⟩:=h;obtain⟨u,g,rfl,rx,d⟩:=vals2 r
 cases d
 exact OG I rx ty e λf=>⟨.bl b,H,I.tok f,rfl,q⟩
abbrev Zl (K:au):R2:=λx y H Q=>∃a b ys,x=.ref a/\y=.ref b/\n_ K H a []/\n_ K H b ys/\Q (.ref b) H
def Qf:pR X (binaryOp .Add) (Zl X.K):=by
 kd_p;obtain⟨a,b,ys,rfl,rfl,h1,h2,q⟩:=h
 cases rx
 cases ry
 obtain⟨us,r1,p1,_⟩:=I.tuple h1;obtain⟨F,r2,p2,_⟩:=I.tuple h2
 cases r1
 obtain⟨⟨cls,B,data,C⟩,m,hc,n,p⟩:=id p1;obtain⟨⟨k,g,j,f⟩,c,d,G,e⟩:=id p2;simp only at hc p d e;subst hc p d e;exact concat_meets ⟨_,m,rfl⟩ ⟨_,c,rfl⟩ noFill_tuple_add seq_tuple_add gZ gU (gG _ _)
   (tuple_addW0 a b _ F.toArray n G B g C f<|by simp) ⟨m,c,⟨.ref b,H,I,rfl,q⟩⟩
end
def pU:bootBuiltins "len" = some (.builtin "len"):=by decide +kernel
def aaP:bootBuiltins "abs" = some (.builtin "abs"):=by decide +kernel
def aaT:bootBuiltins "all" = some (.builtin "all"):=by decide +kernel
def zq:bootBuiltins "sorted" = some (.builtin "sorted"):=by decide +kernel
def qc:bootBuiltins "isinstance" = some (.builtin "isinstance"):=by decide +kernel
def Jq:bootBuiltins "int" = some (.type "int"):=by decide +kernel
def KD:bootBuiltins "bool" = some (.type "bool"):=by decide +kernel
def EO:bootBuiltins "list" = some (.type "list"):=by decide +kernel
def u0:bootBuiltins "tuple" = some (.type "tuple"):=by decide +kernel
def Hf:bootBuiltins "range" = some (.type "range"):=by decide +kernel
def Ml:∀{a b:ag},a.Perm b->a.Pairwise (·<=·)->b.Pairwise (·<=·)->a=b:=λp d c=>
 eo (λx y _ _ h1 h2=>Int.le_antisymm h1 h2) d c p
def Ma(i j:Int):(mh i j).Pairwise (·<=·):=by
 unfold mh;rw[cK];exact List.pairwise_lt_range.imp λh=>()
def rL(i j:Int):(mh i j).Nodup:=by
 unfold mh;rw[List.Nodup,cK];exact List.pairwise_lt_range.imp λh=>()
def pM{i j k:Int}:k∈mh i j ↔ i<=k/\k<j:=by
 unfold mh;rw[aW];constructor
 ·rintro⟨a,c,rfl⟩;have:=cY.mp c;omega
 ·rintro⟨h1,h2⟩;exact⟨(k-i).toNat,cY.mpr<|by omega,by omega⟩
theorem zS:∀{l m:ag},l.Nodup->(∀x∈l,x∈m)->m.length<=l.length->l.Perm m
 | [],m,_,_,h=>by
  have:m=[]:=dW.mp<|Nat.le_zero.mp h;rw[this]
 | a::l,m,nd,hs,hl=>by
  have g:a∈m:=hs a aL;have c:=cN.mp nd;have j:m.Perm (a::m.erase a):=List.perm_cons_erase g;have k:=zS (l:=l) (m:=m.erase a) c.2 (λx f=>by
   have d:x≠a:=λe=>c.1<|e ▸ f;exact(List.mem_erase_of_ne d).mpr (hs x<|aN _ f)) (by
   rw[List.length_erase_of_mem g];dsimp[bA]at hl;omega)
  exact(List.Perm.cons a k).trans j.symm
abbrev Kn (P:aj)(w:ah)(K:au)(mg:Str->bb)(base:aq)(k:Nat)(x:Str)(ps:ar)(sp:Sp):Prop:=
 ∃(f:ak) (fd:FuncData),FnOk P w K mg base qG k f fd ps sp/\mg x=some (.ref f)/\PySem.W.keepIn K (.ref f)=true/\Binds K fd ps []
def ac1{X:Cx}{k:Nat}{x:Str}{sp:Sp}{e:aA}{t:TA}{p:Pos}(G:Kn X.prog X.w X.K X.mg X.base k x ps sp)(hr:Room k X.A)(ha:PA X (e::es) t)(hg:Gl X x<|>η)
  (U:(x == ("__debug__" : Str))=false<|>δ) (hs:starEach (e::es) X.env=(false,eval e X.env)::starEach es X.env<|>η) (J:((backTo pos<|starEach es X.env).any (·.1)=false)<|>η) :
  PE X (.Call (.Name x p) (e::es) [] pos) (Yz sp [] E0 t):=by
 obtain⟨f,fd,F,c,g,d⟩:=G;exact WM F hr hg c g d .nil abl ha U hs J
abbrev Bc (J fs:ar):ar->List (bn)->Prop
 | [],[]=>True
 | _::N,none::c=>Bc J fs N c
 | x::N,some j::c=>J[j]?=some x/\x∈fs/\Bc J fs N c
 | _,_=>False
theorem Bc.len{fs:ar}:∀{N:ar}{c:List<|bn},Bc XN fs N c->c.length=N.length
 | [],[],_=>rfl
 | _::N,none::c,h=>dY (·+1) (Bc.len (N:=N) (c:=c) h)
 | _::N,some j::c,h=>dY (·+1) (Bc.len (N:=N) (c:=c) h.2.2)
 | [],_::_,h=>h.elim
 | _::_,[],h=>h.elim
theorem Bc.cp{fs:ar}:∀{N:ar}{c:List<|bn},Bc XN fs N c->∀(i j:Nat) (x:Str),N[i]?=some x->c[i]?=some (some j)->XN[j]?=some x/\x∈fs
 | [],[],_,i,j,x,h1,_=>by simp at h1
 | y::N,none::c,h,i,j,x,h1,h2=>by
  cases i with
  | zero=>simp at h2
  | succ i=>exact Bc.cp (N:=N) (c:=c) h i j x (by simpa using h1)<|by simpa using h2
 | y::N,some k::c,h,i,j,x,h1,h2=>by
  cases i with
  | zero=>
   simp at h1 h2;subst h1 h2;exact⟨h.1,h.2.1⟩
  | succ i=>exact Bc.cp (N:=N) (c:=c) h.2.2 i j x (by simpa using h1)<|by simpa using h2
 | [],_::_,h,_,_,_,_,_=>h.elim
 | _::_,[],h,_,_,_,_,_=>h.elim
def yI{X:Cx}{scope:Scope}{N:ar}(fs:ar)(kind:scope.kind=.function)(nocell:∀y∈scope.names,y.2≠.cell)(nm:∀y∈scope.names,y.2=.local->scope.names.lookup y.1=some .local)
  (nolf:∀y∈scope.names,y.2=.free->scope.names.lookup y.1≠some .local) (hf:∀y∈scope.names,y.2=.free->y.1∈fs) (J:∀x∈fs,(x,NameKind.free)∈scope.names) (U:∀x∈fs,X.env.kindOf x=some .cell\/X.env.kindOf x=some .free) (cp:Bc X.N fs N cap):CpScope X scope N cap where
 kind:=kind
 nocell:=nocell
 nm:=nm
 fr:=λy f e=>U _ (hf y f e)
 rl:=λy h=>by
  have go:∀k,(k=NameKind.cell\/k=NameKind.free)->(relabel scope X.env).names.lookup y=some k->(y,NameKind.free)∈scope.names:=λk U e=>by
   obtain⟨⟨p,m⟩,d,c⟩:=aW.mp<|By e;dsimp only at c;split at c
   ·rename_i hc
    cases c
    have:m=.free:=by
     dsimp[b_]at hc;simpa using hc.1.1
    subst this;exact d
   ·cases c
    rcases U with rfl|rfl
    ·exact absurd rfl (nocell _ d)
    ·exact d
  rcases h with h|h
  ·exact go _ (.inl rfl) h
  ·exact go _ (.inr rfl) h
 len:=cp.len
 nolf:=λx g=>nolf (x,.free) g rfl
 cp:=λi j x h1 h2=>by
  obtain⟨a,b⟩:=cp.cp i j x h1 h2;exact⟨a,J x b⟩
inductive Kd where
 | non|bl|int|str|lst|tup
 deriving DecidableEq
abbrev Kd.ty:Kd->af
 | .non=>.type "NoneType" | .bl=>.type "bool" | .int=>.type "int" | .str=>.type "str" | .lst=>.type "list" | .tup=>.type "tuple"
abbrev ZF (H:Hp)(x:V):Kd->Prop
 | .non=>x=.non
 | .bl=>∃b,x=.bl b
 | .int=>∃i,x=.int i
 | .str=>∃s,x=.str s
 | .lst=>∃a xs,x=.ref a/\H a=some (.lst xs)
 | .tup=>∃a xs,x=.ref a/\H a=some (.tup xs)
def ZF.ad4{K:au}{H:Hp}{x:V}{k:Kd}(h:ZF H x k):TyOf K H x k.ty:=by
 cases k with
 | non=>cases h;exact .non
 | bl=>obtain⟨b,rfl⟩:=h;exact .bl b
 | int=>obtain⟨b,rfl⟩:=h;exact .int b
 | str=>obtain⟨b,rfl⟩:=h;exact .str b
 | lst=>obtain⟨a,xs,rfl,e⟩:=h;exact .lst e
 | tup=>obtain⟨a,xs,rfl,e⟩:=h;exact .tup e
def VM{K:au}(k:Kd):PySem.W.kitOne K k.ty (.type "int")=some (decide<|k=.int\/k=.bl):=by cases k<;>rfl
def P_{K:au}(k:Kd):PySem.W.kitOne K k.ty (.type "bool")=some (decide<|k=.bl):=by cases k<;>rfl
def kit_tuple{K:au}(k:Kd):PySem.W.kitOne K k.ty (.type "tuple")=some (decide<|k=.tup):=by cases k<;>rfl
def Rh{K:au}(k:Kd):PySem.W.kitOne K k.ty (.type "list")=some (decide<|k=.lst):=by cases k<;>rfl
section
variable {prog:aj}{w:ah}{A:ay}{E:af->az->Prop}{s:az}
def JC(n:Nat):Builtin.Slice.sliceAdjust none none (-1) (n:Int)=((n:Int)-1,-1):=by
 unfold Builtin.Slice.sliceAdjust;rfl
def IC(n:Nat):Builtin.Slice.slicePlaces ((n:Int)-1) (-1) (-1)=n:=by
 unfold Builtin.Slice.slicePlaces;have h1:¬((-1:Int)>0):=by decide
 dsimp[h1,cG];by_cases h:n=0
 ·subst h;simp
 ·rw[aJ ()];rw[show(- -1:Int)=1 by decide,Int.ediv_one]
  lia
def yT{t:Tok}{n:Nat}{Q:Int×Int×Nat->az->Prop}(hs:s.heap.IsSliceOf sl .none .none<|.int (-1) t)
  (h:Q ((n:Int)-1,-1,n) s):wpAny (model prog w) A (Builtin.Slice.sliceApplied (.ref sl)<|pure (n:Int)) Q E s:=by
 obtain⟨f,d,e,c⟩:=id hs;unfold Builtin.Slice.sliceApplied Builtin.Slice.sliceFields;refine aH<|aH<|iQ d c (x:=.none) rfl<|aH<|iQ d c (x:=.none) rfl<|aH<|iQ d c (x:=.int (-1) t) rfl<|aV ?_;refine aH (slicePart_int ?_)
 skip
 rw[aI ⋯];refine aH<|slicePart_none<|aH<|slicePart_none<|aH<|aV ?_;show wpAny _ _ (match Builtin.Slice.sliceAdjust none none (-1) (n:Int)with|(lo,hi)=>pure (lo,(-1:Int),Builtin.Slice.slicePlaces lo hi<|-1)) _ _ s;rw[JC n];show wpAny _ _ (pure ((n:Int)-1,(-1:Int),Builtin.Slice.slicePlaces ((n:Int)-1) (-1)<|-1)) _ _ s;rw[IC];exact aV h
def Ql(xs:Array af):((List.range xs.size).filterMap λ(m:Nat)=>xs[((xs.size:Int)-1+(m:Int) * (-1)).toNat]?).toArray=xs.toList.reverse.toArray:=by
 have e:(λ(m:Nat)=>xs[((xs.size:Int)-1+(m:Int) * (-1)).toNat]?)=(λx=>xs[x]?) ∘ λk=>xs.size-1-k:=by
  funext m
  have:((xs.size:Int)-1+(m:Int) * (-1)).toNat=xs.size-1-m:=()
  show xs[((xs.size:Int)-1+(m:Int) * (-1)).toNat]?=xs[xs.size-1-m]?;rw[this]
 rw[e,<- jb,PySem.W.krv_range,List.filterMap_reverse,PySem.W.krv_all]
def xZ{t:ak}{J:Array af}{Q:af->az->Prop}(U:IsTup s.heap t J)(hs:s.heap.IsSliceOf sl .none .none<|.int (-1) tk)
  (h:Q (.ref s.heap.objs.size) { s with heap:=s.heap.push { cls:=.type "tuple",data:=.seq J.toList.reverse.toArray }})
  (hsz:J.size<=sizeLine):wpAny (model prog w) A (getItem (.ref t)<|.ref sl) Q E s:=by
 have c:sizeOk (.seq J.toList.reverse.toArray):=by
  show J.toList.reverse.toArray.size<=sizeLine;rw[aZ,eN,dI];exact hsz
 obtain⟨k,g,e,j⟩:=id hs;have f:s.TypeIs (.ref sl) "slice" := ⟨k,g,e⟩;unfold getItem
 try with_reducible refine dc ?_
 first|refine aH (aV ?_)|skip
 refine aH<|wpAny_sequenceKey U.typeIs ⋯ ?_;refine aH (fM (name:=Str.ofString "__getitem__") U.typeIs cR
  (eg cR U.typeIs entry_tuple_getitem ?_<|args_tuple_getitem _ _))
 show wpAny _ _ (Builtin.Tuple.tupleItemsOf (.ref t) >>= _) _ _ s;refine aH<|tupleItemsOf_ U ?_;refine aH<|fS f ?_;rw[aJ ⋯];refine aH<|yT hs ?_;have d:¬((((J.size:Int)-1) == 0 && (-1:Int) == 1 && J.size == J.size)=true):=by
  intro q;rw[b_,b_]at q;exact absurd q.1.2 ⋯
 show wpAny _ _ (if (((J.size:Int)-1) == 0 && (-1:Int) == 1 && J.size == J.size)=true then _ else _) _ _ s;rw[aI d,Ql]
 first
  | exact aH (m:=Builtin.Tuple.tupleExact _) (cu (aV ⟨_,rfl,aV h⟩) c)
  | exact aH (m:=Builtin.Tuple.tupleExact _) (cu (aH<|aV<|aV ⟨_,rfl,aV h⟩) c)
  | exact aH (aH (m:=Builtin.Tuple.tupleExact _)<|cu (aV<|aV ⟨_,rfl,aV h⟩) c)
  | exact aH<|aH (m:=Builtin.Tuple.tupleExact _)<|cu (aV ⟨_,rfl,aV h⟩) c
end
section
variable {X:Cx}
abbrev adi (K:au)(te:TE):TE:=λσ H Q=>te σ H λx H1=>∃a xs,x=.ref a/\n_ K H1 a xs/\∀p,H1 p=none->Q (.ref p) (upd H1 p<|.tup xs.reverse)
def Li{e:aA}{te:TE}{up cp:Pos}{U:Nat}(he:PE X e te):PE X (.Subscript e (.Slice none none (some<|.UnaryOp .USub (.Constant (.int 1) U cp) up) p2) pos) (adi X.K te):=by
 w_up;refine Subscript_<|ng (he pins s σ H _ I h) λv F ⟨x,H1,G,r1,a,xs,ex,k,q⟩=>?_;subst ex
 cases r1
 refine wpAny_Slice ?_;rw[ju];refine aV ?_;refine aV ?_;rw[evalPart_some];refine ng ((QK (a:=.Constant (.int 1) U cp) Jw IU) pins F σ H1 (λv H'=>v=.int (-1)/\H'=H1) G ⟨1,rfl,rfl,rfl⟩) λJ c h9=>?_;obtain⟨y,H3,j,m,B,p⟩:=h9;subst B p;obtain⟨t,rfl⟩:=m;have d:Inv X pins σ H3 { c with heap:=c.heap.push { cls:=.type "slice",data:=.fields #[.none,.none,.int (-1) t]}}:=j.kept (t':=c.toks) λb L q=>aR _ q;obtain⟨its,g,pl,C⟩:=d.tuple k
 skip
 refine tail_any (ops:=[.ref a,.ref c.heap.objs.size]) pl.typeIs cR.lookup ?_ (by with_unfolding_all rfl);have f:=g.length;refine xZ pl (jc ..) ?_ (by rw[aZ]<;>lia);refine⟨.ref _,_,d.laid (t':=c.toks) (o:=.tup xs.reverse) (λb o e=>aR _ e) (aO _) ⟨by rw[eN];exact C,its.reverse,g.reverse,?_⟩,rfl,q _ d.fresh⟩;exact p_.new _ _
end
end L2
namespace L2
open PySem PySem.Spec PyProof.Rows
open PySem.SeqAt
open PySem.AutoSeq1 (wpAny_loadPart')
open PySem.MeetsSeq PySem.MeetsSeq2 PySem.MeetsSeq3 PySem.SeqAt
section
variable {X:Cx}
def SK:pR X (binaryOp .FloorDiv) (rI (λ_ j=>0<j/\j<18446744073709551616) λi j=>.int<|i / j):=opI λi j _ _ _ _ _ hc q=>by
 have h1:(0:Int)<j:=hc.1;have h2:j<18446744073709551616:=hc.2;refine floordiv_int (by omega) (by rw[Int.fdiv_eq_ediv_of_nonneg i<|by omega];exact q)<|.inl<|PyProof.noPylong_of_log2 ?_;exact bN ((Nat.log2_lt<|by omega).mpr<|show j.natAbs<2 ^ 64 by omega) ⋯
end
end L2
namespace L2
open PySem PySem.Spec PyProof.Rows
abbrev Its (x:Str):It:=⟨λi _=>i<x.cps.size,λi H v H'=>H'=H/\∃c,x.cps[i]?=some c/\v=.str ⟨#[c]⟩,λi _=>i=x.cps.size⟩
def Ry{P:aj}{w:ah}{K:au}(x:Str)(t:Tok)(it:ak):Turn P w K tg (Its x) [it] it (λi h=>h.IsStrIter it "str_ascii_iterator" x t i) where
 mem:=by simp
 obj:=λi h st b f=>by
  have e:b=it:=by simpa using f
  subst e;obtain⟨o,e,c,d⟩:=st;exact⟨o,e,λv z=>by rw[d]at z;cases z⟩
 keep:=λi h h' st k=>let⟨o,ho,r⟩:=st;⟨o,k it (by simp) o ho,r⟩
 item:=by
  k_ne;subst hP hw hK;gp_on;have W:=Walks.strAscii (prog:=X.prog) (w:=X.w) (I.ok.hd hc) it x t;refine W.item i s _ _ hg st λv h' m hv g p=>?_;obtain⟨c,u,j,rfl⟩:=hv;have B:Inv X pins σ H { s with heap:=h',toks:=m }:=I.turned (λb o f e=>p b o (by simpa using f) e) f0 f1 f3 f4 f5;obtain⟨o,e,q,d⟩:=id g;exact⟨_,rfl,F4 (s:={ s with heap:=h',toks:=m }) e q d ⋯ ⟨.str ⟨#[c]⟩,H,B,⟨u,rfl⟩,⟨rfl,c,j,rfl⟩,g,λb f=>(hf b f).1⟩⟩
 done:=by
  k_ne;subst hP hw hK;gp_on;have hg:i=x.cps.size:=hg;subst hg;have W:=Walks.strAscii (prog:=X.prog) (w:=X.w) (I.ok.hd hc) it x t;exact W.done s _ _ st λh' m p=>⟨rfl,I.turned (λb o f e=>p b o (by simpa using f) e) f0 f1 f3 f4 f5⟩
 self:=λ_ _ _ _ _ st h=>wpAny_pyIter_striter_ascii st h
section
variable {X:Cx}{tg:aA}
abbrev aew (tl:TE):TI:=λσ H R=>tl σ H λx H1=>∃y:Str,x=.str y/\y.cps.all (· < 128)=true/\R (Its y) H1
def aaC{l:aA}{tl:TE}(J:PE X l tl):PI X tg l (aew tl):=by
 intro pins s σ H R I h;refine ng (J pins s σ H _ I h) λv c h9=>?_;obtain⟨x,H1,I1,r1,d⟩:=h9;obtain⟨y,e,f,q⟩:=d;subst e;obtain⟨t,rfl⟩:=r1;refine wpAny_pyIter_ascii f ?_;refine⟨c.heap.objs.size,[c.heap.objs.size],_,_,H1,rfl,I1.kept (t':=c.toks) λb o e=>aR _ e,Ry y t _,⟨_,bC _ rfl,rfl,rfl⟩,λb g=>?_,q⟩;have e:b=c.heap.objs.size:=by simpa using g
 subst e;exact I1.Nn (aO _)<|I1.hok.fresh<|aO _
def N_:kJ X (.type "int") (λxs H Q=>∃(y:Str) (n:Int),xs=[.str y]/\y.length<=640/\PySem.intText? y=some n/\Q (.int n) H):=by
 intro pins s σ H xs us Q I e h;obtain⟨y,n,rfl,d,hn,q⟩:=h;obtain⟨w,rfl,c⟩:=vals1 e;obtain⟨u,rfl⟩:=c;exact PySem.W.KIN.call_text hn d ⟨.int n,H,I.tok _,⟨_,rfl⟩,q⟩
end
section
variable {κ:Type}[DecidableEq κ]
abbrev pY (kvs:List<|κ×V)(k:κ):Option V:=(kvs.find? λkv=>decide<|kv.1=k).map (·.2)
abbrev putK (kvs:List<|κ×V)(k:κ)(v:V):List (κ×V):=
 if (kvs.any λkv=>decide<|kv.1=k)=true then kvs.map (λkv=>if kv.1=k then(kv.1,v)else kv)else kvs++[(k,v)]
def vD{p:κ×V}{r:List<|κ×V}{k:κ}(e:p.1=k):pY (p::r) k=some p.2:=by simp[pY,cF,e]
def u9{p:κ×V}{r:List<|κ×V}{k:κ}(e:¬p.1=k):pY (p::r) k=pY r k:=by simp[pY,cF,e]
theorem yJ(k:κ):∀kvs:List<|κ×V,(kvs.any λkv=>decide<|kv.1=k)=(pY kvs k).isSome
 | []=>rfl
 | p::r=>by
  rw[iO];by_cases e:p.1=k
  ·dsimp[vD e,a_ e,Bool.true_or,jd]
  ·rw[u9 e,bq e,jw];exact yJ k r
def qo(kvs:List<|κ×V)(k:κ)(v:V):(putK kvs k v).length<=kvs.length+1:=by
 unfold putK;split
 ·rw[aG];lia
 ·rw[bg,bA,cX];lia
def yU.tN{o:Option V}{u:bb}(r:yU o u):o.isSome=u.isSome:=by
 cases o with
 | none=>cases u with
  | none=>rfl
  | some _=>exact(show False from r).elim
 | some _=>cases u with
  | none=>exact(show False from r).elim
  | some _=>rfl
def yU.getD{o:Option V}{u:bb}{d:V}(r:yU o u)(J:RelV d d'):RelV (o.getD d) (u.getD d'):=by
 cases o with
 | none=>cases u with
  | none=>exact J
  | some _=>exact(show False from r).elim
 | some _=>cases u with
  | none=>exact(show False from r).elim
  | some _=>exact r
def KV.val(r:KV kvs vs)(k:κ):yU (pY kvs k) (valueAt vs k):=by
 unfold KV at r
 induction r with
 | nil=>exact True.intro
 | @cons p q ps d h t f=>
  obtain⟨h1,h2⟩:=h;by_cases e:p.1=k
  ·have c:q.1=k:=h1.symm.trans e;have b:valueAt (q::d) k=some q.2:=by simp[valueAt,cF,c]
   rw[vD e,b];exact h2
  ·have c:¬q.1=k:=λz=>e<|h1.trans z;have b:valueAt (q::d) k=valueAt d k:=by simp[valueAt,cF,c]
   rw[u9 e,b];exact f
def KV.any{kvs:List<|κ×V}{vs:List<|κ×af}(r:KV kvs vs)(k:κ):(kvs.any λkv=>decide<|kv.1=k)=vs.any λkv=>decide (kv.1=k):=by
 unfold KV at r
 induction r with
 | nil=>rfl
 | cons h t c=>rw[iO,iO,c,h.1]
def KV.repl{kvs:List<|κ×V}{vs:List<|κ×af}(r:KV kvs vs)(k:κ)(ry:RelV y u) :
  KV (kvs.map λkv=>if kv.1=k then(kv.1,y)else kv) (vs.map λkv=>if kv.1=k then(kv.1,u)else kv):=by
 unfold KV at r ⊢
 induction r with
 | nil=>exact .nil
 | @cons p q ps d h t c=>
  rw[bH,bH];refine .cons ?_ c;obtain⟨h1,h2⟩:=h;by_cases e:p.1=k
  ·rw[aJ e,aJ<|h1.symm.trans e];exact⟨h1,ry⟩
  ·rw[aI e,aI λz=>e<|h1.trans z];exact⟨h1,h2⟩
def KV.put(r:KV kvs vs)(k:κ)(ry:RelV y u):KV (putK kvs k y) (stored vs k u):=by
 unfold putK stored;rw[r.any k];by_cases e:(vs.any λkv=>decide<|kv.1=k)=true
 ·rw[aJ e,aJ e];exact r.repl k ry
 ·rw[aI e,aI e];exact Paired.snoc r ⟨rfl,ry⟩
def KV.length{kvs:List<|κ×V}{vs:List<|κ×af}(r:KV kvs vs):kvs.length=vs.length:=jt r
end
def BS{P:aj}{w:ah}{k:Key}(r:RelV (kV k) u):(kN P w).is k u=true:=by
 cases k with
 | inl i=>obtain⟨t,e⟩:=(show ∃t,u=Value.int i t from r);subst e;exact GG P w i t
 | inr x=>obtain⟨t,e⟩:=(show ∃t,u=Value.str x t from r);subst e;exact Gu P w x t
theorem DK{P:aj}{w:ah}:∀{ks:List Key}{us:ax},Vals (ks.map kV) us->ItemsAre (kN P w) ks us
 | [],_,r=>by rw[fV]at r;cases r;exact .nil
 | k::ks,_,r=>by
  rw[bH]at r
  cases r with
  | cons h t=>exact .cons (BS h)<|DK t
meta abbrev KT (H:Hp):List (List Key×V)->List (List Key×ak×af)->Prop:=Paired λp q=>p.1=q.1/\H q.2.1=some (.tup<|p.1.map kV)/\RelV p.2 q.2.2
def KT.val{H:Hp}(r:KT H kvs xs)(k:List Key):yU (pY kvs k) ((atKey xs k).map (·.2)):=by
 induction r with
 | nil=>exact True.intro
 | @cons p q ps d h t f=>
  obtain⟨h1,_,h2⟩:=h;by_cases e:p.1=k
  ·have c:q.1=k:=h1.symm.trans e;have b:atKey (q::d) k=some q.2:=by simp[atKey,cF,c]
   rw[vD e,b];exact h2
  ·have c:¬q.1=k:=λz=>e<|h1.trans z;have b:atKey (q::d) k=atKey d k:=by simp[atKey,cF,c]
   rw[u9 e,b];exact f
def KT.repl{H:Hp}{kvs:List<|List Key×V}{xs:List<|List Key×ak×af}(r:KT H kvs xs)(k:List Key)(ry:RelV y u) :
  KT H (kvs.map λkv=>if kv.1=k then(kv.1,y)else kv) (xs.map<|putAt k u):=by
 induction r with
 | nil=>exact .nil
 | @cons p q ps d h t c=>
  rw[bH,bH];refine .cons ?_ c;obtain⟨h1,h2,h3⟩:=h;unfold putAt;by_cases e:p.1=k
  ·rw[aJ e,aJ<|h1.symm.trans e];exact⟨h1,h2,ry⟩
  ·rw[aI e,aI λz=>e<|h1.trans z];exact⟨h1,h2,h3⟩
def KT.put{H:Hp}(r:KT H kvs xs)(k:List Key){b:ak}(J:H b=some (.tup<|k.map kV))(ry:RelV y u) :
  KT H (putK kvs k y) (storedH xs k b u):=by
 have e:(kvs.any λkv=>decide<|kv.1=k)=(atKey xs k).isSome:=by
  rw[yJ,(r.val k).tN,gf]
 unfold putK storedH;rw[e];by_cases q:(atKey xs k).isSome=true
 ·rw[aJ q,aJ q];exact r.repl k ry
 ·rw[aI q,aI q];exact Paired.snoc r ⟨rfl,J,ry⟩
def KT.keeps{H H':Hp}(r:KT H kvs xs)(J:∀b ys,H b=some (.tup ys)->H' b=some (.tup ys)):KT H' kvs xs:=
 Paired.aa8 r λ_ _ z=>⟨z.1,J _ _ z.2.1,z.2.2⟩
section
variable {P:aj}{w:ah}{H:Hp}{h:aq}{a:ak}
def Yb(ok:xO P w H h)(e:Rd H a u):lJ P w H h a u:=e.ok ok
def ya{kvs:List<|Key×V}(ok:xO P w H h)(e:Rd H a<|.dK kvs):kvs.length<=sizeLine/\(a == sysModules)=false/\∃vs,KV kvs vs/\h.DictOf (kN P w) a vs:=
 show lJ P w H h a (.dK kvs)from Yb ok e
def Ky{kvs:List<|Key×V}(ok:xO P w H h)(e:H a=some (.dK kvs)):kvs.length<=sizeLine/\(a == sysModules)=false/\∃vs,KV kvs vs/\h.DictOf (kN P w) a vs:=ya ok<|.inl e
def vm{ks:List Key}(ok:xO P w H h)(e:H a=some (.tup<|ks.map kV)):(tupleKind<|kN P w).is h ks a:=by
 obtain⟨_,its,r,o,h1,h2,_,n,h3⟩:=(show lJ P w H h a (.tup<|ks.map kV)from ok a _ e);exact⟨o,its.toArray,n,h1,h2,h3,by simpa using DK r⟩
def zJ{kvs:List<|List Key×V}(ok:xO P w H h)(e:Rd H a<|.dT kvs):kvs.length<=sizeLine/\(a == sysModules)=false /\
  ∃xs,KT H kvs xs/\h.DictOfH (tupleKind<|kN P w) a xs:=by
 obtain⟨z,y,xs,r,o,es,ep,h1,h2,h3,f,j⟩:=(show lJ P w H h a (.dT kvs)from Yb ok e);refine⟨z,y,xs,r,o,es,ep,h1,h2,h3,f,λx c=>?_,j⟩;have all:∀{l:List<|List Key×V} {m:List<|List Key×ak×af},KT H l m->∀x∈m,(tupleKind<|kN P w).is h x.1 x.2.1:=by
  intro l m q
  induction q with
  | nil=>intro x c;exact nomatch c
  | @cons p q ps k d t g=>
   intro x c
   rcases bG.mp c with e|c
   ·subst e;exact vm ok (by rw[<- d.1];exact d.2.1)
   ·exact g x c
 exact all r x c
def Qo{kvs:List<|List Key×V}(ok:xO P w H h)(e:H a=some (.dT kvs)):kvs.length<=sizeLine/\(a == sysModules)=false /\
  ∃xs,KT H kvs xs/\h.DictOfH (tupleKind<|kN P w) a xs:=zJ ok<|.inl e
end
abbrev t8 (H:Hp)(a:ak)(y:V)(r:Option V):Prop:=
 (∃c k,Rd H a (.dK c)/\y=kV k/\r=pY c k)\/∃c k b,Rd H a (.dT c)/\y=.ref b/\H b=some (.tup<|k.map kV)/\r=pY c k
abbrev G9 (H:Hp)(a:ak)(y v:V)(H':Hp):Prop:=
 (∃c k,H a=some (.dK c)/\y=kV k/\c.length<sizeLine/\H'=upd H a (.dK<|putK c k v)) \/
 ∃c k b,H a=some (.dT c)/\y=.ref b/\H b=some (.tup<|k.map kV)/\c.length<sizeLine/\H'=upd H a (.dT<|putK c k v)
theorem t8.k{H:Hp}{a:ak}{k:Key}(e:H a=some (.dK kvs)):t8 H a (kV k) (pY kvs k):=.inl ⟨kvs,k,.inl e,rfl,rfl⟩
def t8.t{H:Hp}{a b:ak}{k:List Key}(e:H a=some (.dT kvs))(J:H b=some (.tup<|k.map kV)):t8 H a (.ref b) (pY kvs k):=.inr ⟨kvs,k,b,.inl e,rfl,J,rfl⟩
theorem G9.k{H:Hp}{a:ak}{kvs:List<|Key×V}{k:Key}{v:V}(e:H a=some (.dK kvs))(J:kvs.length<sizeLine):G9 H a (kV k) v (upd H a<|.dK<|putK kvs k v):=.inl ⟨kvs,k,e,rfl,J,rfl⟩
def G9.t{H:Hp}{a b:ak}{kvs:List<|List Key×V}{k:List Key}{v:V}(e:H a=some (.dT kvs))(J:H b=some (.tup<|k.map kV))(U:kvs.length<sizeLine) :
  G9 H a (.ref b) v (upd H a<|.dT<|putK kvs k v):=.inr ⟨kvs,k,b,e,rfl,J,U,rfl⟩
section
variable {X:Cx}{pins:bo}{σ:St}{H:Hp}{s:az}{a:ak}{y v:V}{u r:af}{o:Option V}{A:ay}{E:af->az->Prop}
def Inv.big(I:Inv X pins σ H s):sysModules<s.heap.objs.size:=by
 have h:mainGlobals<s.heap.objs.size:=(I.mod.glob.keeps I.bk).lt;exact ie ⋯ h
def NN{Q:af->az->Prop}(J:A.units+1<cLine)(I:Inv X pins σ H s)(g:t8 H a y<|some v)(ry:RelV y u)(h:∀w' s',Inv X pins σ H s'->RelV v w'->Q w' s') :
  wpAny (model X.prog X.w) A (getItem (.ref a) u) Q E s:=by
 rcases g with⟨f,k,e,q,l⟩|⟨f,k,b,e,q,F,l⟩
 ·subst q;obtain⟨z,G,B,d,m⟩:=ya I.hok e;obtain⟨w',hw,c⟩:=yU.some_of (v:=v) (o:=valueAt B k) (by rw[l];exact d.val k);exact wpAny_getItem_of (BS ry) m.mapOf hw (h w' _ (I.tok _) c)
 ·subst q
  cases(show u=Value.ref b from ry)
  obtain⟨z,G,xs,d,m⟩:=zJ I.hok e;obtain⟨w',hw,c⟩:=yU.some_of (v:=v) (o:=(atKey xs k).map (·.2)) (by rw[l];exact d.val k);obtain⟨p,C,j⟩:=aY.mp hw;refine wpAny_getItem_heap (eU J) (vm I.hok F) m C ?_;rw[j];exact h w' _ (I.tok _) c
def aep{Q:af->az->Prop}(J:A.units+1<cLine)(I:Inv X pins σ H s)(g:t8 H a y o)(ry:RelV y u)(h:∀s',Inv X pins σ H s'->Q (.bool o.isSome) s') :
  wpAny (model X.prog X.w) A (compareOp .In u<|.ref a) Q E s:=by
 rcases g with⟨f,k,e,j,l⟩|⟨f,k,b,e,j,p,l⟩
 ·subst j;obtain⟨z,m,B,c,d⟩:=ya I.hok e;refine wpAny_in_of (BS ry) m d.mapOf ?_;rw[<- (c.val k).tN,<- l];exact h _ (I.tok _)
 ·subst j
  cases(show u=Value.ref b from ry)
  obtain⟨z,m,xs,c,d⟩:=zJ I.hok e;refine wpAny_in_heap (eU J) (vm I.hok p) m d ?_;have q:=(c.val k).tN;rw[gf]at q;rw[<- q,<- l];exact h _<|I.tok _
def U7{Q:af->az->Prop}(J:A.units+1<cLine)(I:Inv X pins σ H s)(g:t8 H a y o)(ry:RelV y u)(h:∀s',Inv X pins σ H s'->Q (.bool<|!o.isSome) s') :
  wpAny (model X.prog X.w) A (compareOp .NotIn u<|.ref a) Q E s:=by
 rcases g with⟨f,k,e,j,l⟩|⟨f,k,b,e,j,p,l⟩
 ·subst j;obtain⟨z,m,B,c,d⟩:=ya I.hok e;refine wpAny_notIn_of (BS ry) m d.mapOf ?_;rw[<- (c.val k).tN,<- l];exact h _ (I.tok _)
 ·subst j
  cases(show u=Value.ref b from ry)
  obtain⟨z,m,xs,c,d⟩:=zJ I.hok e;refine wpAny_notIn_heap (eU J) (vm I.hok p) m d ?_;have q:=(c.val k).tN;rw[gf]at q;rw[<- q,<- l];exact h _<|I.tok _
def Aa{h':aq}{t':Nat}{ob:HO}(I:Inv X pins σ H s)(J:Mut<|H a)(hs:Heap.SameBut a s.heap h')(U:∃q,h'.get? a=some q)(new:lJ X.prog X.w (upd H a ob) h' a ob) :
  Inv X pins σ (upd H a ob) { s with heap:=h',toks:=t' }:=
 I.write (x:=a) (e:=a) J (.inl rfl) (λb q c z=>(hs.2 b c).trans z) U new
def JV{P:aj}{w:ah}{H':Hp}{h':aq}{kvs:List<|Key×V}(z:kvs.length<=sizeLine)(U:(a == sysModules)=false)(J:KV kvs vs)(dd:h'.DictOf (kN P w) a vs) :
  lJ P w H' h' a (.dK kvs):=⟨z,U,vs,J,dd⟩
def Nt{H':Hp}{Q:Unit->az->Prop}(hu:A.units+1<cLine)(I:Inv X pins σ H s)(g:G9 H a y v H')(ry:RelV y u)(U:RelV v r)(h:∀s',Inv X pins σ H' s'->Q Unit.unit s') :
  wpAny (model X.prog X.w) A (setItem (.ref a) u r) Q E s:=by
 rcases g with⟨d,k,e,F,l,C⟩|⟨d,k,b,e,F,K,l,C⟩
 ·subst F C;obtain⟨z,J,M,f,p⟩:=Ky I.hok e;have G:M.length<=sizeLine:=by rw[<- f.length];exact z
  have B:(putK d k v).length<=sizeLine:=by have:=qo d k v;lia
  refine wpAny_setItem_pairs (hsz:=G) (BS ry) p λh' j hs=>h _ ?_;have N:∃q,h'.get? a=some q:=let⟨q,_,_,m,_⟩:=j;⟨q,m⟩
  exact Aa I (by rw[e];exact True.intro) hs N<|JV B J (f.put k U) j
 ·subst F C
  cases(show u=Value.ref b from ry)
  obtain⟨z,J,xs,f,p⟩:=Qo I.hok e;have G:xs.length<=sizeLine:=by rw[<- jt f];exact z
  have B:(putK d k v).length<=sizeLine:=by have:=qo d k v;lia
  refine wpAny_setItem_heap (hsz:=G) (eU hu) (vm I.hok K) p λh' j hs=>h _ ?_;obtain⟨q,es,ep,m,h2,h3,P,_,O⟩:=j;refine Aa I (by rw[e];exact True.intro) hs ⟨q,m⟩ ⟨B,J,_,(f.put k K U).keeps λc ys L=>?_,q,es,ep,m,h2,h3,P,O⟩;rw[j7<|XY L e λz=>nomatch z];exact L
end
def HY{X:Cx}{H:Hp}{s:az}{a:ak}(I:Inv X pins σ H s)(g:t8 H a y o):s.TypeIs (.ref a) "dict" := by
 rcases g with⟨d,k,e,_,_⟩|⟨d,k,b,e,_,_,_⟩
 ·obtain⟨_,_,f,_,c⟩:=ya I.hok e;exact c.typeIs
 ·obtain⟨_,_,xs,_,c⟩:=zJ I.hok e;exact c.typeIs
def HG{P:aj}{w:ah}{H:Hp}(h:aq)(J:sysModules<h.objs.size):lJ P w H (h.push { cls:=.type "dict",data:=.dict #[]}) h.objs.size (.dK []):=
 ⟨bL _,cT.mpr<|di<|bw J,[],.nil,Heap.DictOf.new h⟩
def Rm{P:aj}{w:ah}{H:Hp}(h:aq)(J:sysModules<h.objs.size):lJ P w H (h.push { cls:=.type "dict",data:=.dict #[]}) h.objs.size (.dT []):=
 ⟨bL _,cT.mpr<|di<|bw J,[],.nil,_,#[],0,bC _ rfl,⟨rfl,rfl,rfl⟩,rfl,rfl,dO⟩
abbrev YJ:TE:=λ_ H Q=>∀p,H p=none->Q (.ref p) (upd H p<|.dK [])
abbrev Y5:TE:=λ_ H Q=>∀p,H p=none->Q (.ref p) (upd H p<|.dT [])
section
variable {X:Cx}{pos:Pos}
def P7:PE X (.Dict [] [] pos) YJ:=λpins s σ H Q I h=>
 wpAny_Dict_empty ⟨.ref s.heap.objs.size,_,I.laid (a:=s.heap.objs.size) (o:=.dK []) (t':=s.toks) (λ_ _ q=>aR _ q) (aO _)<|HG s.heap I.big,rfl,h _<|I.hok.fresh<|aO _⟩
def Qc:PE X (.Dict [] [] pos) Y5:=λpins s σ H Q I h=>
 wpAny_Dict_empty ⟨.ref s.heap.objs.size,_,I.laid (a:=s.heap.objs.size) (o:=.dT []) (t':=s.toks) (λ_ _ q=>aR _ q) (aO _)<|Rm s.heap I.big,rfl,h _<|I.hok.fresh<|aO _⟩
end
abbrev Jg:List (TE×TE)->St->Hp->(List (V×V)->Hp->Prop)->Prop
 | [],_,H,Q=>Q [] H
 | (tk,tv)::r,σ,H,Q=>tk σ H λx H1=>tv σ H1 λy H2=>Jg r σ H2 λps H3=>Q ((x,y)::ps) H3
meta abbrev VV:List (V×V)->List (af×af)->Prop:=Paired λp q=>RelV p.1 q.1/\RelV p.2 q.2
abbrev PPs (X:Cx)(pos:Pos)(keys:List<|Option aA)(J:List aA)(U:List<|TE×TE):Prop:=
 ∀(pins:bo) (s:az) (σ:St) (H:Hp) (Q:List (V×V)->Hp->Prop),Inv X pins σ H s->Jg U σ H Q ->
  wpAny (model X.prog X.w) X.A (evalPairs<|pairTrees keys J X.env pos) (λc s'=>∃ps H',Inv X pins σ H' s'/\VV ps c/\Q ps H') X.xe s
def Mz{X:Cx}:PPs X pos [] [] []:=λpins s σ H Q I h=>pairTrees_nil_walk ⟨[],H,I,.nil,h⟩
def BQ{X:Cx}{k v:aA}{ks:List<|Option aA}{tk J:TE}(U:PE X k tk)(hv:PE X v J)(hr:PPs X pos ks vs trs) :
  PPs X pos (some k::ks) (v::vs) ((tk,J)::trs):=λpins s σ H Q I h=>
 pairTrees_cons_walk (ng (U pins s σ H _ I h) λu m ⟨x,H1,p,rx,d⟩=>ng (hv pins m σ H1 _ p d) λF g ⟨y,H2,q,ry,j⟩=>
  ng (hr pins g σ H2 _ q j) λC B ⟨ps,H3,e,c,f⟩=>⟨(x,y)::ps,H3,e,.cons ⟨rx,ry⟩ c,f⟩)
abbrev BO (kvs J:List<|Key×V):List (Key×V):=J.foldl (λacc kv=>putK acc kv.1 kv.2) kvs
def KV.merge:∀{more:List<|Key×V}{rs:List<|Key×af}{kvs:List<|Key×V}{vs:List<|Key×af},KV more rs->KV kvs vs->KV (BO kvs more) (merged vs rs):=by
 intro more rs kvs vs r;unfold KV at r
 induction r generalizing kvs vs with
 | nil=>intro q;exact q
 | @cons p q ps f h t d=>
  intro c;have e:KV (putK kvs p.1 p.2) (stored vs q.1 q.2):=by
   have:=c.put p.1 h.2;rw[<- h.1];exact this
  exact d e
theorem wN:∀(more kvs:List<|Key×V),(BO kvs more).length<=kvs.length+more.length
 | [],kvs=>by show kvs.length<=kvs.length+0;lia
 | p::r,kvs=>by
  have h1:=wN r<|putK kvs p.1 p.2;have h2:=qo kvs p.1 p.2;show(BO (putK kvs p.1 p.2) r).length<=_;rw[bA];lia
theorem BF{P:aj}{w:ah}:∀{kvs:List<|Key×V}{ws:List<|af×af},VV (kvs.map λkv=>(kV kv.1,kv.2)) ws->∃rs,Carries (kN P w) ws rs/\KV kvs rs
 | [],_,r=>by rw[fV]at r;cases r;exact⟨[],True.intro,.nil⟩
 | p::kvs,_,r=>by
  rw[bH]at r
  cases r with
  | @cons a b as bs h t=>
   obtain⟨rs,c,q⟩:=BF (P:=P) (w:=w) t;obtain⟨e,d⟩:=b;exact⟨(p.1,d)::rs,⟨BS h.1,rfl,c⟩,.cons ⟨rfl,h.2⟩ q⟩
abbrev acv (J:List<|TE×TE):TE:=λσ H Q=>∀p,H p=none->Jg J σ (upd H p<|.dK []) λps H2=>H2 p=some (.dK [])/\∃c:List<|Key×V,ps=c.map (λkv=>(kV kv.1,kv.2))/\c.length<=15/\Q (.ref p) (upd H2 p<|.dK<|BO [] c)
def Ld{X:Cx}{keys:List<|Option aA}{U:List aA}(h:PPs X pos keys U trs)(hall:keys.all (·.isSome)=true)(hl:keys.length=U.length)(h0:keys≠[])
  (h15:keys.length<=15):PE X (.Dict keys U pos) (acv trs):=by
 intro pins s σ H Q I q;have hn:=I.hok.fresh<|aO s.heap.objs.size;have J:=I.laid (a:=s.heap.objs.size) (o:=.dK []) (h':=s.heap.push { cls:=.type "dict",data:=.dict #[]}) (t':=s.toks) (λ_ _ q=>aR _ q) (aO _)<|HG s.heap I.big;refine wpAny_Dict_walk (knd:=kN X.prog X.w) hall hl h0 h15<|ng (h pins _ σ _ _ J<|q _ hn) λO N ⟨ps,H2,j,g,e,d,ep,M,B⟩=>?_;subst ep;obtain⟨F,c,m⟩:=BF (P:=X.prog) (w:=X.w) g;obtain⟨z,K,G,L,p⟩:=Ky j.hok e
 cases L
 refine⟨F,c,p,λh' f hs=>⟨.ref s.heap.objs.size,_,?_,rfl,B⟩⟩;have C:(BO [] d).length<=sizeLine:=by
  have h1:=wN d [];rw[cX]at h1;rw[dR];lia
 have k:∃q,h'.get? s.heap.objs.size=some q:=let⟨q,_,_,hq,_⟩:=f;⟨q,hq⟩
 exact Aa j (by rw[e];exact True.intro) hs k<|JV C K (m.merge .nil) f
structure M2 (X:Cx)(o:aA)(m:Str)(apos:Pos)(e f:aA)(cpos:Pos):Prop where
 base:attributeBase o m X.env (eval o X.env)=eval o X.env
 few:((backTo cpos<|starEach [e,f] X.env).all (λx=>!x.1) && (backToKw cpos<|keywordEach [] X.env).all (λx=>x.1.isSome)
  && decide (([e,f]:List aA).length+([]:List Keyword).length+(if ([]:List Keyword).isEmpty then 0 else 1)<30))=true
 line:(apos.endLine == cpos.line)=true
 trees:backTo cpos (starEach [e,f] X.env)=[(false,eval e X.env),(false,eval f X.env)]
abbrev IsD (H:Hp)(a:ak):Prop:=(∃c,Rd H a<|.dK c)\/∃c,Rd H a<|.dT c
def aam{X:Cx}{H:Hp}{s:az}{a:ak}(I:Inv X pins σ H s)(d:IsD H a) :
  s.TypeIs (.ref a) "dict" /\ (∀b,Value.ref a=.ref b->∃ob,s.heap.get? b=some ob/\ob.dict=none)/\(a == sysModules)=false:=by
 rcases d with⟨f,e⟩|⟨f,e⟩
 ·obtain⟨_,g,j,_,c⟩:=ya I.hok e;refine⟨c.typeIs,λb q=>?_,g⟩
  cases q
  obtain⟨ob,_,_,h1,h2,_⟩:=c;exact⟨ob,h1,h2.2.1⟩
 ·obtain⟨_,g,xs,_,c⟩:=zJ I.hok e;refine⟨c.typeIs,λb q=>?_,g⟩
  cases q
  obtain⟨ob,_,_,h1,h2,_⟩:=c;exact⟨ob,h1,h2.2.1⟩
section
variable {X:Cx}{pins:bo}{σ:St}{H:Hp}{s:az}{a:ak}{y d:V}{u r:af}{o:Option V}{A:ay}{E:af->az->Prop}
def IQ{Q:af->az->Prop}(U:A.units+1<cLine)(I:Inv X pins σ H s)(g:t8 H a y o)(ry:RelV y u)(J:RelV d r)(h:∀w' s',Inv X pins σ H s'->RelV (o.getD d) w'->Q w' s') :
  wpAny (model X.prog X.w) A (call (.builtin "dict.get") [.ref a,u,r]) Q E s:=by
 rcases g with⟨j,k,e,m,l⟩|⟨j,k,b,e,m,q,l⟩
 ·subst m;obtain⟨z,p,B,c,f⟩:=ya I.hok e;refine call_meetsIn bV f.typeIs ig (gV _ _ _) (meets_dict_get_default (kN X.prog X.w) a (BS ry) p r) ⟨_,f.mapOf,h _ _ (I.tok _) ?_⟩;rw[l];exact(c.val k).getD J
 ·subst m
  cases(show u=Value.ref b from ry)
  obtain⟨z,p,xs,c,f⟩:=zJ I.hok e;refine call_meetsIn bV f.typeIs ig (gV _ _ _) (meetsH_dict_get_default (tupleKind<|kN X.prog X.w) a b p r) ⟨eU U,k,xs,vm I.hok q,f,h _ _ (I.tok _) ?_⟩;rw[l];exact(c.val k).getD J
end
meta abbrev Oe:=ag×ag
abbrev Yv (x:ag):Int:=reduceHash<|Builtin.Tuple.tupleHashOf<|x.map hashInt
abbrev ace (k:Oe):Int:=reduceHash<|Builtin.Tuple.tupleHashOf [Yv k.1,Yv k.2]
abbrev dpE (x:(Oe×ak×af)):DictEntry:=⟨ace x.1,.ref x.2.1,x.2.2⟩
abbrev ad8 (a:ak)(xs:List<|Oe×ak×af)(h:aq):Prop:=(a == sysModules)=false/\xs.length<=sizeLine/\∃o es ep,h.get? a=some o/\o.ExactDict/\o.data=.dict es ep/\es.toList=xs.map dpE/\(xs.map (·.1)).Nodup
abbrev Hl (H:Hp)(b:ak)(k:Oe):Prop:=∃r1 r2,H b=some (.tup [.ref r1,.ref r2])/\H r1=some (.tup<|k.1.map V.int)/\H r2=some (.tup<|k.2.map V.int)
section
variable {X:Cx}
def AD(J:X.A.units+1<cLine):UY X (λx y H Q=>∃a v,x=.ref a/\t8 H a y (some v)/\Q v H):=by
 intro d c pins s σ H x y v u Q I rx ry h hs;obtain⟨a,z,rfl,g,q⟩:=h
 cases rx
 have j:=HY I g;unfold subscriptTail;refine aH ?_;rw[getitemInPython_of_ne j.not_modules];refine aH<|wpAny_specialOf j PySem.F.slot_dict_getitem.lookup ?_;have fin:wpAny (model X.prog X.w) X.A (subscripted c false (.ref a) u) (λr e=>wpAny (model X.prog X.w) X.A (letTemporaryGo d (.ref a) r >>= λ_=>pure r) (EP X pins σ Q) X.xe e) X.xe s:=by
  rw[hs];exact wpAny_operating<|NN J I g ry λp m k f=>aH<|wpAny_letTemporaryGo<|aV ⟨z,H,k,f,q⟩
 first
  | exact aV (aH fin)
  | exact aH (aV<|aH fin)
  | exact aH fin
def Zk(J:X.A.units+1<cLine):pR X (compareOp .In) (λy x H Q=>∃a o,x=.ref a/\t8 H a y o/\Q (.bl o.isSome) H):=by
 intro pins s σ H y x v u Q I ry rx h;obtain⟨a,o,rfl,g,q⟩:=h
 cases rx
 exact aep J I g ry λd c=>⟨.bl o.isSome,H,c,rfl,q⟩
def N6(J:X.A.units+1<cLine):pR X (compareOp .NotIn) (λy x H Q=>∃a o,x=.ref a/\t8 H a y o/\Q (.bl<|!o.isSome) H):=by
 intro pins s σ H y x v u Q I ry rx h;obtain⟨a,o,rfl,g,q⟩:=h
 cases rx
 exact U7 J I g ry λd c=>⟨.bl<|!o.isSome,H,c,rfl,q⟩
def set_dict(J:X.A.units+1<cLine):Oj X (λo i v H Q=>∃a H',o=.ref a/\G9 H a i v H'/\Q H'):=by
 intro pins s σ H o i v j iv u Q I c e d h;obtain⟨a,H',rfl,g,q⟩:=h
 cases c
 exact Nt J I g e d λk f=>⟨H',f,q⟩
abbrev acj:V->List V->Hp->VK->Prop:=λx d H Q=>∃a b ks c y,x=.ref a/\d=[.ref b,y]/\H a=some (.dT c)/\H b=some (.tup<|ks.map kV)/\Q ((pY c ks).getD y) H
def VU(J:X.A.units+1<cLine):MtM X "dict.get" acj:=by
 intro pins s σ H x C v us Q I rx e h;obtain⟨a,b,ks,d,y,rfl,rfl,k,m,q⟩:=h
 cases rx
 cases e with
 | @cons _ G _ NI r1 e=>
  cases e with
  | @cons _ j _ D9 r2 e=>
   cases e
   cases r1
   obtain⟨z,B,xs,f,g⟩:=Qo I.hok k;refine call_meetsIn bV g.typeIs ig (gV _ _ _) (meetsH_dict_get_default (tupleKind<|kN X.prog X.w) a b B j) ⟨eU J,ks,xs,vm I.hok m,g,?_⟩;refine⟨(pY d ks).getD y,H,I.tok _,?_,q⟩;have c:=f.val ks
   cases e1:pY d ks with
   | none=>
    rw[e1]at c
    cases e2:(atKey xs ks).map (·.2)with
    | none=>exact r2
    | some p=>rw[e2]at c;exact c.elim
   | some F=>
    rw[e1]at c
    cases e2:(atKey xs ks).map (·.2)with
    | none=>rw[e2]at c;exact c.elim
    | some p=>rw[e2]at c;exact c
end
section
theorem kt_at{H:Hp}:∀{kvs:List<|List Key×V}{xs:List<|List Key×ak×af},KT H kvs xs->kvs.length=xs.length/\∀(i:Nat) (p:List Key×V),kvs[i]?=some p->∃y:List Key×ak×af,xs[i]?=some y/\p.1=y.1/\H y.2.1=some (.tup<|p.1.map kV)/\RelV p.2 y.2.2
 | [],[],_=>⟨rfl,λi p h=>by simp at h⟩
 | [],_::_,r=>nomatch r
 | _::_,[],r=>nomatch r
 | a::kvs,b::xs,.cons z r=>by
  obtain⟨l,q⟩:=kt_at r;refine⟨by simp[l],λi p h=>?_⟩
  cases i with
  | zero=>
   have:a=p:=by simpa using h
   subst this;exact⟨b,rfl,z⟩
  | succ i=>exact q i p<|by simpa using h
end
abbrev C0 (e:ak)(h:aq):Prop:=∃o c,h.get? e=some o/\o.data=.fields c/\c[2]?=some .none/\o.dict=none
structure Fly (l:List Env)(g:aq)(pn:bo)(H:Hp)(e:ak)(cls:af)(h:aq):Prop where
 ex:∃(B:aq) (a0:af),Heap.FlyingW B l e cls a0 h/\(∀a u,H a=some u->∃o,B.get? a=some o)/\(∀b o,g.get? b=some o->b∉frs l->∃o',B.get? b=some o')/\(∀p∈pn,∃o',B.get? p.1=some o')/\C0 e h
structure Made (X:Cx)(H:Hp)(e:ak)(cls:af)(g:aq)(h:aq):Prop where
 ex:∃(g':aq) (vs:ax),Heap.MadeExcOf g' h e cls vs/\g'.FunFrames X.base X.stack/\(∀a u,H a=some u->∃o,g'.get? a=some o)/\(∀b o,g.get? b=some o->∃o',g'.get? b=some o')/\(∀p∈X.pn,∃o',g'.get? p.1=some o')
abbrev YY (X:Cx)(H:Hp)(e:ak)(cls:af)(s':az):Prop:=Made X H e cls X.s₀.heap s'.heap\/Fly X.stack X.s₀.heap X.pn H e cls s'.heap
section
abbrev EX (X:Cx):XK:=λcls _ H'=>X.ex=[]/\∀pins c s' e,Inv X pins c H' s'->YY X H' e cls s'->X.xe (.ref e) s'
end
abbrev xu:HO:=.ext λ_=>True
structure XO (C:ak)(o:Obj):Prop where
 cls:o.cls=.ref C
 dict:o.dict=none
 ctx:∃vs,o.data=.fields vs/\vs[2]?=some .none
abbrev mroIn (K:au)(C:ak):Option (ax):=match K.lookup C with
 | some ⟨.type "type",_,.cls cd,sl⟩=>(match cd.mro,sl.toList with
  | .ref C'::bm,[_,_,_,_,some<|.builtin _,_]=>if C'=C/\cd.hasDel=false then some bm else none
  | _,_=>none)
 | _=>none
open PySem.W in
structure XCls (K:au)(C:ak):Prop where
 ga:findIn K (.ref C) "__getattribute__" = some (some<|.builtin "BaseException.__getattribute__")
 gt:findIn K (.ref C) "__getattr__" = some none
 fc:findObj K C none "__class__" = some (.bind (.builtin "getset_descriptor.__get__")<|.builtin "object.__class__")
 ob:PySem.W.mroIn K C (.type "object")=some true
 bs:subIn K (.ref C) (.type "BaseException")=some true
end L2
namespace L2
open PySem PySem.Spec PyProof.Rows PySem.SeqAt
def Bo{prog:aj}{w:ah}{A:ay}{E:af->az->Prop}{β:Type}{b:Nat}{f:Nat->β->Sem (ForInStep β)}(I:Nat->β->az->Prop)(Q:β->az->Prop)
  (turn:∀i c s,i<b->I i c s->wpAny (model prog w) A (f i c) (λr s'=>match r with | .done c'=>Q c' s' | .yield c'=>I (i+1) c' s') E s)
  (fin:∀c s,I b c s->Q c s) {c:β} {s:az} (h:I 0 c s):wpAny (model prog w) A (forIn [0:b] c f) Q E s:=by
 rw[Std.Legacy.Range.forIn_eq_forIn_range'];dsimp[Std.Legacy.Range.size,sub_zero,gP,Nat.div_one];refine wpAny_forIn_list f (λl c s=>∃i,i<=b/\l=List.range' i (b-i) 1/\I i c s) Q ?_ ?_ _ _ ⟨0,bL _,rfl,h⟩
 ·rintro x rest c s ⟨i,j,d,g⟩;have e:i<b:=by
   rcases gB i b with h'|h'
   ·exact h'
   ·rw[show b-i=0 by lia]at d;simp at d
  obtain⟨n,hn⟩:∃n,b-i=n+1:=⟨b-i-1,()⟩;rw[hn,iI]at d;obtain⟨rfl,rfl⟩:=List.cons.inj d;refine gM (turn x c s e g) (λr s' h'=>?_) λ_ _ q=>q
  cases r with
  | done c'=>exact h'
  | yield c'=>exact⟨x+1,e,by congr 1;lia,h'⟩
 ·rintro c s ⟨i,j,d,g⟩;have:b-i=0:=by
   rcases Nat.eq_zero_or_pos (b-i)with z|z
   ·exact z
   ·obtain⟨n,hn⟩:∃n,b-i=n+1:=⟨b-i-1,()⟩;rw[hn,iI]at d;cases d
  have:i=b:=()
  subst this;exact fin c s g
def Cs(l:ak)(U:Array af)(n:Nat)(dd:Option ak)(sl:Array<|bb)(x:af)(e:af->Bool)(j:Nat)(hj:j<U.size)(hit:e U[j]=true)(hno:∀m (hm:m<U.size),m<j->e U[m]=false) :
  Meets (Builtin.«tuple.index» ⟨[.ref l,x],[]⟩)
   (λA R s=>s.heap.get? l=some { cls:=.type "tuple",dict:=dd,data:=.seq U n,slots:=sl }/\(∀y,y∈U->EqAt A.in1 s y x (e y))/\R (.ok<|.ret<|.int j s.toks) { s with toks:=s.toks+1 }):=
 .of_wp λprog w A R s h=>by
  obtain⟨B,g,d,C,p⟩:=s;obtain⟨F,k,h⟩:=h
  wp_walk using wpAny_loadPart' F,Bo (λi b s'=>b.1=none/\s'=⟨B,g,d,C,p⟩/\i<=j) _
  case turn=>
   rintro i b s' hi ⟨G,rfl,f⟩;have c:i<U.size:=()
   rw[d9 c];refine aH (k _ (Array.getElem_mem c) prog w _ _ ?_)
   rcases gB i j with q|q
   ·rw[hno i c q]
    wp_walk
    exact⟨rfl,rfl,q⟩
   ·have:i=j:=()
    subst this;rw[hit]
    wp_walk
    exact⟨_,rfl,h⟩
  case fin=>
   rintro⟨J,K⟩ s' ⟨G,rfl,f⟩
   lia
  case h=>exact⟨rfl,rfl,bL _⟩
abbrev aaX (K:au)(tup:Bool):V->List V->Hp->VK->Prop:=λx d H Q=>∃(p:ak) (y:V) (xs:List V) (k:Nat) (z:V),x=.ref p/\d=[y]/\(if tup=true then n_ K H p xs else qt K H p xs)/\qY y=true/\xs.all qY=true/\xs[k]?=some z/\H_ z y=true/\(∀(m:Nat) (c:V),m<k->xs[m]?=some c->H_ c y=false)/\Q (.int k) H
section
variable {X:Cx}
def Tc{xs:List V}{its:ax}{k:Nat}(r:Vals xs its)(f:xs.all qY=true)(J:xs[k]?=some z)(hz:H_ z y=true)(U:∀m z',m<k->xs[m]?=some z'->H_ z' y=false) :
  ∃hj:k<its.toArray.size,D_ y its.toArray[k]=true/\∀m (hm:m<its.toArray.size),m<k->D_ y its.toArray[m]=false:=by
 have fl:∀m z',xs[m]?=some z'->qY z'=true:=λm z' h=>eS.mp f z'<|aX h;obtain⟨u,p,B⟩:=r.get J;obtain⟨hj,e⟩:=aF.mp p;refine⟨by simpa using hj,?_,λm hm j=>?_⟩
 ·rw[List.getElem_toArray,e,EI B<|fl k z J];exact hz
 ·have c:m<xs.length:=by have:=(aF.mp J).1;lia
  obtain⟨C,g,d⟩:=r.get<|aE c;obtain⟨_,q⟩:=aF.mp g;rw[List.getElem_toArray,q,EI d<|fl m _<|aE c];exact U m _ j<|aE c
def V0:Ja X "tuple.index" (aaX X.K true):=by
 intro pins s σ H x P v us Q I rx J ⟨p,y,xs,k,z,L,c,m,G,fs,g,O,d,q⟩;subst L c
 cases rx
 obtain⟨u,rfl,B⟩:=J.one;obtain⟨its,r,pl,C⟩:=I.tuple m;obtain⟨M,h1,h2⟩:=Tc r fs g O d;obtain⟨⟨cls,j,data,N⟩,e,hc,n,f⟩:=id pl;simp only at hc f;subst hc f;exact gO F.slot_tuple_index ⟨_,e,rfl⟩ F.entry_tuple_index (F.args_tuple_index_2 _ _) (Cs p its.toArray n j N u (D_ y) k M h1 h2) ⟨e,λw hw=>rO B G r fs w<|by simpa using hw,.int k,H,I.tok _,⟨_,rfl⟩,q⟩
def V_:Ja X "list.index" (aaX X.K false):=by
 intro pins s σ H x T v us Q I rx L ⟨p,y,xs,k,z,M,c,B,J,fs,e,P,d,q⟩;subst M c
 cases rx
 obtain⟨u,rfl,C⟩:=L.one;obtain⟨its,r,pl,G⟩:=I.list B;obtain⟨N,h1,h2⟩:=Tc r fs e P d;obtain⟨⟨cls,m,data,O⟩,f,hc,n,g⟩:=id pl.isList;simp only at hc g;subst hc g;have:=wZ;have j:k<xs.length:=(aF.mp e).1;exact gO F.slot_list_index ⟨_,f,rfl⟩ F.entry_list_index (F.args_list_index_2 _ _) (SeqAt.list_indexAt p its.toArray n m O u (D_ y) k N () h1 h2) ⟨f,λw hw=>rO C J r fs w<|by simpa using hw,.int k,H,I.tok _,⟨_,rfl⟩,q⟩
abbrev aeD (K:au)(to:TE)(t:TA):TE:=λσ H Q=>to σ H λx H1=>∃(b:Bool) (p:ak) (xs:List V),x=.ref p/\(if b=true then n_ K H1 p xs else qt K H1 p xs)/\t σ H1 λc H2=>aaX K b x c H2 Q
def Z_{e:aA}{to:TE}{t:TA}{apos cpos:Pos}(ho:PE X o to)(ha:PA X (e::es) t)
  (hbase:attributeBase o "index" X.env (eval o X.env)=eval o X.env<|>η)
  (hfew:(((backTo cpos<|starEach (e::es) X.env).all (λx=>!x.1) && (backToKw cpos<|keywordEach [] X.env).all (λx=>x.1.isSome)
   && decide ((e::es).length+([]:List Keyword).length+(if ([]:List Keyword).isEmpty then 0 else 1)<30))=true)<|>η)
  (hline:(apos.endLine == cpos.line)=true<|>η) (hs:starEach (e::es) X.env=(false,eval e X.env)::starEach es X.env<|>η) (U:((backTo cpos<|starEach es X.env).any (·.1)=false)<|>η) :
  PE X (.Call (.Attribute o "index" apos) (e::es) [] cpos) (aeD X.K to t):=by
 w_up;refine g_ hbase hfew hline rfl<|ng (ho pins s σ H _ I h) λv L ⟨x,H1,g,r1,b,p,xs,M,J,G⟩=>?_;subst M
 cases r1
 cases b with
 | true=>
  obtain⟨c,f,C,k⟩:=g.aaj J;refine⟨"tuple", "tuple.index",PySem.F.plainAttrs_tuple,PySem.F.slot_tuple_index,PySem.F.type_tuple_index,⟨c,f,C⟩,λa e=>by cases e;exact⟨c,f,k⟩,?_⟩;have d:=ha cpos pins L σ H1 _ g G;rw[hs]at d ⊢;refine fW (by show(false || (backTo cpos<|starEach es X.env).any (·.1))=false;rw[U]<;>rfl)<|gp ?_;exact ng d λus m ⟨j,H2,B,r2,q⟩=>V0 pins m σ H2 (.ref p) j _ us Q B rfl r2 q
 | false=>
  obtain⟨its,r,⟨c,n,f,C,k,N⟩,O⟩:=g.list J;refine⟨"list", "list.index",PySem.F.plainAttrs_list,PySem.F.slot_list_index,PySem.F.type_list_index,⟨c,f,C⟩,λa e=>by cases e;exact⟨c,f,k⟩,?_⟩;have d:=ha cpos pins L σ H1 _ g G;rw[hs]at d ⊢;refine fW (by show(false || (backTo cpos<|starEach es X.env).any (·.1))=false;rw[U]<;>rfl)<|gp ?_;exact ng d λus m ⟨j,H2,B,r2,q⟩=>V_ pins m σ H2 (.ref p) j _ us Q B rfl r2 q
end
end L2
namespace L2
open PySem PySem.Spec PyProof.Rows
def SG{X:Cx}{i:Nat}{spos:Pos}{iter:aA}{N:ar}{wi:TI}{g:TG}{tc:TT}{te:TE}
  (hN:X.N.Nodup) (hi':X.N[i]?=some y) (hx:Loc X.env.scope y) (hc:X.calm=true) (S:CpScope X scope N cap) (hi:PI X tg iter wi)
  (hg:∀C s₀ H₀ ex,PG (pS X scope N C s₀ H₀ ex) tg g) (ht:∀C s₀ H₀ ex,PTs (pS X scope N C s₀ H₀ ex) ifs tc) (he:∀C s₀ H₀ ex,PE (pS X scope N C s₀ H₀ ex) elt te)
  (hsw:swapsWith (.ListComp elt [⟨tg,iter,ifs,0⟩] scope pos) (some<|.Name y py) spos.line X.env=pure true)
  (hf:X.fn y=true\/X.env.scope.names.lookup y=some .local) (hs:(∀x,foldedSetIterable iter X.env x=pure x)<|>θ) :
  PS X (.Assign [.Name y py] (.ListComp elt [⟨tg,iter,ifs,0⟩] scope pos) spos) (Vd (tLC cap wi g tc te)<|OS i):=by
 o_rec;rw[exec_Assign_Name_used _ _ _ _ hsw];refine aH (wpAny_standAt<|aH ?_)
 skip
 refine aH<|gM (Mi (ok:=λY=>Y.calm=true) (Q':=λ_ s'=>SP X pins D .next s') S (λ_ _ _ _ _=>hc) (PI.g hi) hg ht he hs pins s σ H _ I h ?_) (λ_ s' T=>aV<|aV T) λ_ _ e=>e;intro F C L P m hn k inv q v;have W:=inv F.heap<|Heap.SameBut.refl _ _;obtain⟨K,j⟩:∃o,F.heap.get? C=some o/\∀v,o.data≠.cell v:=by
  obtain⟨o,es,ep,e,d,_⟩:=hn;exact⟨o,e,λv z=>by rw[d]at z;cases z⟩
 have V:=W.pinned (fp:=[C]) (λb f=>by rw[aP]at f;rw[f];exact k) (λb f=>by rw[aP]at f;rw[f];exact⟨K,j⟩)
 skip
 refine ng (Ks hN hi' hx hf _ F σ P (.ref L) (.ref L) _ V rfl q) λ_ Z h9=>?_;obtain⟨G,O,B,U⟩:=h9;have J:=B.pin (C,K)<|bR _<|bR _<|rQ (aP.mpr rfl) j.1;refine⟨m,hn.at' λo e=>by rw[j.1]at e;cases e;exact J.1,λh' p=>?_⟩;have M:∀c v,O c=some v->c≠C:=λc v e z=>by rw[z,J.2.1]at e;cases e
 refine⟨G,O,?_,U⟩;refine B.vh.Xk (ch:=[C]) rfl ⟨λb o e n f hx=>?_,λb o e n f hx=>?_,λb o e n hx=>n,λb o e hx=>?_,λ_ _ e=>e,λ_ _ _ e=>e,λ_ _ e=>⟨#[],by rw[Array.append_empty];exact e⟩⟩ ?_ B.bare ?_
 ·exact p.extBut b o (by simpa using hx) e
 ·exact⟨o.slots,p.extBut b o (by simpa using hx) e⟩
 ·exact⟨o,p.extBut b o (by simpa using hx) e⟩
 ·intro b o e;refine(B.hok b o e).stay (λc v hc q=>p.extBut c v ?_ q) (λ_ q=>q) λ_ _ q=>q
  rcases hc with z|z
  ·rw[z];exact M b o e
  ·exact M c _ z
 ·intro b f;rw[aP]at f;rw[f];exact⟨k.2.2.2.1,k.2.1,k.2.2.2.2.1,k.2.2.2.2.2⟩
end L2
namespace Sx
open PySem PyProof.Rows
structure Ord where
 lt:Nat->Nat->Bool
 UB:∀i,lt i i=false
 tr:∀i j k,lt i j=true->lt j k=true->lt i k=true
 neg:∀i j k,lt i k=true->lt i j=true\/lt j k=true
abbrev P (o:Ord)(i j:Nat):Prop:=o.lt i j=true\/(o.lt j i=false/\i<j)
def Ord.aeE(o:Ord)(h:o.lt i j=true):o.lt j i=false:=by
 cases e:o.lt j i with
 | false=>rfl
 | true=>have:=o.tr _ _ _ h e;rw[o.UB]at this;cases this
def P.UB(h:P o i i):False:=by
 rcases h with h|⟨_,h⟩
 ·rw[o.UB]at h;cases h
 ·lia
def P.trans{k:Nat}(a:P o i j)(b:P o j k):P o i k:=by
 rcases a with a|⟨a,d⟩
 ·rcases b with b|⟨b,c⟩
  ·exact .inl (o.tr _ _ _ a b)
  ·rcases o.neg i k j a with z|z
   ·exact .inl z
   ·rw[b]at z;cases z
 ·rcases b with b|⟨b,c⟩
  ·rcases o.neg j i k b with z|z
   ·rw[a]at z;cases z
   ·exact .inl z
  ·refine .inr ⟨?_,()⟩
   cases e:o.lt k i with
   | false=>rfl
   | true=>
    rcases o.neg k j i e with z|z
    ·rw[b]at z;cases z
    ·rw[a]at z;cases z
def P.of_lt{o:Ord}(h:o.lt i j=true):P o i j:=.inl h
def P.zM{o:Ord}(h:o.lt j i=false)(J:i<j):P o i j:=.inr ⟨h,J⟩
def P.lt{o:Ord}(h:P o i j)(J:j<i):o.lt i j=true:=by
 rcases h with h|⟨_,h⟩
 ·exact h
 ·lia
def P.ge{o:Ord}(h:P o i j):o.lt j i=false:=by
 rcases h with h|⟨h,_⟩
 ·exact o.aeE h
 ·exact h
abbrev So (o:Ord)(g:Nat->Nat)(a b:Nat):Prop:=∀i j,a<=i->i<j->j<b->P o (g i) (g j)
abbrev Cl (g:Nat->Nat)(a b:Nat):Prop:=∀i,a<=i->i<b->a<=g i/\g i<b
abbrev rev (g:Nat->Nat)(i j:Nat):Nat->Nat:=λk=>if i<=k/\k<j then g (i+j-1-k)else g k
abbrev mv (g:Nat->Nat)(src J:Nat):Nat->Nat:=λk=>if k=J then g src else if J<k/\k<=src then g (k-1)else g k
def Bk{g:Nat->Nat}{k:Nat}(h:i<=k)(h2:k<j):rev g i j k=g (i+j-1-k):=aJ ⟨h,h2⟩
def qS{g:Nat->Nat}{k:Nat}(h:k<i\/j<=k):rev g i j k=g k:=aI ()
def Qw{g:Nat->Nat}{d:Nat}:mv g s d d=g s:=aJ rfl
def Hz{g:Nat->Nat}{d k:Nat}(h:d<k)(h2:k<=s):mv g s d k=g (k-1):=by
 unfold mv;rw[aI (),aJ ⟨h,h2⟩]
def EH{g:Nat->Nat}{d k:Nat}(J:d<=s)(h:k<d\/s<k):mv g s d k=g k:=by
 unfold mv;rw[aI (),aI ()]
section
variable {prog:aj}{w:ah}{A:ay}{E:af->az->Prop}{s:az}{o:Ord}{N:Nat}{f:Nat->Keyed}{kd:SortKind}{g:Nat->Nat}{p:Array (Nat×Nat×Nat)}{st:SortSt}
abbrev CF (prog:aj)(w:ah)(A:ay)(s:az)(o:Ord)(N:Nat)(f:Nat->Keyed)(kd:SortKind):Prop:=
 ∀i j,i<N->j<N->∀(c:af->az->Prop) (Q:Bool->az->Prop),Q (o.lt i j) s->wpAny (model prog w) A (keyLt' kd (f i).1 (f j).1) Q c s
structure Sg (N:Nat)(f:Nat->Keyed)(kd:SortKind)(g:Nat->Nat)(p:Array (Nat×Nat×Nat))(st:SortSt):Prop where
 size:(arrOf st).size=N
 get:∀i,i<N->(arrOf st)[i]?=some (f<|g i)
 lt:∀i,i<N->g i<N
 kind:kindOf st=kd
 failed:failedOf st=none
 pend:pendingOf st=p
def BA(C:CF prog w A s o N f kd)(J:kindOf st=kd)(hi:i<N)(U:j<N){Q:bj->SortSt->Prop}(q:Q (some<|o.lt i j) st):wpS (model prog w) A E s (lt' (f i)<|f j) Q st:=by
 rw[lt'_eq];refine bf<|ir ?_;rw[J];refine bf<|wpS_lift<|wpAny_attempt<|C i j hi U _ _ ⟨rfl,?_⟩;exact bu q
def kK{xs:Array Keyed}{i:Nat}{x:Keyed}(e:xs[i]?=some x){Q:Keyed->SortSt->Prop}(q:Q x st):wpS (model prog w) A E s (elem' xs i) Q st:=by
 rw[elem'_eq,e];exact bu q
def yv(C:CF prog w A s o N f kd)(h:Sg N f kd g p st)(hi:i<N)(J:j<N){Q:bj->SortSt->Prop}(q:Q (some<|o.lt (g i)<|g j) st):wpS (model prog w) A E s (ltAt' i j) Q st:=by
 rw[ltAt'_eq];refine bf (ir ?_)
 skip
 exact bf<|kK (h.get i hi)<|bf<|kK (h.get j J)<|BA C h.kind (h.lt i hi) (h.lt j J) q
def Sg.arr(h:Sg N f kd g p st){xs:Array Keyed}{g':Nat->Nat}(hs:xs.size=N)(hg:∀i,i<N->xs[i]?=some (f<|g' i))(J:∀i,i<N->g' i<N):Sg N f kd g' p (setArr st xs):=⟨hs,hg,J,h.kind,h.failed,h.pend⟩
def AN(h:Sg N f kd g p st)(J:j<=N){Q:Unit->SortSt->Prop}(q:∀st',Sg N f kd (rev g i j) p st'->Q Unit.unit st'):wpS (model prog w) A E s (reverseSlice' i j) Q st:=by
 rw[reverseSlice'_eq];refine fY (q _<|h.arr (by rw[mirror_size];exact h.size) (λk d=>?_) λk d=>?_)
 ·rw[getElem?_mirror_all<|by rw[h.size];exact J];unfold rev;by_cases c:i<=k/\k<j
  ·rw[aJ c,aJ c];exact h.get _ (by omega)
  ·rw[aI c,aI c];exact h.get _ d
 ·unfold rev;by_cases c:i<=k/\k<j
  ·rw[aJ c];exact h.lt _ (by omega)
  ·rw[aI c];exact h.lt _ d
def Zv(h:Sg N f kd g p st){a b:Nat}(J:a<N)(U:b<=a){Q:Unit->SortSt->Prop}(q:∀st',Sg N f kd (mv g a b) p st'->Q Unit.unit st'):wpS (model prog w) A E s (moveDown' a b) Q st:=by
 rw[moveDown'_eq];refine fY (q _<|h.arr (by rw[bubble_size];exact h.size) (λk d=>?_) λk d=>?_)
 ·rw[getElem?_bubble (by rw[h.size];exact J) _ (),show a-(a-b)=b by lia];unfold mv;by_cases c:k=b
  ·rw[aJ c,aJ c];exact h.get _ J
  ·rw[aI c,aI c];by_cases c2:b<k/\k<=a
   ·rw[aJ c2,aJ c2];exact h.get _ ()
   ·rw[aI c2,aI c2];exact h.get _ d
 ·unfold mv;by_cases c:k=b
  ·rw[aJ c];exact h.lt _ J
  ·rw[aI c];by_cases c2:b<k/\k<=a
   ·rw[aJ c2];exact h.lt _ ()
   ·rw[aI c2];exact h.lt _ d
structure Rn (o:Ord)(g0 g:Nat->Nat)(a b:Nat):Prop where
 out:∀i,i<a\/b<=i->g i=g0 i
 cl:Cl g a b
 so:So o g a b
def YI{g0:Nat->Nat}{lo k l:Nat}(R:Rn o g0 g lo<|lo+k)(J:g (lo+k)=lo+k)(U:l<=k)(h1:∀i,i<l->P o (g<|lo+i) (lo+k))(h2:∀i,l<=i->i<k->P o (lo+k) (g<|lo+i)):Rn o g0 (mv g (lo+k)<|lo+l) lo (lo+(k+1)) where
 out i hi:=by rw[EH () ()];exact R.out i ()
 cl i a b:=by
  by_cases c:i=lo+l
  ·subst c;rw[Qw,J];lia
  ·by_cases c2:lo+l<i
   ·rw[Hz c2 ()];have:=R.cl (i-1) () ()
    lia
   ·rw[EH () ()];have:=R.cl i () ()
    lia
 so i j a b d:=by
  by_cases c:i=lo+l
  ·subst c;rw[Qw,Hz b (),J];have:=h2 (j-1-lo) () ()
   rwa [show lo+(j-1-lo)=j-1 by lia]at this
  ·by_cases c2:lo+l<i
   ·rw[Hz c2 (),Hz () ()];exact R.so _ _ () () ()
   ·rw[EH (k:=i) () ()];by_cases c3:j=lo+l
    ·subst c3;rw[Qw,J];have:=h1 (i-lo) ()
     rwa [show lo+(i-lo)=i by lia]at this
    ·by_cases e:lo+l<j
     ·rw[Hz e ()];exact R.so _ _ () () ()
     ·rw[EH () ()];exact R.so _ _ () () ()
def Zs(C:CF prog w A s o N f kd){g0:Nat->Nat}{lo n ok:Nat}(h:Sg N f kd g p st)(hn:lo+n<=N)(h1:1<=ok)(hok:ok<=n)(R:Rn o g0 g lo<|lo+ok)(hid:∀i,lo+ok<=i->i<lo+n->g0 i=i)
  {Q:Bool->SortSt->Prop} (q:∀g' st',Sg N f kd g' p st'->Rn o g0 g' lo (lo+n)->Q true st'):wpS (model prog w) A E s (binarySort' lo n ok) Q st:=by
 rw[binarySort'_eq,show max ok 1=ok by lia];refine bf (eO (cV (I:=λk c st'=>c=(none,Unit.unit)/\∃g',Sg N f kd g' p st'/\Rn o g0 g' lo (lo+min k n))
  (Q:=λc st'=>c=(none,Unit.unit)/\∃g',Sg N f kd g' p st'/\Rn o g0 g' lo (lo+n)) ?step ?fin ?init) ?post)
 case post=>
  rintro c st' ⟨rfl,g',h',e⟩;exact bu<|q g' st' h' e
 case init=>exact⟨rfl,g,h,by rw[show min ok n=ok by lia];exact R⟩
 case fin=>
  rintro c st' ⟨hc,g',h',e⟩;exact⟨hc,g',h',by rwa [show min (max ok n) n=n by lia]at e⟩
 case step=>
  rintro k c st' L W ⟨rfl,g',h',e⟩;rw[show min k n=k by lia]at e;have K:g' (lo+k)=lo+k:=by rw[e.out _ ()];exact hid _ () ()
  refine bf (eO (cV (I:=λx c B=>B=st'/\∃u v,c=(none,u,v)/\u<=v/\v<=k/\v-u<=k-x /\
    (∀i,i<u->P o (g'<|lo+i) (lo+k))/\(∀i,v<=i->i<k->P o (lo+k) (g'<|lo+i)))
   (Q:=λc B=>B=st'/\∃u v,c=(none,u,v)/\u<=k /\
    (∀i,i<u->P o (g'<|lo+i) (lo+k))/\(∀i,u<=i->i<k->P o (lo+k) (g'<|lo+i))) ?istep ?ifin ?iinit) ?ipost)
  case iinit=>exact⟨rfl,0,k,rfl,(),(),(),λi hi=>(),λi h1 h2=>()⟩
  case ifin=>
   rintro c B ⟨rfl,u,v,rfl,G,m,O,low,top⟩;have:u=v:=()
   subst this;exact⟨rfl,u,u,rfl,m,low,top⟩
  case istep=>
   rintro x c B _ M ⟨rfl,u,v,rfl,G,m,O,low,top⟩;dsimp only;by_cases F:u>=v
   ·rw[aJ F];have:u=v:=()
    subst this;exact bu ⟨rfl,u,u,rfl,m,low,top⟩
   ·rw[aI F];have U:(u+v) / 2<k:=()
    have V:=e.cl (lo+(u+v) / 2) () ();refine bf<|yv C h' () () ?_;rw[K]
    cases d:o.lt (lo+k) (g'<|lo+(u+v) / 2)
    case true=>
     dsimp[dj];refine bu ⟨rfl,u,(u+v) / 2,rfl,(),(),(),low,λi h1 h2=>?_⟩;by_cases c:i=(u+v) / 2
     ·subst c;exact .inl d
     ·exact(P.of_lt d).trans (e.so _ _ () () ())
    case false=>
     dsimp[bF,cG];refine bu ⟨rfl,(u+v) / 2+1,v,rfl,(),(),(),λi h1=>?_,top⟩;have j:=P.zM d V.2;by_cases c:i=(u+v) / 2
     ·subst c;exact j
     ·exact(e.so _ _ () () ()).trans j
  case ipost=>
   rintro c B ⟨rfl,u,v,rfl,J,low,top⟩;dsimp only;refine bf<|Zv h' () () λT h3=>?_;refine bu ⟨rfl,_,h3,?_⟩;rw[show min (k+1) n=k+1 by lia];exact YI e K J low top
end
meta abbrev As:=Option (bn)×Nat
meta abbrev Ds:=Option (bn)×Nat×Nat
abbrev QE (lo a J:Nat):StateT SortSt Sem As:=
 forIn [a:J] ((none,a):As) λ_ c=>do
  let x <- ltAt' (lo+c.2) (lo+c.2-1)
  match x with
  | some b=>if b=true then pure (ForInStep.done (none,c.2))else pure (ForInStep.yield (none,c.2+1))
  | _=>pure<|ForInStep.done (some none,c.2)
abbrev Gb (lo n J:Nat):StateT SortSt Sem (bn):=do
 reverseSlice' lo (lo+n)
 let c <- QE lo n J
 match c.1 with
 | some r=>pure r
 | none=>pure<|some c.2
abbrev Xa (lo n J:Nat):StateT SortSt Sem Ds:=
 forIn [n:J] ((none,n,0):Ds) λ_ c=>do
  let x <- ltAt' (lo+c.2.1) (lo+c.2.1-1)
  match x with
  | some b=>
   if b=true then
    if c.2.2>0 then do
     reverseSlice' (lo+c.2.1-(c.2.2+1)) (lo+c.2.1)
     pure (ForInStep.yield (none,c.2.1+1,0))
    else pure (ForInStep.yield (none,c.2.1+1,0))
   else do
    let x <- ltAt' (lo+c.2.1-1) (lo+c.2.1)
    match x with
    | some b=>
     if b=true then pure (ForInStep.done (none,c.2.1,c.2.2))
     else pure (ForInStep.yield (none,c.2.1+1,c.2.2+1))
    | _=>pure<|ForInStep.done (some none,c.2.1,c.2.2)
  | _=>pure<|ForInStep.done (some none,c.2.1,c.2.2)
abbrev Sw (lo n J:Nat):StateT SortSt Sem (bn):=do
 liftM (rule "list.sort.descending-run")
 let c <- Xa lo (n+1) J
 match c.1 with
 | some r=>pure r
 | none=>
  if c.2.2>0 then do
   reverseSlice' (lo+c.2.1-(c.2.2+1)) (lo+c.2.1)
   Gb lo c.2.1 J
  else Gb lo c.2.1 J
def count_eq(lo J:Nat):countRun' lo J=(do
  let c <- QE lo 1 J
  match c.1 with
  | some r=>pure r
  | none=>
   if (c.2 == J)=true then pure (some c.2)
   else if c.2>1 then do
    let x <- ltAt' lo (lo+c.2-1)
    match x with
    | some b=>if b=true then pure (some c.2)else do
      reverseSlice' lo (lo+c.2)
      Sw lo c.2 J
    | _=>pure none
   else Sw lo c.2 J):=by
 rw[countRun'_eq];dsimp only;unfold Sw Gb Xa QE;congr 1
 funext c
 obtain⟨r,n⟩:=c
 cases r with
 | some r=>rfl
 | none=>
  dsimp only;split
  ·rfl
  ·split
   ·congr 1
    funext x
    cases x with
    | none=>rfl
    | some b=>
     dsimp only;split
     ·rfl
     ·congr 1
      funext _r
      congr 1
      funext _u
      congr 1;congr 1
      funext s2
      obtain⟨r2,f,g⟩:=s2
      cases r2 with
      | some r2=>rfl
      | none=>
       dsimp only;split
       ·congr 1
        funext _v
        congr 1
        funext _w
        congr 1
        funext s3
        obtain⟨d,e⟩:=s3
        cases d<;>rfl
       ·congr 1
        funext _w
        congr 1
        funext s3
        obtain⟨d,e⟩:=s3
        cases d<;>rfl
   ·congr 1
    funext _u
    congr 1;congr 1
    funext s2
    obtain⟨r2,f,g⟩:=s2
    cases r2 with
    | some r2=>rfl
    | none=>
     dsimp only;split
     ·congr 1
      funext _v
      congr 1
      funext _w
      congr 1
      funext s3
      obtain⟨d,e⟩:=s3
      cases d<;>rfl
     ·congr 1
      funext _w
      congr 1
      funext s3
      obtain⟨d,e⟩:=s3
      cases d<;>rfl
section
variable {prog:aj}{w:ah}{A:ay}{E:af->az->Prop}{s:az}{o:Ord}{N:Nat}{f:Nat->Keyed}{kd:SortKind}{g g0:Nat->Nat}{p:Array (Nat×Nat×Nat)}{st:SortSt}
def Rn.snoc{a b:Nat}(R:Rn o g0 g a b)(J:a<b)(U:g b=b)(h:o.lt b (g<|b-1)=false):Rn o g0 g a (b+1) where
 out i hi:=R.out i ()
 cl i h1 h2:=by
  by_cases c:i=b
  ·subst c;lia
  ·have:=R.cl i h1 ();lia
 so i j h1 h2 h3:=by
  by_cases c:j=b
  ·subst c;rw[U];have l:=R.cl (j-1) () ();have d:P o (g<|j-1) j:=P.zM h l.2;by_cases c2:i=j-1
   ·subst c2;exact d
   ·exact(R.so i (j-1) h1 () ()).trans d
  ·exact R.so i j h1 h2 ()
def OT(C:CF prog w A s o N f kd){lo a:Nat}(h:Sg N f kd g p st)(hn:lo+nrem<=N)(h1:1<=a)(J:a<=nrem)(R:Rn o g0 g lo<|lo+a)(U:∀i,lo+a<=i->i<lo+nrem->g0 i=i)
  {Q:As->SortSt->Prop} (q:∀n,a<=n->n<=nrem->Rn o g0 g lo (lo+n)->(n=nrem\/o.lt (lo+n) (g<|lo+n-1)=true)->Q (none,n) st):wpS (model prog w) A E s (QE lo a nrem) Q st:=by
 unfold QE;refine cV (I:=λx c d=>d=st/\c=(none,x)/\Rn o g0 g lo (lo+x)) ?step ?fin ⟨rfl,rfl,R⟩
 case fin=>
  rintro c d ⟨rfl,rfl,e⟩;rw[show max a nrem=nrem by lia]at e ⊢;exact q nrem J (aO _) e<|.inl rfl
 case step=>
  rintro x c d j B ⟨rfl,rfl,e⟩;dsimp only;have k:g (lo+x)=lo+x:=by rw[e.out _ ()];exact U _ () ()
  refine bf<|yv C h () () ?_;rw[k]
  cases m:o.lt (lo+x) (g<|lo+x-1)
  case true=>
   dsimp[dj];exact bu<|q x j () e<|.inr m
  case false=>
   dsimp[bF,cG];exact bu ⟨rfl,rfl,e.snoc () k m⟩
structure Dc (o:Ord)(g0 g:Nat->Nat)(a b q:Nat):Prop where
 out:∀i,i<a\/b<=i->g i=g0 i
 cl:Cl g a b
 few:a+(q+1)<=b
 dn:∀i j,a<=i->i<j->j<b->i<b-(q+1)->P o (g j) (g i)
 id:∀i,b-(q+1)<=i->i<b->g i=i
 al:∀i j,b-(q+1)<=i->i<b->b-(q+1)<=j->j<b->o.lt i j=false
def Dc.turn{a b q:Nat}(D:Dc o g0 g a b q):(∀i,i<a\/b<=i->rev g (b-(q+1)) b i=g0 i)/\Cl (rev g (b-(q+1)) b) a b/\(∀i j,a<=i->i<j->j<b->P o (rev g (b-(q+1)) b j) (rev g (b-(q+1)) b i))/\(∀i,b-(q+1)<=i->i<b->∃k,rev g (b-(q+1)) b i=k/\b-(q+1)<=k/\k<b):=by
 have few:=D.few;have d:∀i,b-(q+1)<=i->i<b->rev g (b-(q+1)) b i=b-(q+1)+b-1-i:=λi h1 h2=>by
  rw[Bk h1 h2];exact D.id _ (by omega)<|by omega
 refine⟨λi hi=>?_,λi h1 h2=>?_,λi j h1 h2 h3=>?_,λi h1 h2=>⟨_,d i h1 h2,by omega,by omega⟩⟩
 ·rw[qS<|by omega];exact D.out i hi
 ·by_cases c:i<b-(q+1)
  ·rw[qS<|by omega];exact D.cl i h1 h2
  ·rw[d i (by omega) h2];omega
 ·by_cases c:i<b-(q+1)
  ·rw[qS (k:=i)<|by omega];by_cases c2:j<b-(q+1)
   ·rw[qS<|by omega];exact D.dn i j h1 h2 h3 c
   ·rw[d j (by omega) h3];have:=D.dn i (b-(q+1)+b-1-j) h1 (by omega) (by omega) c
    rwa [D.id _ (by omega)<|by omega]at this
  ·rw[d i (by omega)<|by omega,d j (by omega) h3];exact P.zM (D.al _ _ (by omega) (by omega) (by omega)<|by omega)<|by omega
abbrev Fin (o:Ord)(g0 g:Nat->Nat)(a b:Nat):Prop:=(∀i,i<a\/b<=i->g i=g0 i)/\Cl g a b/\(∀i j,a<=i->i<j->j<b->P o (g j) (g i))
def Dc.HR{a b:Nat}(D:Dc o g0 g a b 0):Fin o g0 g a b:=⟨D.out,D.cl,λi j h1 h2 h3=>D.dn i j h1 h2 h3 ()⟩
def Fin.rn{a b:Nat}(D:Fin o g0 g a b):Rn o g0 (rev g a b) a b where
 out i hi:=by rw[qS hi];exact D.1 i hi
 cl i h1 h2:=by
  rw[Bk h1 h2];exact D.2.1 _ () ()
 so i j h1 h2 h3:=by
  rw[Bk h1 (),Bk () h3];exact D.2.2 _ _ () () ()
def Fin.add{a b:Nat}(D:Fin o g0 g a b)(J:g b=b)(U:a<b)(h:∀i,a<=i->i<b->P o b (g i)):Dc o g0 g a (b+1) 0 where
 out i hi:=D.1 i ()
 cl i h1 h2:=by
  by_cases c:i=b
  ·subst c;lia
  ·have:=D.2.1 i h1 ();lia
 few:=()
 dn i j h1 h2 h3 _:=by
  by_cases c:j=b
  ·subst c;rw[J];exact h i h1 h2
  ·exact D.2.2 i j h1 h2 ()
 id i h1 h2:=by
  have:i=b:=()
  rw[this,J]
 al i j h1 h2 h3 h4:=by
  have:i=j:=()
  rw[this];exact o.UB _
def yz(C:CF prog w A s o N f kd){lo n:Nat}(h:Sg N f kd g p st)(hn:lo+nrem<=N)(h1:1<=n)(J:n<=nrem)(D:Fin o g0 g lo<|lo+n)(U:∀i,lo<=i->i<lo+nrem->g0 i=i)
  {Q:bn->SortSt->Prop} (q:∀m g' st',Sg N f kd g' p st'->1<=m->m<=nrem->Rn o g0 g' lo (lo+m)->Q (some m) st'):wpS (model prog w) A E s (Gb lo n nrem) Q st:=by
 unfold Gb;refine bf<|AN h () λe h2=>?_;exact bf<|OT C h2 hn h1 J D.rn (λi a b=>U i () b) λm d c R _=>bu<|q m _ _ h2 () c R
def YH(C:CF prog w A s o N f kd){lo n:Nat}(h:Sg N f kd g p st)(hn:lo+nrem<=N)(h1:1<=n)(han:n<=nrem)(D:Dc o g0 g lo (lo+n) 0)(hid:∀i,lo<=i->i<lo+nrem->g0 i=i)
  {Q:Ds->SortSt->Prop} (q:∀m e g' st',Sg N f kd g' p st'->1<=m->m<=nrem->Dc o g0 g' lo (lo+m) e->Q (none,m,e) st'):wpS (model prog w) A E s (Xa lo n nrem) Q st:=by
 unfold Xa;refine cV (I:=λx c st'=>∃e g',c=(none,x,e)/\Sg N f kd g' p st'/\Dc o g0 g' lo (lo+x) e) ?step ?fin ⟨0,g,rfl,h,D⟩
 case fin=>
  rintro c st' ⟨e,g',rfl,h',D'⟩;rw[show max n nrem=nrem by lia]at D' ⊢;exact q nrem e g' st' h' () (aO _) D'
 case step=>
  rintro x c st' Y M ⟨e,g',rfl,h',D'⟩;dsimp only;have few:=D'.few;have B:g' (lo+x)=lo+x:=by rw[D'.out _ ()];exact hid _ () ()
  have F:g' (lo+x-1)=lo+x-1:=D'.id _ () ();refine bf<|yv C h' () () ?_;rw[B,F]
  cases G:o.lt (lo+x) (lo+x-1)
  case true=>
   dsimp[dj];by_cases K:e>0
   ·rw[aJ K];obtain⟨L,t2,O,U⟩:=D'.turn;refine bf<|AN h' () λZ h2=>bu ⟨0,_,rfl,h2,?_⟩;refine Fin.add (b:=lo+x) ⟨L,t2,O⟩ (by rw[qS ()];exact B) () λi a b=>?_;by_cases c:lo+x-(e+1)<=i
    ·obtain⟨k,V,T,W⟩:=U i c b;rw[V]
     rcases o.neg _ k _ G with z|z
     ·exact .inl z
     ·rw[D'.al _ _ T W () ()]at z;cases z
    ·rw[qS ()];have:=D'.dn i (lo+x-1) a () () ();rw[F]at this;exact(P.of_lt G).trans this
   ·rw[aI K];have:e=0:=()
    subst this;refine bu ⟨0,_,rfl,h',Fin.add (b:=lo+x) D'.HR B () λi a b=>?_⟩;by_cases c:i=lo+x-1
    ·subst c;rw[F];exact .inl G
    ·have:=D'.dn i (lo+x-1) a () () ();rw[F]at this;exact(P.of_lt G).trans this
  case false=>
   dsimp[bF,cG];refine bf<|yv C h' () () ?_;rw[B,F]
   cases hg:o.lt (lo+x-1) (lo+x)
   case true=>
    dsimp[dj];exact bu<|q x e g' st' h' () () D'
   case false=>
    dsimp[bF,cG];refine bu ⟨e+1,g',rfl,h',?_⟩;have J:∀i,lo+x-(e+1)<=i->i<lo+x->o.lt i (lo+x)=false/\o.lt (lo+x) i=false:=λi a b=>by
     constructor
     ·cases z:o.lt i (lo+x)with
      | false=>rfl
      | true=>
       rcases o.neg _ (lo+x-1) _ z with y|y
       ·rw[D'.al _ _ a b () ()]at y;cases y
       ·rw[hg]at y;cases y
     ·cases z:o.lt (lo+x) i with
      | false=>rfl
      | true=>
       rcases o.neg _ (lo+x-1) _ z with y|y
       ·rw[G]at y;cases y
       ·rw[D'.al _ _ () () a b]at y;cases y
    exact {
     out:=λi hi=>D'.out i ()
     cl:=λi a b=>by
      by_cases c:i=lo+x
      ·subst c;lia
      ·have:=D'.cl i a ();lia
     few:=()
     dn:=λi j a b c d=>by
      by_cases z:j=lo+x
      ·subst z;rw[B];have y:=D'.dn i (lo+x-1) a () () ();rw[F]at y;have gi:=D'.cl i a ()
       rcases y with y|⟨_,y⟩
       ·rcases o.neg _ (lo+x) _ y with v|v
        ·rw[hg]at v;cases v
        ·exact .inl v
       ·lia
      ·exact D'.dn i j a b () ()
     id:=λi a b=>by
      by_cases z:i=lo+x
      ·subst z;exact B
      ·exact D'.id i () ()
     al:=λi j a b c d=>by
      by_cases z:i=lo+x
      ·subst z;by_cases y:j=lo+x
       ·subst y;exact o.UB _
       ·exact(J j () ()).2
      ·by_cases y:j=lo+x
       ·subst y;exact(J i () ()).1
       ·exact D'.al i j () () () ()}
def Km(C:CF prog w A s o N f kd){lo n:Nat}(h:Sg N f kd g p st)(hn:lo+nrem<=N)(U:n+1<=nrem)(D:Dc o g0 g lo (lo+(n+1)) 0)(J:∀i,lo<=i->i<lo+nrem->g0 i=i)
  {Q:bn->SortSt->Prop} (q:∀m g' st',Sg N f kd g' p st'->1<=m->m<=nrem->Rn o g0 g' lo (lo+m)->Q (some m) st'):wpS (model prog w) A E s (Sw lo n nrem) Q st:=by
 unfold Sw;cb_eq;refine bf<|YH C h hn () U D J λm e g' st' h' c d D'=>?_;dsimp only;by_cases j:e>0
 ·rw[aJ j];obtain⟨k,F,G,_⟩:=D'.turn;exact bf (AN h' () λB h2=>yz C h2 hn c d ⟨k,F,G⟩ J q)
 ·rw[aI j];have:e=0:=()
  subst this;exact yz C h' hn c d D'.HR J q
def QC(C:CF prog w A s o N f kd){lo:Nat}(h:Sg N f kd g p st)(hn:lo+nrem<=N)(h1:1<=nrem)(U:∀i,lo<=i->i<lo+nrem->g i=i)
  {Q:bn->SortSt->Prop} (q:∀m g' st',Sg N f kd g' p st'->1<=m->m<=nrem->Rn o g g' lo (lo+m)->Q (some m) st'):wpS (model prog w) A E s (countRun' lo nrem) Q st:=by
 rw[count_eq];refine bf (OT C h hn (aO 1) h1 (g0:=g) ⟨λ_ _=>rfl,λi a b=>?_,λi j a b c=>()⟩ (λi a b=>U i () b) λn L M R G=>?_)
 ·have:i=lo:=()
  subst this;rw[U i (aO _) ()];lia
 dsimp only;by_cases B:n=nrem
 ·rw[aJ<|by simpa using B];exact bu (q n g st h L M R)
 ·rw[aI<|by simpa using B];have e:=G.resolve_left B;rw[U (lo+n-1) () ()]at e;have K:g (lo+n)=lo+n:=U _ () ();by_cases F:n>1
  ·rw[aJ F];refine bf<|yv C h () () ?_;rw[U lo () (),U (lo+n-1) () ()]
   cases O:o.lt lo (lo+n-1)
   case true=>
    dsimp[dj];exact bu<|q n g st h L M R
   case false=>
    dsimp[bF,cG];have d:∀i,lo<=i->i<lo+n->g i=i:=λi a b=>U i a ();have J:∀i j,lo<=i->i<j->j<lo+n->o.lt i j=false/\o.lt j i=false:=λi j a b c=>by
     have r:=R.so i j a b c;rw[d i a (),d j () c]at r;refine⟨?_,r.ge⟩
     cases z:o.lt i j with
     | false=>rfl
     | true=>
      rcases o.neg _ lo _ z with y|y
      ·by_cases x:i=lo
       ·subst x;rw[o.UB]at y;cases y
       ·have r2:=R.so lo i () () ();rw[d i a (),d lo () ()]at r2;rw[r2.ge]at y;cases y
      ·rcases o.neg _ (lo+n-1) _ y with x|x
       ·rw[O]at x;cases x
       ·by_cases v:j=lo+n-1
        ·subst v;rw[o.UB]at x;cases x
        ·have r2:=R.so j (lo+n-1) () () ();rw[d j () c,d (lo+n-1) () ()]at r2;rw[r2.ge]at x;cases x
    refine bf<|AN h () λT h2=>Km C h2 hn () ?_ U q;have k:∀i,lo<=i->i<lo+n->rev g lo (lo+n) i=lo+(lo+n)-1-i:=λi a b=>by rw[Bk a b];exact d _ () ()
    refine Fin.add (b:=lo+n) ⟨λi hi=>qS hi,λi a b=>by rw[k i a b];lia,λi j a b c=>?_⟩ (by rw[qS ()];exact K) () λi a b=>?_
    ·rw[k i a (),k j () c];exact P.zM (J _ _ () () ()).2 ()
    ·rw[k i a b];by_cases x:lo+(lo+n)-1-i=lo+n-1
     ·rw[x];exact .inl e
     ·rcases o.neg _ (lo+(lo+n)-1-i) _ e with z|z
      ·exact .inl z
      ·rw[(J _ _ () () ()).1]at z;cases z
  ·rw[aI F];have:n=1:=()
   subst this;refine Km C h hn () ?_ U q;refine Fin.add (b:=lo+1) ⟨λi hi=>rfl,R.cl,λi j a b c=>()⟩ K () λi a b=>?_;have:i=lo:=()
   subst this;rw[U i () ()];rw[show i+1-1=i by lia]at e;exact .inl e
end
abbrev Ws (N:Nat):Prop:=∀{prog:aj}{w:ah}{A:ay}{E:af->az->Prop}{s:az}{o:Ord}{f:Nat->Keyed}{kd:SortKind}{st:SortSt}{Q:Unit->SortSt->Prop},CF prog w A s o N f kd->Sg N f kd (λi=>i) #[] st->(∀d e c,Sg N f kd d e c->Cl d 0 N->So o d 0 N->Q Unit.unit c)->wpS (model prog w) A E s sortRuns' Q st
abbrev RO (N:Nat):Prop:=2<=N->Ws N
def Sg.pen{N:Nat}{f:Nat->Keyed}{kd:SortKind}{g:Nat->Nat}{p:Array<|Nat×Nat×Nat}{st:SortSt}(h:Sg N f kd g p st)(J:Array<|Nat×Nat×Nat):Sg N f kd g J (setPending st J):=⟨h.size,h.get,h.lt,h.kind,h.failed,rfl⟩
abbrev nO:Bool->Keyed->Array Keyed->Nat->Nat->Nat->StateT SortSt Sem (bn):=sortPriv% PySem.Builtin.gallop
abbrev Z5 (U:Nat->StateT SortSt Sem (bj))(n J:Nat):StateT SortSt Sem (bn):=do
 let mut was:=0
 let mut far:=1
 let mut low:=0
 let mut top:=0
 let some yes <- U J|return none
 if yes then
  let c:=n-J
  for _ in [0:n] do
   if far>=c then break
   let some ok <- U (J+far)|return none
   if !ok then break
   was:=far
   far:=2 * far+1
  low:=J+was+1
  top:=J+min far c
 else
  let c:=J+1
  for _ in [0:n] do
   if far>=c then break
   let some hit <- U (J-far)|return none
   if hit then break
   was:=far
   far:=2 * far+1
  low:=J+1-min far c
  top:=J-was
 for _ in [0:n] do
  if low>=top then break
  let m:=low+(top-low) / 2
  let some ok <- U m|return none
  if ok then low:=m+1 else top:=m
 return some top
def Dv(left:Bool)(J:Keyed)(arr:Array Keyed)(base n hint:Nat):nO left J arr base n hint=Z5 (λi=>do
  let x <- elem' arr (base+i)
  if left then lt' x J else return (<- lt' J x).map (!·)) n hint:=rfl
section
variable {prog:aj}{w:ah}{A:ay}{E:af->az->Prop}{s:az}{st:SortSt}
abbrev bsB (J:Nat->StateT SortSt Sem (bj))(n l0 h0:Nat):StateT SortSt Sem (bn):=do
 let mut low:=l0
 let mut top:=h0
 for _ in [0:n] do
  if low>=top then break
  let m:=low+(top-low) / 2
  let some ok <- J m|return none
  if ok then low:=m+1 else top:=m
 return some top
def X3{be:Nat->StateT SortSt Sem (bj)}{n h0:Nat}(b:Nat->Bool)(J:∀i,i<n->∀Q:bj->SortSt->Prop,Q (some<|b i) st->wpS (model prog w) A E s (be i) Q st)(hb:∀i j,i<=j->j<n->b j=true->b i=true)
  (U:l0<=h0) (hn:h0<=n) (hl:∀i,i<l0->b i=true) (hh:∀i,h0<=i->i<n->b i=false)
  {Q:bn->SortSt->Prop} (q:∀k,k<=n->(∀i,i<k->b i=true)->(∀i,k<=i->i<n->b i=false)->Q (some k) st):wpS (model prog w) A E s (bsB be n l0 h0) Q st:=by
 unfold bsB;refine bf (eO (cV (I:=λx c d=>d=st/\∃lo hi,c=(none,lo,hi)/\lo<=hi/\hi<=n/\hi-lo<=n-x/\(∀i,i<lo->b i=true)/\(∀i,hi<=i->i<n->b i=false))
  (Q:=λc d=>d=st/\∃k,c=(none,k,k)/\k<=n/\(∀i,i<k->b i=true)/\(∀i,k<=i->i<n->b i=false)) ?step ?fin ⟨rfl,l0,h0,rfl,U,hn,(),hl,hh⟩) ?post)
 case post=>
  rintro c d ⟨rfl,k,rfl,h1,h2,h3⟩;exact bu<|q k h1 h2 h3
 case fin=>
  rintro c d ⟨rfl,lo,hi,rfl,h1,h2,h3,f,g⟩;have:lo=hi:=()
  subst this;exact⟨rfl,lo,rfl,h2,f,g⟩
 case step=>
  rintro x c d _ C ⟨rfl,lo,hi,rfl,h1,h2,h3,f,g⟩;dsimp only;by_cases e:lo>=hi
  ·rw[aJ e];have:lo=hi:=()
   subst this;exact bu ⟨rfl,lo,rfl,h2,f,g⟩
  ·rw[aI e];have B:lo+(hi-lo) / 2<hi:=()
   obtain⟨m,p⟩:∃m,m=lo+(hi-lo) / 2:=⟨_,rfl⟩;rw[<- p]at B ⊢;refine bf (J m () _ ?_)
   cases hv:b m
   ·dsimp[bF,cG];refine bu ⟨rfl,lo,m,rfl,(),(),(),f,λi a c=>?_⟩
    cases z:b i with
    | false=>rfl
    | true=>rw[hb m i a c z]at hv;cases hv
   ·dsimp[dj];exact bu ⟨rfl,m+1,hi,rfl,(),h2,(),λi a=>hb i m () () hv,g⟩
def Ms{be:Nat->StateT SortSt Sem (bj)}{n:Nat}(b:Nat->Bool)(J:∀i,i<n->∀Q:bj->SortSt->Prop,Q (some<|b i) st->wpS (model prog w) A E s (be i) Q st)(U:∀i j,i<=j->j<n->b j=true->b i=true)(hh:hint<n)
  {Q:bn->SortSt->Prop} (q:∀k,k<=n->(∀i,i<k->b i=true)->(∀i,k<=i->i<n->b i=false)->Q (some k) st):wpS (model prog w) A E s (Z5 be n hint) Q st:=by
 unfold Z5;have m:∀i j,i<=j->j<n->b i=false->b j=false:=λi j a c d=>by
  cases z:b j with
  | false=>rfl
  | true=>rw[U i j a c z]at d;cases d
 refine bf (J hint hh _ ?_)
 cases p:b hint
 ·dsimp only;dsimp[bF,cG];refine bf (eO (cV (I:=λx c e=>e=st/\∃l u,c=(none,l,u)/\x+1<=u/\l<u/\l<=hint/\b (hint-l)=false)
   (Q:=λc e=>e=st/\∃l u,c=(none,l,u)/\l<u/\l<=hint/\b (hint-l)=false/\(u>=hint+1\/b (hint-u)=true)) ?step ?fin ⟨rfl,0,1,rfl,by omega,by omega,by omega,p⟩) ?post)
  case post=>
   rintro c e ⟨rfl,l,u,rfl,h1,h2,h3,f⟩;dsimp only;refine(X3 b J U (l0:=hint+1-min u (hint+1)) (h0:=hint-l) (by omega) (by omega) (λi a=>?_) (λi a c=>m _ _ a c h3) q:wpS (model prog w) A E s (bsB be n _ _) Q e)
   rcases f with f|f
   ·omega
   ·exact U i (hint-u) (by omega) (by omega) f
  case fin=>
   rintro c e ⟨rfl,l,u,rfl,h1,h2,h3,f⟩;exact⟨rfl,l,u,rfl,h2,h3,f,.inl<|by omega⟩
  case step=>
   rintro x c e _ B ⟨rfl,l,u,rfl,h1,h2,h3,f⟩;dsimp only;by_cases g:u>=hint+1
   ·rw[aJ g];exact bu ⟨rfl,l,u,rfl,h2,h3,f,.inl g⟩
   ·rw[aI g];refine bf (J _ (by omega) _ ?_)
    cases hv:b (hint-u)
    ·dsimp[bF,cG];exact bu ⟨rfl,u,2 * u+1,rfl,by omega,by omega,by omega,hv⟩
    ·dsimp[dj];exact bu ⟨rfl,l,u,rfl,h2,h3,f,.inr hv⟩
 ·dsimp only;dsimp[dj];refine bf (eO (cV (I:=λx c e=>e=st/\∃l u,c=(none,l,u)/\x+1<=u/\l<u/\hint+l<n/\b (hint+l)=true)
   (Q:=λc e=>e=st/\∃l u,c=(none,l,u)/\l<u/\hint+l<n/\b (hint+l)=true/\(u>=n-hint\/b (hint+u)=false)) ?step2 ?fin2 ⟨rfl,0,1,rfl,by omega,by omega,by omega,p⟩) ?post2)
  case post2=>
   rintro c e ⟨rfl,l,u,rfl,h1,h2,h3,f⟩;dsimp only;refine(X3 b J U (l0:=hint+l+1) (h0:=hint+min u (n-hint)) (by omega) (by omega) (λi a=>U i _ (by omega) h2 h3) (λi a c=>?_) q:wpS (model prog w) A E s (bsB be n _ _) Q e)
   rcases f with f|f
   ·omega
   ·exact m (hint+u) i (by omega) c f
  case fin2=>
   rintro c e ⟨rfl,l,u,rfl,h1,h2,h3,f⟩;exact⟨rfl,l,u,rfl,h2,h3,f,.inl<|by omega⟩
  case step2=>
   rintro x c e _ B ⟨rfl,l,u,rfl,h1,h2,h3,f⟩;dsimp only;by_cases g:u>=n-hint
   ·rw[aJ g];exact bu ⟨rfl,l,u,rfl,h2,h3,f,.inl g⟩
   ·rw[aI g];refine bf (J _ (by omega) _ ?_)
    cases hv:b (hint+u)
    ·dsimp[c_,dj];exact bu ⟨rfl,l,u,rfl,h2,h3,f,.inr hv⟩
    ·dsimp[dg,bF,cG];exact bu ⟨rfl,u,2 * u+1,rfl,by omega,by omega,by omega,hv⟩
end
section
variable {prog:aj}{w:ah}{A:ay}{E:af->az->Prop}{s:az}{o:Ord}{N:Nat}{f:Nat->Keyed}{kd:SortKind}{st:SortSt}
def Ud(C:CF prog w A s o N f kd)(hk:kindOf st=kd){base n:Nat}{arr:Array Keyed}{h:Nat->Nat}(ha:∀i,i<n->arr[base+i]?=some (f<|h i))(J:∀i,i<n->h i<key)(U:key<N)(so:So o h 0 n)(hh:hint<n)
  {Q:bn->SortSt->Prop} (q:∀k,k<=n->(∀i,i<k->P o (h i) key)->(∀i,k<=i->i<n->P o key (h i))->Q (some k) st):wpS (model prog w) A E s (nO false (f key) arr base n hint) Q st:=by
 rw[Dv];refine Ms (λi=>!o.lt key (h i)) (λi hi Q' g=>?_) (λi j a b c=>?_) hh λk h1 h2 h3=>q k h1 (λi a=>?_) λi a b=>?_
 ·refine bf<|kK (ha i hi) ?_;dsimp[bF,cG];exact bf (BA C hk U (by have:=J i hi;lia)<|bu g)
 ·by_cases z:i=j
  ·subst z;exact c
  ·have r:=so i j (bL _) () b;have d:o.lt key (h j)=false:=by simpa using c
   cases e:o.lt key (h i)with
   | false=>rfl
   | true=>
    have:=(P.of_lt e).trans r;rw[this.lt<|J j b]at d;cases d
 ·have:=h2 i a;exact P.zM (by simpa using this) (J i ())
 ·have:=h3 i a b;exact .inl<|by simpa using this
def Tj(C:CF prog w A s o N f kd)(U:kindOf st=kd){base n:Nat}{arr:Array Keyed}{h:Nat->Nat}(ha:∀i,i<n->arr[base+i]?=some (f<|h i))(J:∀i,i<n->key<h i/\h i<N)(so:So o h 0 n)(hh:hint<n)
  {Q:bn->SortSt->Prop} (q:∀k,k<=n->(∀i,i<k->P o (h i) key)->(∀i,k<=i->i<n->P o key (h i))->Q (some k) st):wpS (model prog w) A E s (nO true (f key) arr base n hint) Q st:=by
 rw[Dv];refine Ms (λi=>o.lt (h i) key) (λi hi Q' d=>?_) (λi j a b c=>?_) hh λk h1 h2 h3=>q k h1 (λi a=>?_) λi a b=>?_
 ·refine bf<|kK (ha i hi) ?_;dsimp[dj];exact BA C U (J i hi).2 (by have:=J i hi;lia) d
 ·by_cases z:i=j
  ·subst z;exact c
  ·have r:=so i j (bL _) () b;exact(r.trans<|P.of_lt c).lt (J i ()).1
 ·exact .inl (h2 i a)
 ·exact P.zM (h3 i a b) (J i b).1
end
abbrev BN:Array Keyed->Array Keyed->StateT SortSt Sem (Array Keyed):=sortPriv% PySem.Builtin.mergeLo
abbrev A4:Array Keyed->Array Keyed->StateT SortSt Sem (Array Keyed):=sortPriv% PySem.Builtin.mergeHi
abbrev zO:Nat->StateT SortSt Sem Unit:=sortPriv% PySem.Builtin.setMinGallop
def Vf(m:Nat):zO m=modify λs=>SortSt.mk' (kindOf s) (arrOf s) (pendingOf s) m (failedOf s):=rfl
def Ii(a b:Array Keyed):BN a b=(do
 rule "list.sort.merge-lo"
 let all_:=a.size+b.size
 let end1 (acc:Array Keyed) (p q:Nat):=acc++a.extract p a.size++b.extract q b.size
 let end2 (acc:Array Keyed) (p q:Nat):=acc++b.extract q b.size++a.extract p a.size
 let mut acc:Array Keyed:=#[<- elem' b 0]
 let mut p:=0
 let mut q:=1
 if q == b.size then return end1 acc p q
 if p+1 == a.size then return end2 acc p q
 let mut mg:=gallopOf (<- get)
 for _ in [0:all_] do
  let mut ca:=0
  let mut cb:=0
  for _ in [0:all_] do
   let some won <- lt' (<- elem' b q) (<- elem' a p)|return end1 acc p q
   if won then
    acc:=acc.push<|<- elem' b q;q:=q+1;cb:=cb+1;ca:=0
    if q == b.size then return end1 acc p q
    if cb>=mg then break
   else
    acc:=acc.push<|<- elem' a p;p:=p+1;ca:=ca+1;cb:=0
    if p+1 == a.size then return end2 acc p q
    if ca>=mg then break
  rule "list.sort.gallop"
  mg:=mg+1
  for _ in [0:all_] do
   if mg>1 then mg:=mg-1
   zO mg
   let some k <- nO false (<- elem' b q) a p (a.size-p) 0|return end1 acc p q
   ca:=k
   if k>0 then
    acc:=acc++a.extract p (p+k);p:=p+k
    if p+1 == a.size then return end2 acc p q
    if p == a.size then return end1 acc p q
   acc:=acc.push<|<- elem' b q;q:=q+1
   if q == b.size then return end1 acc p q
   let some k <- nO true (<- elem' a p) b q (b.size-q) 0|return end1 acc p q
   cb:=k
   if k>0 then
    acc:=acc++b.extract q (q+k);q:=q+k
    if q == b.size then return end1 acc p q
   acc:=acc.push<|<- elem' a p;p:=p+1
   if p+1 == a.size then return end2 acc p q
   if ca<7 && cb<7 then break
  mg:=mg+1
  zO mg
 unsupported "internal:list.sort.merge-bound"):=rfl
section
variable {o:Ord}{N:Nat}{f:Nat->Keyed}{A B hs:am}{ia ib:Nat}
abbrev fa (f:Nat->Keyed)(l:am):Array Keyed:=(l.map f).toArray
def oG(l:am):(fa f l).size=l.length:=by unfold fa;rw[aZ,aG]
def Qg(l:am)(i:Nat):(fa f l)[i]?=(l[i]?).map f:=by unfold fa;rw[d_,aQ]
def nR{l:am}{i x:Nat}(h:l[i]?=some x):(fa f l)[i]?=some (f x):=by rw[Qg,h];rfl
def yK(l:am)(x:Nat):(fa f l).push (f x)=fa f (l++[x]):=by
 unfold fa;rw[List.push_toArray,bQ];rfl
def rj(l m:am):fa f l++fa f m=fa f (l++m):=by
 unfold fa;rw[List.append_toArray,bQ]
def zk(l:am)(i j:Nat):(fa f l).extract i j=fa f ((l.drop i).take<|j-i):=by
 unfold fa;rw[List.extract_toArray,List.extract_eq_take_drop,map_take,map_drop]
def Au(l:am)(i:Nat):(fa f l).extract i l.length=fa f (l.drop i):=by
 rw[zk,List.take_of_length_le<|by rw[dU];lia]
structure Ab (o:Ord)(N:Nat)(A B:am):Prop where
 sa:A.Pairwise (P o)
 sb:B.Pairwise (P o)
 lt:∀x∈A,∀y∈B,x<y
 nb:∀y∈B,y<N
 na:∀x∈A,x<N
structure Mg (o:Ord)(A B hs:am)(ia ib:Nat):Prop where
 la:ia<=A.length
 lb:ib<=B.length
 len:hs.length=ia+ib
 so:hs.Pairwise (P o)
 mem:∀x∈hs,x∈A\/x∈B
 ua:∀x∈hs,∀y∈A.drop ia,P o x y
 ub:∀x∈hs,∀y∈B.drop ib,P o x y
abbrev Res (o:Ord)(f:Nat->Keyed)(A B:am)(out:Array Keyed):Prop:=∃hs:am,out=fa f hs/\hs.length=A.length+B.length/\hs.Pairwise (P o)/\∀x∈hs,x∈A\/x∈B
def vB{l:am}(h:l.Pairwise<|P o){i j x:Nat}(U:l[i]?=some x)(hy:l[j]?=some y)(J:i<j):P o x y:=by
 obtain⟨h1,e1⟩:=aF.mp U;obtain⟨h2,e2⟩:=aF.mp hy;rw[<- e1,<- e2];exact dG.mp h i j h1 h2 J
def yi{l:am}{y:Nat}(h:y∈l.drop i):∃j,i<=j/\l[j]?=some y:=by
 obtain⟨k,c⟩:=gu h;rw[gQ]at c;exact⟨i+k,(),c⟩
def Mg.zQ(U:Ab o N A B)(m:Mg o A B hs ia ib){x:Nat}(J:A[ia]?=some x)(h:∀y∈B.drop ib,P o x y):Mg o A B (hs++[x]) (ia+1) ib:=by
 obtain⟨h1,e1⟩:=aF.mp J;have f:A.drop ia=x::A.drop (ia+1):=by rw[<- e1];exact dH h1
 refine⟨(),m.lb,by rw[bg,m.len];show ia+ib+1=_;lia,?_,λz e=>?_,λz e y d=>?_,λz e y d=>?_⟩
 ·rw[cj];exact⟨m.so,cB ..,λa p b k=>by rw[aP.mp k];exact m.ua a p x<|by rw[f];exact aL ..⟩
 ·rcases br.mp e with c|c
  ·exact m.mem z c
  ·rw[aP.mp c];exact .inl<|aX J
 ·rcases br.mp e with c|c
  ·exact m.ua z c y (by rw[f];exact aN _ d)
  ·rw[aP.mp c];obtain⟨j,q,g⟩:=yi d;exact vB U.sa J g ()
 ·rcases br.mp e with c|c
  ·exact m.ub z c y d
  ·rw[aP.mp c];exact h y d
def Ab.AY(U:Ab o N A B)(m:Mg o A B hs ia ib){x:Nat}(J:B[ib]?=some x)(h:∀y∈A.drop ia,P o x y):Mg o A B (hs++[x]) ia (ib+1):=by
 obtain⟨h1,e1⟩:=aF.mp J;have f:B.drop ib=x::B.drop (ib+1):=by rw[<- e1];exact dH h1
 refine⟨m.la,(),by rw[bg,m.len];rfl,?_,λz e=>?_,λz e y d=>?_,λz e y d=>?_⟩
 ·rw[cj];exact⟨m.so,cB ..,λa p b k=>by rw[aP.mp k];exact m.ub a p x<|by rw[f];exact aL ..⟩
 ·rcases br.mp e with c|c
  ·exact m.mem z c
  ·rw[aP.mp c];exact .inr<|aX J
 ·rcases br.mp e with c|c
  ·exact m.ua z c y d
  ·rw[aP.mp c];exact h y d
 ·rcases br.mp e with c|c
  ·exact m.ub z c y (by rw[f];exact aN _ d)
  ·rw[aP.mp c];obtain⟨j,q,g⟩:=yi d;exact vB U.sb J g ()
def tH{l:am}(h:l.Pairwise<|P o){i x:Nat}(U:l[i]?=some x)(J:P o y x):∀z∈l.drop i,P o y z:=λz e=>by
 obtain⟨j,f,d⟩:=yi e;by_cases c:j=i
 ·subst c;rw[U]at d;cases d;exact J
 ·exact J.trans<|vB h U d ()
def take_snoc{l:am}{k x:Nat}(h:l[i+k]?=some x):(l.drop i).take (k+1)=(l.drop i).take k++[x]:=by
 have h':(l.drop i)[k]?=some x:=by rw[gQ];exact h
 obtain⟨h1,e1⟩:=aF.mp h';rw[fB h1,e1]
theorem Mg.Bv(J:Ab o N A B)(m:Mg o A B hs ia ib)(U:B[ib]?=some y):∀k,ia+k<=A.length->(∀i x,i<k->A[ia+i]?=some x->P o x y)->Mg o A B (hs++(A.drop ia).take k) (ia+k) ib
 | 0,_,_=>by rw[fO,cI];exact m
 | k+1,hk,h=>by
  have d:=Mg.Bv J m U k () λi x hi=>h i x ();have c:A[ia+k]?=some (A[ia+k]'()):=aE _;rw[take_snoc c,<- cA];exact d.zQ J c<|tH J.sb U<|h k _ () c
theorem Mg.B3(ab:Ab o N A B)(m:Mg o A B hs ia ib)(J:A[ia]?=some y):∀k,ib+k<=B.length->(∀i x,i<k->B[ib+i]?=some x->P o x y)->Mg o A B (hs++(B.drop ib).take k) ia (ib+k)
 | 0,_,_=>by rw[fO,cI];exact m
 | k+1,hk,h=>by
  have d:=Mg.B3 ab m J k () λi x hi=>h i x ();have c:B[ib+k]?=some (B[ib+k]'()):=aE _;rw[take_snoc c,<- cA];exact ab.AY d c<|tH ab.sa J<|h k _ () c
def Ac{l:am}(h:l.Pairwise<|P o)(i:Nat):(l.drop i).Pairwise (P o):=h.sublist<|List.drop_sublist ..
def Mg.fin(J:Ab o N A B)(m:Mg o A B hs ia ib)(h:∀x∈A.drop ia,∀y∈B.drop ib,P o x y):Res o f A B (fa f hs++(fa f A).extract ia A.length++(fa f B).extract ib B.length):=by
 rw[Au,Au,rj,rj];have la:=m.la;have lb:=m.lb;refine⟨_,rfl,by rw[bg,bg,m.len,dU,dU];lia,?_,λx c=>?_⟩
 ·rw[cj,cj];refine⟨⟨m.so,Ac J.sa _,m.ua⟩,Ac J.sb _,λx c y d=>?_⟩
  rcases br.mp c with z|z
  ·exact m.ub x z y d
  ·exact h x z y d
 ·rcases br.mp c with z|z
  ·rcases br.mp z with z|z
   ·exact m.mem x z
   ·exact .inl<|fC z
  ·exact .inr<|fC z
def Mg.YU(J:Ab o N A B)(m:Mg o A B hs ia ib)(h:∀x∈A.drop ia,∀y∈B.drop ib,P o y x):Res o f A B (fa f hs++(fa f B).extract ib B.length++(fa f A).extract ia A.length):=by
 rw[Au,Au,rj,rj];have la:=m.la;have lb:=m.lb;refine⟨_,rfl,by rw[bg,bg,m.len,dU,dU];omega,?_,λx c=>?_⟩
 ·rw[cj,cj];refine⟨⟨m.so,Ac J.sb _,m.ub⟩,Ac J.sa _,λx c y d=>?_⟩
  rcases br.mp c with z|z
  ·exact m.ua x z y d
  ·exact h y d x z
 ·rcases br.mp c with z|z
  ·rcases br.mp z with z|z
   ·exact m.mem x z
   ·exact .inr<|fC z
  ·exact .inl<|fC z
def drop_nil{l:am}(h:l.length<=i):l.drop i=[]:=List.drop_eq_nil_of_le h
def MG{l:am}(h:l.Pairwise<|P o)(b n:Nat)(hn:b+n<=l.length):So o (λi=>l.getD (b+i) 0) 0 n:=λi j _ c d=>
 vB h (i:=b+i) (j:=b+j) (by show _=some (l.getD (b+i) 0);rw[aK,aE<|show b+i<l.length by lia];rfl) (by show _=some (l.getD (b+j) 0);rw[aK,aE<|show b+j<l.length by lia];rfl) ()
def getD_at{l:am}{i:Nat}(h:i<l.length):l[i]?=some (l.getD i 0):=by
 rw[aK,aE h];rfl
end
structure Sm (st st':SortSt):Prop where
 a:arrOf st'=arrOf st
 k:kindOf st'=kindOf st
 p:pendingOf st'=pendingOf st
 f:failedOf st'=failedOf st
def Sm.refl{st:SortSt}:Sm st st:=⟨rfl,rfl,rfl,rfl⟩
def Sm.trans{st:SortSt}(a:Sm st st')(b:Sm st' st''):Sm st st'':=⟨b.a.trans a.a,b.k.trans a.k,b.p.trans a.p,b.f.trans a.f⟩
meta abbrev G:=Option (Array Keyed)×Array Keyed×Nat×Nat×Nat×Nat×Nat
abbrev T3 (a b out:Array Keyed)(ia ib mg ac bc:Nat):StateT SortSt Sem (ForInStep G):=do
 let x <- elem' a ia
 if (ia+1+1 == a.size)=true then pure (ForInStep.done (some<|out.push x++b.extract ib b.size++a.extract (ia+1) a.size,out.push x,ia+1,ib,mg,ac,bc))
 else if (decide (ac<7) && decide (bc<7))=true then pure (ForInStep.done (none,out.push x,ia+1,ib,mg,ac,bc))
 else pure (ForInStep.yield (none,out.push x,ia+1,ib,mg,ac,bc))
abbrev T2 (a b out:Array Keyed)(ia ib mg ac bc:Nat):StateT SortSt Sem (ForInStep G):=do
 let x <- elem' b ib
 if (ib+1 == b.size)=true then pure (ForInStep.done (some<|out.push x++a.extract ia a.size++b.extract (ib+1) b.size,out.push x,ia,ib+1,mg,ac,bc))
 else
  let y <- elem' a ia
  let r <- nO true y b (ib+1) (b.size-(ib+1)) 0
  match r with
  | some k=>
   if k>0 then
    if (ib+1+k == b.size)=true then pure (ForInStep.done (some<|out.push x++b.extract (ib+1) (ib+1+k)++a.extract ia a.size++b.extract (ib+1+k) b.size,out.push x++b.extract (ib+1) (ib+1+k),ia,ib+1+k,mg,ac,k))
    else T3 a b (out.push x++b.extract (ib+1) (ib+1+k)) ia (ib+1+k) mg ac k
   else T3 a b (out.push x) ia (ib+1) mg ac k
  | _=>pure<|ForInStep.done (some<|out.push x++a.extract ia a.size++b.extract (ib+1) b.size,out.push x,ia,ib+1,mg,ac,bc)
abbrev T1 (a b out:Array Keyed)(ia ib mg ac bc:Nat):StateT SortSt Sem (ForInStep G):=do
 zO mg
 let x <- elem' b ib
 let r <- nO false x a ia (a.size-ia) 0
 match r with
 | some k=>
  if k>0 then
   if (ia+k+1 == a.size)=true then pure (ForInStep.done (some<|out++a.extract ia (ia+k)++b.extract ib b.size++a.extract (ia+k) a.size,out++a.extract ia (ia+k),ia+k,ib,mg,k,bc))
   else if (ia+k == a.size)=true then pure (ForInStep.done (some<|out++a.extract ia (ia+k)++a.extract (ia+k) a.size++b.extract ib b.size,out++a.extract ia (ia+k),ia+k,ib,mg,k,bc))
   else T2 a b (out++a.extract ia (ia+k)) (ia+k) ib mg k bc
  else T2 a b out ia ib mg k bc
 | _=>pure<|ForInStep.done (some<|out++a.extract ia a.size++b.extract ib b.size,out,ia,ib,mg,ac,bc)
section
variable {prog:aj}{w:ah}{A:ay}{E:af->az->Prop}{s:az}{o:Ord}{N:Nat}{f:Nat->Keyed}{kd:SortKind}{st st0:SortSt}{X Y hs:am}{ia ib:Nat}
def yF(h:Sm st0 st){Q:Unit->SortSt->Prop}(q:∀st',Sm st0 st'->Q Unit.unit st'):wpS (model prog w) A E s (zO m) Q st:=by
 rw[Vf];exact fY<|q _<|h.trans ⟨rfl,rfl,rfl,rfl⟩
abbrev On (o:Ord)(f:Nat->Keyed)(X Y:am)(n:Nat)(hs:am)(ia ib:Nat):Prop:=Mg o X Y hs ia ib/\ia+1<X.length/\ib<Y.length/\n<=ia+ib
abbrev G2 (o:Ord)(f:Nat->Keyed)(X Y:am)(n:Nat)(st0:SortSt):ForInStep G->SortSt->Prop:=λr e=>Sm st0 e/\match r with
 | .done c=>(∃r z,c=(some r,z)/\Res o f X Y r)\/∃hs ia ib mg d g,c=(none,fa f hs,ia,ib,mg,d,g)/\On o f X Y n hs ia ib
 | .yield c=>∃hs ia ib mg d g,c=(none,fa f hs,ia,ib,mg,d,g)/\On o f X Y n hs ia ib
abbrev Top (o:Ord)(X Y:am):Prop:=∀i x,X[i]?=some x->i+1=X.length->∀y∈Y,P o y x
def un3{α β J κ:Type}{g:α->κ}{O:α->β->J->Prop}{T:κ->Prop}(k:∀a b c,O a b c->T (g a)):∀q,(∃a b c,q=g a/\O a b c)->T q:=by
 rintro _ ⟨a,b,c,rfl,h⟩;exact k a b c h
def un4{α β J U κ:Type}{S:Prop}{g:α->β->J->U->κ}{O:α->β->J->U->Prop}{T:κ->Prop}(k:S->∀a b c d,O a b c d->T (g a b c d)):∀q,(S/\∃a b c d,q=g a b c d/\O a b c d)->T q:=by
 rintro q ⟨s,a,b,c,d,rfl,o⟩;exact k s a b c d o
def un5{α β J U ε κ:Type}{S:Prop}{g:α->β->J->U->ε->κ}{O:α->β->J->U->ε->Prop}{T:κ->Prop}(k:S->∀a b c d e,O a b c d e->T (g a b c d e)):∀q,(S/\∃a b c d e,q=g a b c d e/\O a b c d e)->T q:=by
 rintro q ⟨s,a,b,c,d,e,rfl,o⟩;exact k s a b c d e o
def un6{α β J U ε ζ κ:Type}{S:Prop}{g:α->β->J->U->ε->ζ->κ}{O:α->β->J->U->ε->ζ->Prop}{T:κ->Prop}(k:S->∀a b c d e f,O a b c d e f->T (g a b c d e f)):∀q,(S/\∃a b c d e f,q=g a b c d e f/\O a b c d e f)->T q:=by
 rintro q ⟨s,a,b,c,d,e,f,rfl,o⟩;exact k s a b c d e f o
def uo5{α β J U ε κ ρ σ:Type}{S:Prop}{j:ρ->σ->κ}{R:ρ->Prop}{g:α->β->J->U->ε->κ}{O:α->β->J->U->ε->Prop}{T:κ->Prop}(k1:S->∀r z,R r->T (j r z))(k:S->∀a b c d e,O a b c d e->T (g a b c d e)):∀q,(S/\((∃r z,q=j r z/\R r)\/∃a b c d e,q=g a b c d e/\O a b c d e))->T q:=by
 rintro q ⟨s,⟨r,z,rfl,f⟩|⟨a,b,c,d,e,rfl,o⟩⟩
 ·exact k1 s r z f
 ·exact k s a b c d e o
def uo6{α β J U ε ζ κ ρ σ:Type}{S:Prop}{j:ρ->σ->κ}{R:ρ->Prop}{g:α->β->J->U->ε->ζ->κ}{O:α->β->J->U->ε->ζ->Prop}{T:κ->Prop}(k1:S->∀r z,R r->T (j r z))(k:S->∀a b c d e f,O a b c d e f->T (g a b c d e f)):∀q,(S/\((∃r z,q=j r z/\R r)\/∃a b c d e f,q=g a b c d e f/\O a b c d e f))->T q:=by
 rintro q ⟨s,⟨r,z,rfl,m⟩|⟨a,b,c,d,e,f,rfl,o⟩⟩
 ·exact k1 s r z m
 ·exact k s a b c d e f o
def yp(J:Ab o N X Y)(U:Top o X Y)(m:Mg o X Y hs ia ib)(h:ia+1=X.length):Res o f X Y (fa f hs++(fa f Y).extract ib Y.length++(fa f X).extract ia X.length):=
 m.YU J λx d y e=>by
  obtain⟨j,g,c⟩:=yi d;have:=(aF.mp c).1;exact U j x c () y<|fC e
def Yo(J:Ab o N X Y)(tp:Top o X Y)(U:Sm st0 st){n mg x:Nat}(m:Mg o X Y hs ia ib)(ha:ia+1<X.length)(hb:ib<Y.length)(hn:n<=ia+ib)(hx:X[ia]?=some x)(hy:Y[ib]?=some y)(hxy:P o x y) :
  wpS (model prog w) A E s (T3 (fa f X) (fa f Y) (fa f hs) ia ib mg ac bc) (G2 o f X Y n st0) st:=by
 unfold T3;rw[oG,oG];refine bf<|kK (nR hx) ?_;have d:=m.zQ J hx<|tH J.sb hy hxy;rw[yK];by_cases c:ia+1+1=X.length
 ·rw[aJ<|by rw[c];exact cg _];exact bu ⟨U,.inl ⟨_,_,rfl,yp J tp d c⟩⟩
 ·rw[aI<|by simpa using c];by_cases c2:(decide (ac<7) && decide (bc<7))=true
  ·rw[aJ c2];exact bu ⟨U,.inr ⟨_,_,_,_,_,_,rfl,d,(),hb,()⟩⟩
  ·rw[aI c2];exact bu ⟨U,⟨_,_,_,_,_,_,rfl,d,(),hb,()⟩⟩
def Xs(C:CF prog w A s o N f kd)(hk:kindOf st=kd)(ab:Ab o N X Y)(tp:Top o X Y)(hm:Sm st0 st){n mg x:Nat}(m:Mg o X Y hs ia ib)(ha:ia+1<X.length)(hb:ib<Y.length)(hn:n<=ia+ib)(U:X[ia]?=some x)(J:Y[ib]?=some y)(hxy:P o y x) :
  wpS (model prog w) A E s (T2 (fa f X) (fa f Y) (fa f hs) ia ib mg ac bc) (G2 o f X Y n st0) st:=by
 unfold T2;rw[oG,oG];refine bf<|kK (nR J) ?_;have m2:=ab.AY m J<|tH ab.sa U hxy;rw[yK];by_cases c:ib+1=Y.length
 ·rw[aJ<|by rw[c];exact cg _];exact bu ⟨hm,.inl ⟨_,_,rfl,m2.fin ab λx _ y J=>by rw[drop_nil ()]at J;cases J⟩⟩
 ·rw[aI<|by simpa using c];refine bf<|kK (nR U) ?_;refine bf (Tj C hk (h:=λi=>Y.getD (ib+1+i) 0) (λi hi=>nR<|getD_at ()) (λi hi=>?_) (MG ab.sb _ _ ()) () λk p j e=>?_)
  ·have:=aX<|getD_at (l:=Y) (i:=ib+1+i) ();exact⟨ab.lt x (aX U) _ this,ab.nb _ this⟩
  ·dsimp only;have d:=m2.B3 ab U k () λi z hi g=>by
    have:=j i hi;rw[aK,g]at this;exact this
   by_cases c2:k>0
   ·rw[aJ c2,zk,show ib+1+k-(ib+1)=k by lia,rj];by_cases c3:ib+1+k=Y.length
    ·rw[aJ<|by rw[c3];exact cg _];exact bu ⟨hm,.inl ⟨_,_,rfl,d.fin ab λx _ y J=>by rw[drop_nil ()]at J;cases J⟩⟩
    ·rw[aI<|by simpa using c3];exact Yo ab tp hm d ha () () U (getD_at ())<|e k (aO _) ()
   ·rw[aI c2];have:k=0:=()
    subst this;exact Yo ab tp hm m2 ha () () U (getD_at ())<|e 0 (aO _) ()
def abq(C:CF prog w A s o N f kd)(hk:kindOf st0=kd)(U:Ab o N X Y)(tp:Top o X Y)(hm:Sm st0 st){n mg:Nat}(m:Mg o X Y hs ia ib)(ha:ia+1<X.length)(hb:ib<Y.length)(hn:n<=ia+ib) :
  wpS (model prog w) A E s (T1 (fa f X) (fa f Y) (fa f hs) ia ib mg ac bc) (G2 o f X Y n st0) st:=by
 unfold T1;rw[oG,oG];refine bf<|yF hm λF c=>?_;have d:=getD_at (l:=Y) (i:=ib) hb;have p:=aX d;refine bf<|kK (nR d) ?_;refine bf (Ud C (by rw[c.k];exact hk) (h:=λi=>X.getD (ia+i) 0) (λi hi=>nR<|getD_at ()) (λi hi=>U.lt _ (aX<|getD_at (l:=X) (i:=ia+i) ()) _ p) (U.nb _ p) (MG U.sa _ _ ()) () λk J G g=>?_);dsimp only;have e:=m.Bv U d k () λi z hi B=>by
  have:=G i hi;rw[aK,B]at this;exact this
 by_cases c2:k>0
 ·rw[aJ c2,zk,show ia+k-ia=k by lia,rj];by_cases c3:ia+k+1=X.length
  ·rw[aJ<|by rw[c3];exact cg _];exact bu ⟨c,.inl ⟨_,_,rfl,yp U tp e c3⟩⟩
  ·rw[aI<|by simpa using c3];by_cases q:ia+k=X.length
   ·rw[aJ<|by rw[q];exact cg _];exact bu ⟨c,.inl ⟨_,_,rfl,e.fin U λx j y _=>by rw[drop_nil ()]at j;cases j⟩⟩
   ·rw[aI<|by simpa using q];exact Xs C (by rw[c.k];exact hk) U tp c e () hb () (getD_at ()) d<|g k (aO _) ()
 ·rw[aI c2];have:k=0:=()
  subst this;exact Xs C (by rw[c.k];exact hk) U tp c m ha hb hn (getD_at ()) d<|g 0 (aO _) ()
def ab0(C:CF prog w A s o N f kd)(hk:kindOf st=kd)(ab:Ab o N X Y)(tp:Top o X Y)(h1:1<=X.length)(hy0:Y[0]?=some y0)(h0:∀x∈X,P o y0 x)
  {Q:Array Keyed->SortSt->Prop} (q:∀out st',Sm st st'->Res o f X Y out->Q out st'):wpS (model prog w) A E s (BN (fa f X)<|fa f Y) Q st:=by
 rw[Ii];cb_eq;dsimp only;rw[oG,oG];have hY:=(aF.mp hy0).1;refine bf<|kK (nR hy0) ?_;have m0:Mg o X Y [] 0 0:=⟨bL _,bL _,rfl,List.Pairwise.nil,(nofun),(nofun),(nofun)⟩;have m1:Mg o X Y [y0] 0 1:=ab.AY m0 hy0 h0;have e1:(#[f y0]:Array Keyed)=fa f [y0]:=rfl;rw[e1];by_cases c:1=Y.length
 ·rw[aJ<|by rw[<- c];rfl];exact bu (q _ _ Sm.refl<|m1.fin ab λx _ y J=>by rw[drop_nil ()]at J;cases J)
 ·rw[aI<|by simpa using c];by_cases c2:0+1=X.length
  ·rw[aJ<|by rw[<- c2];rfl];exact bu (q _ _ Sm.refl<|yp ab tp m1 c2)
  ·rw[aI<|by simpa using c2];refine bf<|ir ?_;refine bf (eO (cV (I:=λx c st'=>Sm st st'/\∃hs ia ib mg,c=(none,fa f hs,ia,ib,mg)/\On o f X Y (x+1) hs ia ib)
    (Q:=λc st'=>Sm st st'/\∃r z,c=(some r,z)/\Res o f X Y r) ?step ?fin ⟨Sm.refl,_,_,_,_,rfl,m1,(),(),aO _⟩) ?post)
   case post=>
    rintro c st' ⟨W,r,z,rfl,M⟩;exact bu<|q _ _ W M
   case fin=>
    rintro c st' ⟨W,hs,ia,ib,mg,rfl,m,B,p,K⟩;exfalso
    lia
   case step=>
    intro x c st' _ hx G;revert G;revert c;refine un4 λW hs ia ib mg e=>?_;have m:=e.1;have B:=e.2.1;have p:=e.2.2.1;have K:=e.2.2.2;clear e;dsimp only;refine bf (eO (cV (I:=λZ c d=>Sm st d/\∃hs ia ib ac bc,c=(none,fa f hs,ia,ib,ac,bc)/\On o f X Y (x+1+min Z 1) hs ia ib)
     (Q:=λc d=>Sm st d/\((∃r z,c=(some r,z)/\Res o f X Y r)\/∃hs ia ib ac bc,c=(none,fa f hs,ia,ib,ac,bc)/\On o f X Y (x+1+1) hs ia ib)) ?istep ?ifin ⟨W,_,_,_,_,_,rfl,m,B,p,K⟩) ?ipost)
    case ifin=>
     rintro c d ⟨g,hs,ia,ib,ac,bc,rfl,m,B,p,K⟩;exact⟨g,.inr ⟨_,_,_,_,_,rfl,m,B,p,()⟩⟩
    case istep=>
     intro Z c d _ hx' G;revert G;revert c;refine un5 λg hs ia ib ac bc e=>?_;have m:=e.1;have B:=e.2.1;have p:=e.2.2.1;have K:=e.2.2.2;clear e;dsimp only;have J:=getD_at (l:=Y) (i:=ib) p;have F:=getD_at (l:=X) (i:=ia) ();have yB:=aX J;have xA:=aX F;have lt:=ab.lt _ xA _ yB;refine bf<|kK (nR J) ?_;refine bf<|kK (nR F) ?_;refine bf (BA C (by rw[g.k];exact hk) (ab.nb _ yB) (ab.na _ xA) ?_)
     cases hl:o.lt (Y.getD ib 0) (X.getD ia 0)
     ·dsimp[bF,cG];refine bf<|kK (nR F) ?_;have O:=m.zQ ab F<|tH ab.sb J<|P.zM hl lt;rw[yK];by_cases c3:ia+1+1=X.length
      ·rw[aJ<|by rw[c3];exact cg _];exact bu ⟨g,.inl ⟨_,_,rfl,yp ab tp O c3⟩⟩
      ·rw[aI<|by simpa using c3];by_cases U:ac+1>=mg
       ·rw[aJ U];exact bu ⟨g,.inr ⟨_,_,_,_,_,rfl,O,(),p,()⟩⟩
       ·rw[aI U];exact bu ⟨g,_,_,_,_,_,rfl,O,(),p,()⟩
     ·dsimp[dj];refine bf<|kK (nR J) ?_;have O:=ab.AY m J<|tH ab.sa F<|P.of_lt hl;rw[yK];by_cases c3:ib+1=Y.length
      ·rw[aJ<|by rw[c3];exact cg _];exact bu ⟨g,.inl ⟨_,_,rfl,O.fin ab λx _ y J=>by rw[drop_nil ()]at J;cases J⟩⟩
      ·rw[aI<|by simpa using c3];by_cases U:bc+1>=mg
       ·rw[aJ U];exact bu ⟨g,.inr ⟨_,_,_,_,_,rfl,O,B,(),()⟩⟩
       ·rw[aI U];exact bu ⟨g,_,_,_,_,_,rfl,O,B,(),()⟩
    case ipost=>
     intro c d G;revert G;revert c;refine uo5 (λg r z M=>?_) λg hs ia ib ac bc e=>?_
     ·dsimp only;exact bu ⟨g,r,_,rfl,M⟩
     ·have m:=e.1;have B:=e.2.1;have p:=e.2.2.1;have K:=e.2.2.2;clear e;dsimp only;cb_eq;refine bf (eO (cV (I:=λZ c d=>Sm st d/\∃hs ia ib mg ac bc,c=(none,fa f hs,ia,ib,mg,ac,bc)/\On o f X Y (x+1+1) hs ia ib)
       (Q:=λc d=>Sm st d/\((∃r z,c=(some r,z)/\Res o f X Y r)\/∃hs ia ib mg ac bc,c=(none,fa f hs,ia,ib,mg,ac,bc)/\On o f X Y (x+1+1) hs ia ib)) ?jstep ?jfin ⟨g,_,_,_,_,_,_,rfl,m,B,p,K⟩) ?jpost)
      case jfin=>
       rintro c T ⟨j,G⟩;exact⟨j,.inr G⟩
      case jstep=>
       intro Z c T _ hx' G;revert G;revert c;refine un6 λj hs ia ib mg ac bc e=>?_;have m:=e.1;have B:=e.2.1;have p:=e.2.2.1;have K:=e.2.2.2;clear e;dsimp only;have V:=λmg=>abq (n:=x+1+1) (mg:=mg) (ac:=ac) (bc:=bc) (E:=E) C hk ab tp j m B p K;unfold T1 T2 T3 at V;rw[oG,oG]at V;refine eO (Q:=G2 o f X Y (x+1+1) st) ?_ ?_
       ·by_cases c3:mg>1
        ·rw[aJ c3];exact V (mg-1)
        ·rw[aI c3];exact V mg
       ·rintro r st4 ⟨L,M⟩
        cases r with
        | done c=>exact⟨L,M⟩
        | yield c=>exact⟨L,M⟩
      case jpost=>
       intro c T G;revert G;revert c;refine uo6 (λj r z M=>?_) λj hs ia ib mg ac bc e=>?_
       ·dsimp only;exact bu ⟨j,r,_,rfl,M⟩
       ·have m:=e.1;have B:=e.2.1;have p:=e.2.2.1;have K:=e.2.2.2;clear e;dsimp only;refine bf<|yF j λst4 L=>?_;exact bu ⟨L,_,_,_,_,rfl,m,B,p,K⟩
end
def Iq(a b:Array Keyed):A4 a b=(do
 rule "list.sort.merge-hi"
 let all_:=a.size+b.size
 let end1 (acc:Array Keyed) (p q:Nat):=a.extract 0 p++b.extract 0 q++acc.reverse
 let end2 (acc:Array Keyed) (p q:Nat):=b.extract 0 q++a.extract 0 p++acc.reverse
 let mut p:=a.size-1
 let mut q:=b.size
 let mut acc:Array Keyed:=#[<- elem' a p]
 if p == 0 then return end1 acc p q
 if q == 1 then return end2 acc p q
 let mut mg:=gallopOf (<- get)
 for _ in [0:all_] do
  let mut ca:=0
  let mut cb:=0
  for _ in [0:all_] do
   let some won <- lt' (<- elem' b (q-1)) (<- elem' a (p-1))|return end1 acc p q
   if won then
    p:=p-1;acc:=acc.push<|<- elem' a p;ca:=ca+1;cb:=0
    if p == 0 then return end1 acc p q
    if ca>=mg then break
   else
    q:=q-1;acc:=acc.push<|<- elem' b q;cb:=cb+1;ca:=0
    if q == 1 then return end2 acc p q
    if cb>=mg then break
  rule "list.sort.gallop"
  mg:=mg+1
  for _ in [0:all_] do
   if mg>1 then mg:=mg-1
   zO mg
   let some t <- nO false (<- elem' b (q-1)) a 0 p (p-1)|return end1 acc p q
   let k:=p-t
   ca:=k
   if k>0 then
    acc:=acc++(a.extract t p).reverse;p:=t
    if p == 0 then return end1 acc p q
   q:=q-1;acc:=acc.push (<- elem' b q)
   if q == 1 then return end2 acc p q
   let some t <- nO true (<- elem' a (p-1)) b 0 q (q-1)|return end1 acc p q
   let k:=q-t
   cb:=k
   if k>0 then
    acc:=acc++(b.extract t q).reverse;q:=t
    if q == 1 then return end2 acc p q
    if q == 0 then return end1 acc p q
   p:=p-1;acc:=acc.push (<- elem' a p)
   if p == 0 then return end1 acc p q
   if ca<7 && cb<7 then break
  mg:=mg+1
  zO mg
 unsupported "internal:list.sort.merge-bound"):=rfl
section
variable {o:Ord}{N:Nat}{f:Nat->Keyed}{A B ts:am}{na nb:Nat}
def Q6(l:am):(fa f l).reverse=fa f l.reverse:=by
 unfold fa;rw[List.reverse_toArray,jy]
def Ay(l:am)(i:Nat):(fa f l).extract 0 i=fa f (l.take i):=by
 rw[zk,List.drop_zero,sub_zero]
structure Mh (o:Ord)(A B ts:am)(na nb:Nat):Prop where
 la:na<=A.length
 lb:nb<=B.length
 len:ts.length+na+nb=A.length+B.length
 so:ts.Pairwise (P o)
 mem:∀x∈ts,x∈A\/x∈B
 ua:∀y∈A.take na,∀x∈ts,P o y x
 ub:∀y∈B.take nb,∀x∈ts,P o y x
def xY{l:am}{y:Nat}(h:y∈l.take i):∃j,j<i/\l[j]?=some y:=by
 obtain⟨k,c⟩:=gu h;have:=(aF.mp c).1;rw[bI]at this;rw[dN ()]at c;exact⟨k,(),c⟩
def take_one{l:am}{i x:Nat}(h:l[i]?=some x):l.take (i+1)=l.take i++[x]:=by
 obtain⟨h1,e1⟩:=aF.mp h;rw[fB h1,e1]
def Mh.zQ(U:Ab o N A B)(m:Mh o A B ts (na+1) nb){x:Nat}(J:A[na]?=some x)(h:∀y∈B.take nb,P o y x):Mh o A B (x::ts) na nb:=by
 have la:=m.la;have len:=m.len;have g:=take_one J;have f:x∈A.take (na+1):=by rw[g];exact bR _ (aP.mpr rfl)
 refine⟨(),m.lb,by rw[bA];lia,bY.mpr ⟨λy c=>m.ua x f y c,m.so⟩,λz d=>?_,λy c z d=>?_,λy c z d=>?_⟩
 ·rcases bG.mp d with rfl|e
  ·exact .inl (aX J)
  ·exact m.mem z e
 ·rcases bG.mp d with rfl|e
  ·obtain⟨j,p,k⟩:=xY c;exact vB U.sa k J p
  ·exact m.ua y (by rw[g];exact fj _ c) z e
 ·rcases bG.mp d with rfl|e
  ·exact h y c
  ·exact m.ub y c z e
def Mh.Ru(U:Ab o N A B)(m:Mh o A B ts na<|nb+1){x:Nat}(J:B[nb]?=some x)(h:∀y∈A.take na,P o y x):Mh o A B (x::ts) na nb:=by
 have lb:=m.lb;have len:=m.len;have g:=take_one J;have f:x∈B.take (nb+1):=by rw[g];exact bR _ (aP.mpr rfl)
 refine⟨m.la,(),by rw[bA];lia,bY.mpr ⟨λy c=>m.ub x f y c,m.so⟩,λz e=>?_,λy c z e=>?_,λy c z e=>?_⟩
 ·rcases bG.mp e with rfl|d
  ·exact .inr (aX J)
  ·exact m.mem z d
 ·rcases bG.mp e with rfl|d
  ·exact h y c
  ·exact m.ua y c z d
 ·rcases bG.mp e with rfl|d
  ·obtain⟨j,p,k⟩:=xY c;exact vB U.sb k J p
  ·exact m.ub y (by rw[g];exact fj _ c) z d
def tQ{l:am}(h:l.Pairwise<|P o){i x:Nat}(U:l[i]?=some x)(J:P o x y):∀z∈l.take (i+1),P o z y:=λz e=>by
 obtain⟨j,f,d⟩:=xY e;by_cases c:j=i
 ·subst c;rw[U]at d;cases d;exact J
 ·exact(vB h d U ()).trans J
theorem Mh.Bv(U:Ab o N A B){J:Nat}(hy:B[J]?=some y):∀(k:Nat) {ts:am}{at_:Nat},Mh o A B ts (at_+k) (J+1)->(∀i x,at_<=i->i<at_+k->A[i]?=some x->P o y x)->Mh o A B ((A.drop at_).take k++ts) at_ (J+1)
 | 0,ts,at_,m,_=>by rw[fO];exact m
 | k+1,ts,at_,m,h=>by
  have la:=m.la;have c:A[at_+k]?=some (A[at_+k]'()):=aE _;have e:=Mh.zQ U (show Mh o A B ts (at_+k+1) (J+1)from m) c<|tQ U.sb hy<|h _ _ () () c;have d:=Mh.Bv U hy k e λi x h1 h2=>h i x h1 ();rw[take_snoc c,cA];exact d
theorem Mh.B3(U:Ab o N A B){J:Nat}(hy:A[J]?=some y):∀(k:Nat) {ts:am}{at_:Nat},Mh o A B ts (J+1) (at_+k)->(∀i x,at_<=i->i<at_+k->B[i]?=some x->P o y x)->Mh o A B ((B.drop at_).take k++ts) (J+1) at_
 | 0,ts,at_,m,_=>by rw[fO];exact m
 | k+1,ts,at_,m,h=>by
  have lb:=m.lb;have c:B[at_+k]?=some (B[at_+k]'()):=aE _;have e:=Mh.Ru U (show Mh o A B ts (J+1) (at_+k+1)from m) c<|tQ U.sa hy<|h _ _ () () c;have d:=Mh.B3 U hy k e λi x h1 h2=>h i x h1 ();rw[take_snoc c,cA];exact d
def AR{l:am}(h:l.Pairwise<|P o)(i:Nat):(l.take i).Pairwise (P o):=h.sublist<|List.take_sublist ..
def Mh.fin(J:Ab o N A B)(m:Mh o A B ts na nb)(h:∀x∈A.take na,∀y∈B.take nb,P o x y):Res o f A B ((fa f A).extract 0 na++(fa f B).extract 0 nb++fa f ts):=by
 rw[Ay,Ay,rj,rj];have la:=m.la;have lb:=m.lb;have len:=m.len;refine⟨_,rfl,by rw[bg,bg,bI,bI];lia,?_,λx c=>?_⟩
 ·rw[cj,cj];refine⟨⟨AR J.sa _,AR J.sb _,h⟩,m.so,λx c y d=>?_⟩
  rcases br.mp c with z|z
  ·exact m.ua x z y d
  ·exact m.ub x z y d
 ·rcases br.mp c with z|z
  ·rcases br.mp z with z|z
   ·exact .inl (eE z)
   ·exact .inr<|eE z
  ·exact m.mem x z
def Mh.YU(J:Ab o N A B)(m:Mh o A B ts na nb)(h:∀x∈A.take na,∀y∈B.take nb,P o y x):Res o f A B ((fa f B).extract 0 nb++(fa f A).extract 0 na++fa f ts):=by
 rw[Ay,Ay,rj,rj];have la:=m.la;have lb:=m.lb;have len:=m.len;refine⟨_,rfl,by rw[bg,bg,bI,bI];lia,?_,λx c=>?_⟩
 ·rw[cj,cj];refine⟨⟨AR J.sb _,AR J.sa _,λx c y d=>h y d x c⟩,m.so,λx c y d=>?_⟩
  rcases br.mp c with z|z
  ·exact m.ub x z y d
  ·exact m.ua x z y d
 ·rcases br.mp c with z|z
  ·rcases br.mp z with z|z
   ·exact .inr (eE z)
   ·exact .inl<|eE z
  ·exact m.mem x z
abbrev Bot (o:Ord)(X Y:am):Prop:=∀y,Y[0]?=some y->∀x∈X,P o y x
def v9(J:Ab o N A B)(U:Bot o A B)(m:Mh o A B ts na nb)(h:nb=1):Res o f A B ((fa f B).extract 0 nb++(fa f A).extract 0 na++fa f ts):=
 m.YU J λx d y e=>by
  obtain⟨j,g,c⟩:=xY e;have:j=0:=()
  subst this;exact U y c x<|eE d
def Mh.HR(J:Ab o N A B)(m:Mh o A B ts na nb)(h:na=0\/nb=0):Res o f A B ((fa f A).extract 0 na++(fa f B).extract 0 nb++fa f ts):=
 m.fin J λx c y d=>by
  rcases h with rfl|rfl
  ·rw[fO]at c;cases c
  ·rw[fO]at d;cases d
def AM(l:am)(x:Nat):(fa f l.reverse).push (f x)=fa f (x::l).reverse:=by rw[yK,c5]
def T_(l m:am):fa f l.reverse++(fa f m).reverse=fa f (m++l).reverse:=by rw[Q6,rj,iZ]
def xC(l:am):(fa f l.reverse).reverse=fa f l:=by rw[Q6,fF]
end
meta abbrev H:=Option (Array Keyed)×Nat×Nat×Array Keyed×Nat×Nat×Nat
abbrev U3 (a b out:Array Keyed)(na nb mg ac bc:Nat):StateT SortSt Sem (ForInStep H):=do
 let x <- elem' a (na-1)
 if (na-1 == 0)=true then pure (ForInStep.done (some<|a.extract 0 (na-1)++b.extract 0 nb++(out.push x).reverse,na-1,nb,out.push x,mg,ac,bc))
 else if (decide (ac<7) && decide (bc<7))=true then pure (ForInStep.done (none,na-1,nb,out.push x,mg,ac,bc))
 else pure (ForInStep.yield (none,na-1,nb,out.push x,mg,ac,bc))
abbrev U2 (a b out:Array Keyed)(na nb mg ac bc:Nat):StateT SortSt Sem (ForInStep H):=do
 let x <- elem' b (nb-1)
 if (nb-1 == 1)=true then pure (ForInStep.done (some<|b.extract 0 (nb-1)++a.extract 0 na++(out.push x).reverse,na,nb-1,out.push x,mg,ac,bc))
 else
  let y <- elem' a (na-1)
  let r <- nO true y b 0 (nb-1) (nb-1-1)
  match r with
  | some t=>
   if nb-1-t>0 then
    if (t == 1)=true then pure (ForInStep.done (some<|b.extract 0 t++a.extract 0 na++(out.push x++(b.extract t<|nb-1).reverse).reverse,na,t,out.push x++(b.extract t<|nb-1).reverse,mg,ac,nb-1-t))
    else if (t == 0)=true then pure (ForInStep.done (some<|a.extract 0 na++b.extract 0 t++(out.push x++(b.extract t<|nb-1).reverse).reverse,na,t,out.push x++(b.extract t<|nb-1).reverse,mg,ac,nb-1-t))
    else U3 a b (out.push x++(b.extract t<|nb-1).reverse) na t mg ac (nb-1-t)
   else U3 a b (out.push x) na (nb-1) mg ac (nb-1-t)
  | _=>pure<|ForInStep.done (some<|a.extract 0 na++b.extract 0 (nb-1)++(out.push x).reverse,na,nb-1,out.push x,mg,ac,bc)
abbrev U1 (a b out:Array Keyed)(na nb mg ac bc:Nat):StateT SortSt Sem (ForInStep H):=do
 zO mg
 let x <- elem' b (nb-1)
 let r <- nO false x a 0 na (na-1)
 match r with
 | some t=>
  if na-t>0 then
   if (t == 0)=true then pure (ForInStep.done (some<|a.extract 0 t++b.extract 0 nb++(out++(a.extract t na).reverse).reverse,t,nb,out++(a.extract t na).reverse,mg,na-t,bc))
   else U2 a b (out++(a.extract t na).reverse) t nb mg (na-t) bc
  else U2 a b out na nb mg (na-t) bc
 | _=>pure<|ForInStep.done (some<|a.extract 0 na++b.extract 0 nb++out.reverse,na,nb,out,mg,ac,bc)
section
variable {prog:aj}{w:ah}{A:ay}{E:af->az->Prop}{s:az}{o:Ord}{N:Nat}{f:Nat->Keyed}{kd:SortKind}{st st0:SortSt}{X Y ts:am}{na nb:Nat}
abbrev Oh (o:Ord)(X Y:am)(n:Nat)(ts:am)(na nb:Nat):Prop:=Mh o X Y ts na nb/\1<=na/\2<=nb/\na+nb+n<=X.length+Y.length
abbrev H2 (o:Ord)(f:Nat->Keyed)(X Y:am)(n:Nat)(st0:SortSt):ForInStep H->SortSt->Prop:=λr e=>Sm st0 e/\match r with
 | .done c=>(∃r z,c=(some r,z)/\Res o f X Y r)\/∃ts na nb mg d g,c=(none,na,nb,fa f ts.reverse,mg,d,g)/\Oh o X Y n ts na nb
 | .yield c=>∃ts na nb mg d g,c=(none,na,nb,fa f ts.reverse,mg,d,g)/\Oh o X Y n ts na nb
def X0(J:Ab o N X Y)(U:Sm st0 st){n mg x:Nat}(m:Mh o X Y ts (na+1)<|nb+1)(hb:1<=nb)(hn:na+1+(nb+1)+n<=X.length+Y.length)(hx:X[na]?=some x)(hy:Y[nb]?=some y)(hxy:P o y x) :
  wpS (model prog w) A E s (U3 (fa f X) (fa f Y) (fa f ts.reverse) (na+1) (nb+1) mg ac bc) (H2 o f X Y n st0) st:=by
 unfold U3;rw[show na+1-1=na by lia];refine bf<|kK (nR hx) ?_;have m2:=m.zQ J hx<|tQ J.sb hy hxy;rw[AM,xC];by_cases c:na=0
 ·rw[aJ<|by rw[c];rfl];exact bu ⟨U,.inl ⟨_,_,rfl,m2.HR J<|.inl c⟩⟩
 ·rw[aI<|by simpa using c];by_cases c2:(decide (ac<7) && decide (bc<7))=true
  ·rw[aJ c2];exact bu ⟨U,.inr ⟨_,_,_,_,_,_,rfl,m2,(),(),()⟩⟩
  ·rw[aI c2];exact bu ⟨U,⟨_,_,_,_,_,_,rfl,m2,(),(),()⟩⟩
def YA(C:CF prog w A s o N f kd)(hk:kindOf st=kd)(J:Ab o N X Y)(bt:Bot o X Y)(hm:Sm st0 st){n mg x:Nat}(m:Mh o X Y ts (na+1)<|nb+1)(hb:1<=nb)(hn:na+1+(nb+1)+n<=X.length+Y.length)(U:X[na]?=some x)(hy:Y[nb]?=some y)(hxy:P o x y) :
  wpS (model prog w) A E s (U2 (fa f X) (fa f Y) (fa f ts.reverse) (na+1) (nb+1) mg ac bc) (H2 o f X Y n st0) st:=by
 unfold U2;rw[show nb+1-1=nb by lia,show na+1-1=na by lia];refine bf<|kK (nR hy) ?_;have e:=m.Ru J hy<|tQ J.sa U hxy;have lb:=m.lb;rw[AM,xC];by_cases c:nb=1
 ·rw[aJ<|by rw[c];rfl];exact bu ⟨hm,.inl ⟨_,_,rfl,v9 J bt e c⟩⟩
 ·rw[aI<|by simpa using c];refine bf<|kK (nR U) ?_;refine bf (Tj C hk (h:=λi=>Y.getD (0+i) 0) (λi hi=>nR<|getD_at ()) (λi hi=>?_) (MG J.sb _ _ ()) () λt B j k=>?_)
  ·have:=aX<|getD_at (l:=Y) (i:=0+i) ();exact⟨J.lt x (aX U) _ this,J.nb _ this⟩
  ·dsimp only;have m3:=Mh.B3 J U (nb-t) (at_:=t) (by rw[show t+(nb-t)=nb by lia];exact e) λi z d q p=>by
    have:=k i d ();rw[cU,aK (l:=Y),p]at this;exact this
   by_cases c2:nb-t>0
   ·rw[aJ c2,zk Y t nb,T_,xC];by_cases c3:t=1
    ·rw[aJ<|by rw[c3];rfl];exact bu ⟨hm,.inl ⟨_,_,rfl,v9 J bt m3 c3⟩⟩
    ·rw[aI<|by simpa using c3];by_cases g:t=0
     ·rw[aJ<|by rw[g];rfl];exact bu ⟨hm,.inl ⟨_,_,rfl,m3.HR J<|.inr g⟩⟩
     ·rw[aI<|by simpa using g];obtain⟨u,rfl⟩:∃u,t=u+1:=⟨t-1,()⟩;have:=j u ();rw[cU]at this;exact X0 J hm m3 () () U (getD_at ()) this
   ·rw[aI c2];have:t=nb:=()
    subst this;obtain⟨u,rfl⟩:∃u,t=u+1:=⟨t-1,()⟩;have:=j u ();rw[cU]at this;exact X0 J hm e () () U (getD_at ()) this
def abE(C:CF prog w A s o N f kd)(hk:kindOf st0=kd)(U:Ab o N X Y)(bt:Bot o X Y)(hm:Sm st0 st){n mg:Nat}(m:Mh o X Y ts (na+1)<|nb+1)(hb:1<=nb)(hn:na+1+(nb+1)+n<=X.length+Y.length) :
  wpS (model prog w) A E s (U1 (fa f X) (fa f Y) (fa f ts.reverse) (na+1) (nb+1) mg ac bc) (H2 o f X Y n st0) st:=by
 unfold U1;refine bf<|yF hm λF c=>?_;have lb:=m.lb;have la:=m.la;rw[show nb+1-1=nb by lia,show na+1-1=na by lia];have d:=getD_at (l:=Y) (i:=nb) ();have j:=aX d;refine bf<|kK (nR d) ?_;refine bf (Ud C (by rw[c.k];exact hk) (h:=λi=>X.getD (0+i) 0) (λi hi=>nR<|getD_at ()) (λi hi=>U.lt _ (aX<|getD_at (l:=X) (i:=0+i) ()) _ j) (U.nb _ j) (MG U.sa _ _ ()) () λt J p q=>?_);dsimp only;have m3:=Mh.Bv U d (na+1-t) (at_:=t) (by rw[show t+(na+1-t)=na+1 by lia];exact m) λi z e G B=>by
  have:=q i e ();rw[cU,aK (l:=X),B]at this;exact this
 by_cases c2:na+1-t>0
 ·rw[aJ c2,zk X t<|na+1,T_,xC];by_cases g:t=0
  ·rw[aJ<|by rw[g];rfl];exact bu ⟨c,.inl ⟨_,_,rfl,m3.HR U<|.inl g⟩⟩
  ·rw[aI<|by simpa using g];obtain⟨u,rfl⟩:∃u,t=u+1:=⟨t-1,()⟩;have:=p u ();rw[cU]at this;exact YA C (by rw[c.k];exact hk) U bt c m3 hb () (getD_at ()) d this
 ·rw[aI c2];have:t=na+1:=()
  subst this;have:=p na ();rw[cU]at this;exact YA C (by rw[c.k];exact hk) U bt c m hb hn (getD_at ()) d this
def acq(C:CF prog w A s o N f kd)(hk:kindOf st=kd)(ab:Ab o N X Y)(tp:Top o X Y)(bt:Bot o X Y)(h1:1<=X.length)(h2:1<=Y.length)
  {Q:Array Keyed->SortSt->Prop} (q:∀out st',Sm st st'->Res o f X Y out->Q out st'):wpS (model prog w) A E s (A4 (fa f X)<|fa f Y) Q st:=by
 rw[Iq];cb_eq;dsimp only;rw[oG,oG];have O:=getD_at (l:=X) (i:=X.length-1) ();refine bf<|kK (nR O) ?_;have m0:Mh o X Y [] (X.length-1+1) Y.length:=⟨(),aO _,by rw[cX];lia,List.Pairwise.nil,(nofun),(λ_ _ _ h=>nomatch h),(λ_ _ _ h=>nomatch h)⟩;have m1:=m0.zQ ab O λy M=>tp _ _ O () y<|eE M;obtain⟨W,ex0⟩:∃W,W=X.getD (X.length-1) 0:=⟨_,rfl⟩;rw[<- ex0]at m1 ⊢;have e1:(#[f W]:Array Keyed)=fa f [W].reverse:=rfl;rw[e1,xC];by_cases c:X.length-1=0
 ·rw[aJ<|by rw[c];rfl];exact bu (q _ _ Sm.refl<|m1.HR ab<|.inl c)
 ·rw[aI<|by simpa using c];by_cases c2:Y.length=1
  ·rw[aJ<|by rw[c2];rfl];exact bu (q _ _ Sm.refl<|v9 ab bt m1 c2)
  ·rw[aI<|by simpa using c2];refine bf<|ir ?_;refine bf (eO (cV (I:=λx c st'=>Sm st st'/\∃ts na nb mg,c=(none,na,nb,fa f ts.reverse,mg)/\Oh o X Y (x+1) ts na nb)
    (Q:=λc st'=>Sm st st'/\∃r z,c=(some r,z)/\Res o f X Y r) ?step ?fin ⟨Sm.refl,_,_,_,_,rfl,m1,(),(),()⟩) ?post)
   case post=>
    rintro c st' ⟨V,r,z,rfl,L⟩;exact bu<|q _ _ V L
   case fin=>
    rintro c st' ⟨V,ts,na,nb,mg,rfl,m,B,p,J⟩;exfalso
    lia
   case step=>
    intro x c st' _ hx G;revert G;revert c;refine un4 λV ts na nb mg e=>?_;have m:=e.1;have B:=e.2.1;have p:=e.2.2.1;have J:=e.2.2.2;clear e;dsimp only;refine bf (eO (cV (I:=λZ c d=>Sm st d/\∃ts na nb ac bc,c=(none,na,nb,fa f ts.reverse,ac,bc)/\Oh o X Y (x+1+min Z 1) ts na nb)
     (Q:=λc d=>Sm st d/\((∃r z,c=(some r,z)/\Res o f X Y r)\/∃ts na nb ac bc,c=(none,na,nb,fa f ts.reverse,ac,bc)/\Oh o X Y (x+1+1) ts na nb)) ?istep ?ifin ⟨V,_,_,_,_,_,rfl,m,B,p,J⟩) ?ipost)
    case ifin=>
     rintro c d ⟨g,ts,na,nb,ac,bc,rfl,m,B,p,J⟩;exact⟨g,.inr ⟨_,_,_,_,_,rfl,m,B,p,()⟩⟩
    case istep=>
     intro Z c d _ hx' G;revert G;revert c;refine un5 λg ts na nb ac bc e=>?_;have m:=e.1;have B:=e.2.1;have p:=e.2.2.1;have J:=e.2.2.2;clear e;dsimp only;obtain⟨u,rfl⟩:∃u,na=u+1:=⟨na-1,()⟩;obtain⟨v,rfl⟩:∃v,nb=v+1:=⟨nb-1,()⟩;have la:=m.la;have lb:=m.lb;rw[show u+1-1=u by lia,show v+1-1=v by lia];have M:=getD_at (l:=Y) (i:=v) ();have F:=getD_at (l:=X) (i:=u) ();have yB:=aX M;have xA:=aX F;have lt:=ab.lt _ xA _ yB;refine bf<|kK (nR M) ?_;refine bf<|kK (nR F) ?_;refine bf (BA C (by rw[g.k];exact hk) (ab.nb _ yB) (ab.na _ xA) ?_)
     cases hl:o.lt (Y.getD v 0) (X.getD u 0)
     ·dsimp[bF,cG];refine bf<|kK (nR M) ?_;have m2:=m.Ru ab M<|tQ ab.sa F<|P.zM hl lt;rw[AM,xC];by_cases c3:v=1
      ·rw[aJ<|by rw[c3];rfl];exact bu ⟨g,.inl ⟨_,_,rfl,v9 ab bt m2 c3⟩⟩
      ·rw[aI<|by simpa using c3];by_cases U:bc+1>=mg
       ·rw[aJ U];exact bu ⟨g,.inr ⟨_,_,_,_,_,rfl,m2,B,(),()⟩⟩
       ·rw[aI U];exact bu ⟨g,_,_,_,_,_,rfl,m2,B,(),()⟩
     ·dsimp[dj];refine bf<|kK (nR F) ?_;have m2:=m.zQ ab F<|tQ ab.sb M<|P.of_lt hl;rw[AM,xC];by_cases c3:u=0
      ·rw[aJ<|by rw[c3];rfl];exact bu ⟨g,.inl ⟨_,_,rfl,m2.HR ab<|.inl c3⟩⟩
      ·rw[aI<|by simpa using c3];by_cases U:ac+1>=mg
       ·rw[aJ U];exact bu ⟨g,.inr ⟨_,_,_,_,_,rfl,m2,(),p,()⟩⟩
       ·rw[aI U];exact bu ⟨g,_,_,_,_,_,rfl,m2,(),p,()⟩
    case ipost=>
     intro c d G;revert G;revert c;refine uo5 (λg r z L=>?_) λg ts na nb ac bc e=>?_
     ·dsimp only;exact bu ⟨g,r,_,rfl,L⟩
     ·have m:=e.1;have B:=e.2.1;have p:=e.2.2.1;have J:=e.2.2.2;clear e;dsimp only;cb_eq;refine bf (eO (cV (I:=λZ c d=>Sm st d/\∃ts na nb mg ac bc,c=(none,na,nb,fa f ts.reverse,mg,ac,bc)/\Oh o X Y (x+1+1) ts na nb)
       (Q:=λc d=>Sm st d/\((∃r z,c=(some r,z)/\Res o f X Y r)\/∃ts na nb mg ac bc,c=(none,na,nb,fa f ts.reverse,mg,ac,bc)/\Oh o X Y (x+1+1) ts na nb)) ?jstep ?jfin ⟨g,_,_,_,_,_,_,rfl,m,B,p,J⟩) ?jpost)
      case jfin=>
       rintro c T ⟨j,G⟩;exact⟨j,.inr G⟩
      case jstep=>
       intro Z c T _ hx' G;revert G;revert c;refine un6 λj ts na nb mg ac bc e=>?_;have m:=e.1;have B:=e.2.1;have p:=e.2.2.1;have J:=e.2.2.2;clear e;dsimp only;obtain⟨u,rfl⟩:∃u,na=u+1:=⟨na-1,()⟩;obtain⟨v,rfl⟩:∃v,nb=v+1:=⟨nb-1,()⟩;have t1:=λmg=>abE (n:=x+1+1) (mg:=mg) (ac:=ac) (bc:=bc) (E:=E) C hk ab bt j m () J;unfold U1 U2 U3 at t1;refine eO (Q:=H2 o f X Y (x+1+1) st) ?_ ?_
       ·by_cases c3:mg>1
        ·rw[aJ c3];exact t1 (mg-1)
        ·rw[aI c3];exact t1 mg
       ·rintro r st4 ⟨K,L⟩
        cases r with
        | done c=>exact⟨K,L⟩
        | yield c=>exact⟨K,L⟩
      case jpost=>
       intro c T G;revert G;revert c;refine uo6 (λj r z L=>?_) λj ts na nb mg ac bc e=>?_
       ·dsimp only;exact bu ⟨j,r,_,rfl,L⟩
       ·have m:=e.1;have B:=e.2.1;have p:=e.2.2.1;have J:=e.2.2.2;clear e;dsimp only;refine bf<|yF j λst4 K=>?_;exact bu ⟨K,_,_,_,_,rfl,m,B,p,J⟩
end
def JZ(i:Nat):mergeAt' i=(do
 let s <- get
 let(some (a1,n1,pw),some (a2,n2,_)):=((pendingOf s)[i]?,(pendingOf s)[i+1]?)|unsupported "internal:list.sort.pending"
 set (setPending s<|((pendingOf s).setIfInBounds i (a1,n1+n2,pw)).eraseIdxIfInBounds<|i+1)
 let some k <- nO false (<- elem' (arrOf s) a2) (arrOf s) a1 n1 0|return false
 let(a1,n1):=(a1+k,n1-k)
 if n1 == 0 then return true
 let some n2 <- nO true (<- elem' (arrOf s) (a1+n1-1)) (arrOf s) a2 n2 (n2-1)|return false
 if n2 == 0 then return true
 let x:=(arrOf s).extract a1 a2
 let y:=(arrOf s).extract a2 (a2+n2)
 let both <- if n1<=n2 then BN x y else A4 x y
 modify λs=>setArr s (both.toList.zipIdx.foldl (λa (p,j)=>a.setIfInBounds (a1+j) p)<|arrOf s)
 return (failedOf<|<- get).isNone):=rfl
abbrev seg (g:Nat->Nat)(a n:Nat):am:=(List.range n).map λi=>g<|a+i
section
variable {o:Ord}{N:Nat}{f:Nat->Keyed}{g:Nat->Nat}
def qf(g:Nat->Nat)(a n:Nat):(seg g a n).length=n:=by unfold seg;rw[aG,cJ]
def tY{a n i:Nat}(h:i<n):(seg g a n)[i]?=some (g<|a+i):=by unfold seg;rw[aQ,d7 h];rfl
def rW{a n x:Nat}(h:x∈seg g a n):∃i,i<n/\x=g (a+i):=by
 obtain⟨i,hi,rfl⟩:=aW.mp h;exact⟨i,cY.mp hi,rfl⟩
def To{a n:Nat}(h:So o g a<|a+n):(seg g a n).Pairwise (P o):=by
 rw[dG];intro i j hi c d;rw[qf]at hi c;have e1:=tY (g:=g) (a:=a) hi;have e2:=tY (g:=g) (a:=a) c;rw[aE<|by rw[qf];exact hi]at e1;rw[aE<|by rw[qf];exact c]at e2;rw[bz e1,bz e2];exact h _ _ () () ()
def Mu{arr:Array Keyed}(hs:arr.size=N)(hg:∀i,i<N->arr[i]?=some (f<|g i)){a n:Nat}(h:a+n<=N):arr.extract a (a+n)=fa f (seg g a n):=by
 apply Array.ext_getElem?;intro i;rw[Qg,Array.getElem?_extract];by_cases c:i<n
 ·rw[aJ (),tY c,hg _ ()];rfl
 ·rw[aI (),b9<|by rw[qf];lia];rfl
theorem Dp{α:Type}(b:Nat):∀(l:List α) (n:Nat) (arr:Array α),((l.zipIdx n).foldl (λa (p,j)=>a.setIfInBounds (b+j) p) arr).size=arr.size
 | [],_,_=>rfl
 | x::l,n,arr=>by
  rw[jz,cW,Dp b l<|n+1];exact Array.size_setIfInBounds ..
theorem HV{α:Type}(b:Nat):∀(l:List α) (n:Nat) (arr:Array α) (k:Nat),b+n+l.length<=arr.size->((l.zipIdx n).foldl (λa (p,j)=>a.setIfInBounds (b+j) p) arr)[k]?=if b+n<=k/\k<b+n+l.length then l[k-(b+n)]? else arr[k]?
 | [],n,arr,k,h=>by rw[aI<|by rw[cX];lia];rfl
 | x::l,n,arr,k,h=>by
  rw[bA]at h;rw[jz,cW,HV b l (n+1) _ k<|by rw[Array.size_setIfInBounds];lia,bA];by_cases c:k=b+n
  ·subst c;rw[aI (),aJ (),jF];show(arr.setIfInBounds (b+n) x)[b+n]?=some x;rw[Array.getElem?_setIfInBounds_self_of_lt ()]
  ·by_cases c2:b+n<=k/\k<b+n+(l.length+1)
   ·rw[aJ (),aJ c2,show k-(b+n)=k-(b+(n+1))+1 by lia,List.getElem?_cons_succ]
   ·rw[aI (),aI c2]
    skip
    rw[Array.getElem?_setIfInBounds_ne ()]
end
section
variable {prog:aj}{w:ah}{A:ay}{E:af->az->Prop}{s:az}{o:Ord}{N:Nat}{f:Nat->Keyed}{kd:SortKind}{g:Nat->Nat}{st:SortSt}
def Xe{Q:PUnit->SortSt->Prop}(h:Q ⟨⟩ st'):wpS (model prog w) A E s (set st':StateT SortSt Sem PUnit) Q st:=by
 unfold wpS;rw[StateT.run_set];exact aV ⟨rfl,h⟩
def ac5(C:CF prog w A s o N f kd){l1:List<|Nat×Nat×Nat}{sa na nb pw pv:Nat}(h:Sg N f kd g (l1++(sa,na,pw)::(sa+na,nb,pv)::l2).toArray st)(ha:1<=na)(hb:1<=nb)(hN:sa+na+nb<=N)
  (c1:Cl g sa<|sa+na) (s1:So o g sa<|sa+na) (c2:Cl g (sa+na)<|sa+na+nb) (s2:So o g (sa+na)<|sa+na+nb)
  {Q:Bool->SortSt->Prop} (q:∀g' st',Sg N f kd g' (l1++(sa,na+nb,pw)::l2).toArray st'->Rn o g g' sa (sa+na+nb)->Q true st'):wpS (model prog w) A E s (mergeAt' l1.length) Q st:=by
 rw[JZ];refine bf<|ir ?_;have e1:(pendingOf st)[l1.length]?=some (sa,na,pw):=by rw[h.pend];simp
 have e2:(pendingOf st)[l1.length+1]?=some (sa+na,nb,pv):=by rw[h.pend];simp
 have e3:((pendingOf st).setIfInBounds l1.length (sa,na+nb,pw)).eraseIdxIfInBounds (l1.length+1)=(l1++(sa,na+nb,pw)::l2).toArray:=by
  rw[h.pend,List.setIfInBounds_toArray,iB];congr 1;rw[f9 _ _<|aO _,jF,List.eraseIdx_append_of_length_le (),show l1.length+1-l1.length=1 by lia];rfl
 rw[e1,e2];dsimp only;rw[e3];refine bf<|Xe ?_;have h':Sg N f kd g (l1++(sa,na+nb,pw)::l2).toArray (setPending st (l1++(sa,na+nb,pw)::l2).toArray):=⟨h.size,h.get,h.lt,h.kind,h.failed,rfl⟩;obtain⟨G,W⟩:∃G,G=setPending st (l1++(sa,na+nb,pw)::l2).toArray:=⟨_,rfl⟩;rw[<- W]at h' ⊢;refine bf<|kK (h.get (sa+na) ()) ?_;have b0:=c2 (sa+na) () ();refine bf (Ud C h'.kind (h:=λi=>g<|sa+i) (λi hi=>h.get _ ()) (λi hi=>by have:=c1 (sa+i) () ();lia) () (λi j _ a b=>s1 _ _ () () ()) () λk k1 k2 k3=>?_);dsimp only;by_cases cz:na-k=0
 ·rw[aJ<|by rw[cz];rfl];refine bu (q g G h' ⟨λ_ _=>rfl,λi a b=>?_,λi j a b c=>?_⟩)
  ·by_cases d:i<sa+na
   ·have:=c1 i a d;lia
   ·have:=c2 i () b;lia
  ·by_cases d:j<sa+na
   ·exact s1 i j a b d
   ·by_cases M:sa+na<=i
    ·exact s2 i j M b c
    ·have r:=k2 (i-sa) ();rw[show sa+(i-sa)=i by lia]at r;by_cases U:j=sa+na
     ·subst U;exact r
     ·exact r.trans<|s2 _ _ () () c
 ·rw[aI<|by simpa using cz];have P:sa+k+(na-k)-1=sa+na-1:=()
  rw[P];refine bf<|kK (h.get (sa+na-1) ()) ?_;have a0:=c1 (sa+na-1) () ();refine bf (Tj C h'.kind (h:=λi=>g<|sa+na+i) (λi hi=>h.get _ ()) (λi hi=>by have:=c2 (sa+na+i) () ();lia) (λi j _ a b=>s2 _ _ () () ()) () λt t1 t2 t3=>?_);dsimp only;by_cases cy:t=0
  ·rw[aJ<|by rw[cy];rfl];subst cy;refine bu (q g G h' ⟨λ_ _=>rfl,λi a b=>?_,λi j a b c=>?_⟩)
   ·by_cases d:i<sa+na
    ·have:=c1 i a d;lia
    ·have:=c2 i () b;lia
   ·by_cases d:j<sa+na
    ·exact s1 i j a b d
    ·by_cases M:sa+na<=i
     ·exact s2 i j M b c
     ·have r:=t3 (j-(sa+na)) () ();rw[show sa+na+(j-(sa+na))=j by lia]at r;by_cases U:i=sa+na-1
      ·subst U;exact r
      ·exact(s1 i (sa+na-1) a () ()).trans r
  ·rw[aI<|by simpa using cy];have x1:(arrOf st).extract (sa+k) (sa+na)=fa f (seg g (sa+k)<|na-k):=by
    have:=Mu (f:=f) (g:=g) h.size h.get (a:=sa+k) (n:=na-k) ()
    rwa [show sa+k+(na-k)=sa+na by lia]at this
   have x2:(arrOf st).extract (sa+na) (sa+na+t)=fa f (seg g (sa+na) t):=Mu h.size h.get ();rw[x1,x2];have sx:So o g (sa+k) (sa+k+(na-k)):=λi j a b c=>s1 i j () b ();have sy:So o g (sa+na) (sa+na+t):=λi j a b c=>s2 i j a b ();have ab:Ab o N (seg g (sa+k)<|na-k) (seg g (sa+na) t):={
    sa:=To sx
    sb:=To sy
    lt:=λx V y J=>by
     obtain⟨i,hi,rfl⟩:=rW V;obtain⟨j,O,rfl⟩:=rW J;have:=c1 (sa+k+i) () ();have:=c2 (sa+na+j) () ()
     lia
    nb:=λy J=>by
     obtain⟨j,O,rfl⟩:=rW J;exact h.lt _ ()
    na:=λy J=>by
     obtain⟨j,O,rfl⟩:=rW J;exact h.lt _ ()}
   have tp:Top o (seg g (sa+k)<|na-k) (seg g (sa+na) t):=λi x V hi y J=>by
    rw[qf]at hi;rw[tY ()]at V
    cases V
    obtain⟨j,O,rfl⟩:=rW J;rw[show sa+k+i=sa+na-1 by lia];exact t2 j O
   have bt:Bot o (seg g (sa+k)<|na-k) (seg g (sa+na) t):=λy J x V=>by
    rw[tY ()]at J
    cases J
    obtain⟨i,hi,rfl⟩:=rW V;have:=k3 (k+i) () ()
    rwa [<- gH]at this
   have fin:∀out B,Sm G B->Res o f (seg g (sa+k)<|na-k) (seg g (sa+na) t) out->wpS (model prog w) A E s (do
     modify λs=>setArr s (out.toList.zipIdx.foldl (λa (p,j)=>a.setIfInBounds (sa+k+j) p)<|arrOf s)
     let s <- get
     pure (failedOf s).isNone) Q B:=by
    rintro out B T ⟨hs,rfl,F,Z,Y⟩;rw[qf,qf]at F;refine bf<|fY<|bf<|ir ?_;have hf:(failedOf B)=none:=by rw[T.f];exact h'.failed
    have K:∀j x,hs[j]?=some x->(∃i,i<na-k/\x=g (sa+k+i))\/∃i,i<t/\x=g (sa+na+i):=λj x e=>by
     rcases Y x (aX e)with z|z
     ·exact .inl (rW z)
     ·exact .inr<|rW z
    have ez:(fa f hs).toList=hs.map f:=by unfold fa;rfl
    have hsz:sa+k+0+(hs.map f).length<=(arrOf B).size:=by rw[aG,F,T.a,h'.size];lia
    refine bu ?_
    skip
    rw[hf];refine q (λi=>if sa+k<=i/\i<sa+k+(na-k+t)then hs.getD (i-(sa+k)) 0 else g i) _ ⟨?_,λi hi=>?_,λi hi=>?_,by rw[show kindOf (setArr B _)=kindOf B from rfl,T.k];exact h'.kind,hf,by rw[show pendingOf (setArr B _)=pendingOf B from rfl,T.p];exact h'.pend⟩ ?_
    ·have:=Dp (sa+k) (fa f hs).toList 0<|arrOf B;rw[T.a,h'.size]at this;rw[<- this,<- T.a]
    ·skip
     rw[ez,HV _ _ _ _ _ hsz,aG,F,T.a];by_cases d:sa+k<=i/\i<sa+k+(na-k+t)
     ·rw[aJ (),aJ d,aQ,Nat.add_zero,getD_at (l:=hs) ()];rfl
     ·rw[aI (),aI d];exact h'.get i hi
    ·by_cases d:sa+k<=i/\i<sa+k+(na-k+t)
     ·rw[aJ d]
      rcases K _ _ (getD_at (l:=hs) (i:=i-(sa+k)) ())with⟨j,O,e⟩|⟨j,O,e⟩
      ·rw[e];exact h.lt _ ()
      ·rw[e];exact h.lt _ ()
     ·rw[aI d];exact h.lt i hi
    ·have L:∀i,sa+k<=i->i<sa+na+t->(if sa+k<=i/\i<sa+k+(na-k+t)then hs.getD (i-(sa+k)) 0 else g i)=hs.getD (i-(sa+k)) 0:=λi a b=>aJ ();have m:∀i,i<sa+k\/sa+na+t<=i->(if sa+k<=i/\i<sa+k+(na-k+t)then hs.getD (i-(sa+k)) 0 else g i)=g i:=λi a=>aI ();refine⟨λi hi=>m i (),λi a b=>?_,λi j a b c=>?_⟩
     ·by_cases d:sa+k<=i/\i<sa+na+t
      ·skip
       rw[L i d.1 d.2]
       rcases K _ _ (getD_at (l:=hs) (i:=i-(sa+k)) ())with⟨j,O,e⟩|⟨j,O,e⟩
       ·rw[e];have:=c1 (sa+k+j) () ();lia
       ·rw[e];have:=c2 (sa+na+j) () ();lia
      ·skip
       rw[m i ()];by_cases M:i<sa+na
       ·have:=c1 i a M;lia
       ·have:=c2 i () b;lia
     ·skip
      by_cases d1:i<sa+k
      ·rw[m i<|.inl d1];have r:=k2 (i-sa) ();rw[show sa+(i-sa)=i by lia]at r;by_cases M:j<sa+k
       ·rw[m j<|.inl M];exact s1 i j a b ()
       ·by_cases U:j<sa+na+t
        ·rw[L j () U]
         rcases K _ _ (getD_at (l:=hs) (i:=j-(sa+k)) ())with⟨v,hv,e⟩|⟨v,hv,e⟩
         ·rw[e];exact s1 _ _ a () ()
         ·rw[e];by_cases d4:v=0
          ·subst d4;exact r
          ·exact r.trans<|s2 _ _ () () ()
        ·rw[m j ()];exact r.trans<|s2 _ _ () () c
      ·by_cases M:i<sa+na+t
       ·rw[L i () M];by_cases U:j<sa+na+t
        ·rw[L j () U];exact vB Z (getD_at ()) (getD_at ()) ()
        ·rw[m j ()]
         rcases K _ _ (getD_at (l:=hs) (i:=i-(sa+k)) ())with⟨v,hv,e⟩|⟨v,hv,e⟩
         ·rw[e];have r:=t3 (j-(sa+na)) () ();rw[show sa+na+(j-(sa+na))=j by lia]at r;by_cases d4:sa+k+v=sa+na-1
          ·rw[d4];exact r
          ·exact(s1 _ (sa+na-1) () () ()).trans r
         ·rw[e];exact s2 _ _ () () c
       ·rw[m i (),m j ()];exact s2 i j () b c
   by_cases cl:na-k<=t
   ·rw[aJ cl];exact bf (ab0 C h'.kind ab tp (by rw[qf];lia) (tY ()) (bt _<|tY ()) fin)
   ·rw[aI cl];exact bf<|acq C h'.kind ab tp bt (by rw[qf];lia) (by rw[qf];lia) fin
end
meta abbrev pr (x:Nat×Nat×Nat):Nat×Nat:=(x.1,x.2.1)
abbrev tU (o:Ord)(g:Nat->Nat):List (Nat×Nat)->Nat->Nat->Prop
 | [],a,b=>a=b
 | x::l,a,b=>x.1=a/\1<=x.2/\Cl g a (a+x.2)/\So o g a (a+x.2)/\tU o g l (a+x.2) b
abbrev PA (o:Ord)(g:Nat->Nat)(p:Array<|Nat×Nat×Nat)(b:Nat):Prop:=tU o g (p.toList.map pr) 0 b
section
variable {o:Ord}{g:Nat->Nat}
def tU.le:∀{l:List<|Nat×Nat}{a b:Nat},tU o g l a b->a+l.length<=b
 | [],a,b,h=>by have h:a=b:=h;rw[cX];lia
 | x::l,a,b,h=>by
  have:=h.2.2.2.2.le;have:=h.2.1;rw[bA];lia
def tU.congr{g':Nat->Nat}:∀{l:List<|Nat×Nat}{a b:Nat},tU o g l a b->(∀i,a<=i->i<b->g' i=g i)->tU o g' l a b
 | [],a,b,h,_=>h
 | x::l,a,b,h,e=>by
  have c:=h.2.2.2.2.le;refine⟨h.1,h.2.1,λi h1 h2=>?_,λi j h1 h2 h3=>?_,h.2.2.2.2.congr λi h1 h2=>e i () h2⟩
  ·rw[e i h1 ()];exact h.2.2.1 i h1 h2
  ·rw[e i h1 (),e j () ()];exact h.2.2.2.1 i j h1 h2 h3
theorem tU.app:∀{l m:List<|Nat×Nat}{a b:Nat},tU o g (l++m) a b ↔ ∃c,tU o g l a c/\tU o g m c b
 | [],m,a,b=>⟨λh=>⟨a,rfl,h⟩,λ⟨c,h1,h2⟩=>by have h1:a=c:=h1;subst h1;exact h2⟩
 | x::l,m,a,b=>by
  constructor
  ·rintro⟨h1,h2,h3,d,f⟩;obtain⟨c,e,j⟩:=tU.app.mp f;exact⟨c,⟨h1,h2,h3,d,e⟩,j⟩
  ·rintro⟨c,⟨h1,h2,h3,d,f⟩,e⟩;exact⟨h1,h2,h3,d,tU.app.mpr ⟨c,f,e⟩⟩
def YR{p:Array<|Nat×Nat×Nat}(h:i+1<p.size):∃l1 x y l2,p=(l1++x::y::l2).toArray/\l1.length=i:=by
 have h':i+1<p.toList.length:=h;refine⟨p.toList.take i,p.toList[i],p.toList[i+1],p.toList.drop<|i+2,?_,by rw[bI];lia⟩;apply Array.toList_inj.mp
 skip
 conv=>lhs;rw[<- iD i p.toList,dH<|show i<p.toList.length by lia,dH h']
end
section
variable {prog:aj}{w:ah}{A:ay}{E:af->az->Prop}{s:az}{o:Ord}{N:Nat}{f:Nat->Keyed}{kd:SortKind}{g:Nat->Nat}{p:Array (Nat×Nat×Nat)}{st:SortSt}
def Jr(C:CF prog w A s o N f kd)(h:Sg N f kd g p st){lo:Nat}(U:PA o g p lo)(hlo:lo<=N)(hi:i+1<p.size)
  {Q:Bool->SortSt->Prop} (q:∀g' p' st',Sg N f kd g' p' st'->PA o g' p' lo->p'.size+1=p.size->(∀k,lo<=k->g' k=g k)->Q true st'):wpS (model prog w) A E s (mergeAt' i) Q st:=by
 obtain⟨B,⟨d,na,m⟩,⟨M,nb,pv⟩,j,rfl,rfl⟩:=YR hi;unfold PA at U;rw[show(B++(d,na,m)::(M,nb,pv)::j).toArray.toList=B++(d,na,m)::(M,nb,pv)::j from rfl,bQ]at U;obtain⟨c,h1,h2⟩:=tU.app.mp U;obtain⟨e1,K,G,J,e2,O,L,F,rest⟩:=h2;have e1:d=c:=e1;subst e1;have e2:M=d+na:=e2;subst e2;have e:=rest.le;have K:1<=na:=K;have O:1<=nb:=O;have e:d+na+nb<=lo:=by
  have:d+na+nb+(List.map pr j).length<=lo:=e
  lia
 refine ac5 C h K O () G J L F λg' st' h' R=>q g' _ st' h' ?_ (by simp;lia) λk P=>R.out k ();unfold PA;rw[show(B++(d,na+nb,m)::j).toArray.toList=B++(d,na+nb,m)::j from rfl,bQ];refine tU.app.mpr ⟨d,h1.congr λi a b=>R.out i (),rfl,by show 1<=na+nb;lia,?_,?_,?_⟩
 ·show Cl g' d (d+(na+nb));rw[<- gH];exact R.cl
 ·show So o g' d (d+(na+nb));rw[<- gH];exact R.so
 ·skip
  rw[<- gH];exact rest.congr λi a b=>R.out i<|.inr a
def C4{p:Array<|Nat×Nat×Nat}{lo:Nat}{u:Nat×Nat×Nat->Nat×Nat×Nat}(J:∀x,pr (u x)=pr x)(h:PA o g p lo):PA o g (p.modify i u) lo:=by
 unfold PA at h ⊢;have:(p.modify i u).toList.map pr=p.toList.map pr:=by
  rw[Array.toList_modify];apply dm;intro k;rw[aQ,aQ,List.getElem?_modify]
  cases p.toList[k]? with
  | none=>rfl
  | some x=>
   show some (pr<|if i=k then u x else x)=some (pr x);by_cases c:i=k
   ·rw[aJ c,J x]
   ·rw[aI c]
 rw[this];exact h
def AU{p:Array<|Nat×Nat×Nat}{lo n v:Nat}(h:PA o g p lo)(hn:1<=n)(c:Cl g lo<|lo+n)(d:So o g lo<|lo+n):PA o g (p.push (lo,n,v)) (lo+n):=by
 unfold PA at h ⊢;rw[Array.toList_push,bQ];exact tU.app.mpr ⟨lo,h,rfl,hn,c,d,rfl⟩
def Wt(C:CF prog w A s o N f kd)(h:Sg N f kd (λi=>i) #[] st)(hN:1<=N)
  {Q:Unit->SortSt->Prop} (q:∀g' p' st',Sg N f kd g' p' st'->Cl g' 0 N->So o g' 0 N->Q Unit.unit st'):wpS (model prog w) A E s sortRuns' Q st:=by
 rw[sortRuns'_eq];refine bf<|ir ?_;dsimp only;rw[h.size];refine bf (eO (cV
  (I:=λx c st'=>∃lo g p,c=(none,lo)/\lo<=N/\(x<=lo\/lo=N)/\Sg N f kd g p st'/\PA o g p lo/\(∀i,lo<=i->g i=i))
  (Q:=λc st'=>∃g p,c=(none,N)/\Sg N f kd g p st'/\PA o g p N) ?step ?fin ⟨0,_,_,rfl,bL _,.inl<|aO _,h,rfl,λ_ _=>rfl⟩) ?post)
 case fin=>
  rintro c st' ⟨lo,g,p,rfl,h1,h2,h3,Y,K⟩;have:lo=N:=()
  subst this;exact⟨g,p,rfl,h3,Y⟩
 case step=>
  intro x c st' _ hx J;revert J;revert c;refine un3 λlo g p J=>?_;have h1:=J.1;have h2:=J.2.1;have h3:=J.2.2.1;have Y:=J.2.2.2.1;have K:=J.2.2.2.2;clear J;dsimp only;by_cases U:lo>=N
  ·rw[aJ U];have:lo=N:=()
   subst this;exact bu ⟨g,p,rfl,h3,Y⟩
  ·rw[aI U];refine bf<|QC C h3 () () (λi a b=>K i a) λm g1 st1 s1 m1 m2 R1=>?_;dsimp only;by_cases c2:m<minRun' N N 0
   ·rw[aJ c2];cb_eq;refine bf<|Zs C s1 () m1 () R1 (λi a b=>K i ()) λL st2 G R2=>?_;rw[aI ⋯];have W:1<=min (N-lo) (minRun' N N 0):=()
    have M:lo+min (N-lo) (minRun' N N 0)<=N:=()
    refine bf<|ir ?_;rw[G.pend];have F:=tU.congr Y λi a b=>R2.out i (.inl b)
    cases e:p.back? with
    | none=>
     dsimp only;refine bf (fY<|bu ⟨_,_,_,rfl,M,(),G.pen _,?_,λi hi=>by rw[R2.out i<|.inr hi,K i ()]⟩);rw[G.pend];exact AU F W R2.cl R2.so
    | some y=>
     obtain⟨y1,y2,y3⟩:=y;dsimp only;refine bf (eO (cV (I:=λ_ c st'=>c=(none,Unit.unit)/\∃g' p',Sg N f kd g' p' st'/\PA o g' p' lo/\(∀k,lo<=k->g' k=L k)) (Q:=λc st'=>c=(none,Unit.unit)/\∃g' p',Sg N f kd g' p' st'/\PA o g' p' lo/\(∀k,lo<=k->g' k=L k)) ?vstep (λ_ _ h=>h) ⟨rfl,_,_,G,F,λ_ _=>rfl⟩) ?vpost)
     case vstep=>
      rintro x c st' _ hx ⟨rfl,g',p',h1,h2,h3⟩;refine bf<|ir ?_;rw[h1.pend];by_cases c:p'.size>1
      ·rw[aJ c]
       cases e:p'[p'.size-2]? with
       | none=>exact bu ⟨rfl,g',p',h1,h2,h3⟩
       | some y=>
        obtain⟨y1,y2,y3⟩:=y;dsimp only;split
        ·exact bu ⟨rfl,g',p',h1,h2,h3⟩
        ·refine bf<|Jr C h1 h2 () () λg3 p3 T V O _ Z=>?_;exact bu ⟨rfl,g3,p3,V,O,λk P=>by rw[Z k P,h3 k P]⟩
      ·rw[aI c];exact bu ⟨rfl,g',p',h1,h2,h3⟩
     case vpost=>
      rintro c st' ⟨rfl,g',p',h1,h2,h3⟩;dsimp only;refine bf (fY<|bf<|fY<|bu ⟨_,_,_,rfl,M,(),(h1.pen _).pen _,?_,λi hi=>by rw[h3 i (),R2.out i<|.inr hi,K i ()]⟩)
      skip
      rw[h1.pend];exact AU (C4 (λ_=>rfl) h2) W (λi a b=>by rw[h3 i a];exact R2.cl i a b) λi j a b c=>by rw[h3 i a,h3 j ()];exact R2.so i j a b c
   ·rw[aI c2];have M:lo+m<=N:=()
    obtain⟨L,hg2⟩:∃L,L=g1:=⟨_,rfl⟩;rw[<- hg2]at R1 s1;have R2:=R1;have G:=s1;have W:=m1;refine bf<|ir ?_;rw[G.pend];have F:=tU.congr Y λi a b=>R2.out i (.inl b)
    cases e:p.back? with
    | none=>
     dsimp only;refine bf (fY<|bu ⟨_,_,_,rfl,M,(),G.pen _,?_,λi hi=>by rw[R2.out i<|.inr hi,K i ()]⟩);rw[G.pend];exact AU F W R2.cl R2.so
    | some y=>
     obtain⟨y1,y2,y3⟩:=y;dsimp only;refine bf (eO (cV (I:=λ_ c st'=>c=(none,Unit.unit)/\∃g' p',Sg N f kd g' p' st'/\PA o g' p' lo/\(∀k,lo<=k->g' k=L k)) (Q:=λc st'=>c=(none,Unit.unit)/\∃g' p',Sg N f kd g' p' st'/\PA o g' p' lo/\(∀k,lo<=k->g' k=L k)) ?vstep (λ_ _ h=>h) ⟨rfl,_,_,G,F,λ_ _=>rfl⟩) ?vpost)
     case vstep=>
      rintro x c st' _ hx ⟨rfl,g',p',h1,h2,h3⟩;refine bf<|ir ?_;rw[h1.pend];by_cases c:p'.size>1
      ·rw[aJ c]
       cases e:p'[p'.size-2]? with
       | none=>exact bu ⟨rfl,g',p',h1,h2,h3⟩
       | some y=>
        obtain⟨y1,y2,y3⟩:=y;dsimp only;split
        ·exact bu ⟨rfl,g',p',h1,h2,h3⟩
        ·refine bf<|Jr C h1 h2 () () λg3 p3 T V O _ Z=>?_;exact bu ⟨rfl,g3,p3,V,O,λk P=>by rw[Z k P,h3 k P]⟩
      ·rw[aI c];exact bu ⟨rfl,g',p',h1,h2,h3⟩
     case vpost=>
      rintro c st' ⟨rfl,g',p',h1,h2,h3⟩;dsimp only;refine bf (fY<|bf<|fY<|bu ⟨_,_,_,rfl,M,(),(h1.pen _).pen _,?_,λi hi=>by rw[h3 i (),R2.out i<|.inr hi,K i ()]⟩)
      skip
      rw[h1.pend];exact AU (C4 (λ_=>rfl) h2) W (λi a b=>by rw[h3 i a];exact R2.cl i a b) λi j a b c=>by rw[h3 i a,h3 j ()];exact R2.so i j a b c
 case post=>
  rintro c st' ⟨g,p,rfl,h1,h2⟩;dsimp only;refine bf (eO (cV
   (I:=λx c B=>c=(none,Unit.unit)/\∃g p,Sg N f kd g p B/\PA o g p N/\(p.size<=1\/p.size+x<=N))
   (Q:=λc B=>c=(none,Unit.unit)/\∃g p,Sg N f kd g p B/\PA o g p N/\p.size<=1) ?fstep ?ffin ⟨rfl,g,p,h1,h2,.inr ?finit⟩) ?fpost)
  case finit=>
   have:=tU.le h2;rw[aG]at this;show p.toList.length+0<=N
   lia
  case ffin=>
   rintro c B ⟨rfl,g,p,h1,h2,h3⟩;exact⟨rfl,g,p,h1,h2,()⟩
  case fstep=>
   rintro x c B _ hx ⟨rfl,g,p,h1,h2,h3⟩;refine bf<|ir ?_;rw[h1.pend];by_cases c:p.size<=1
   ·rw[aJ c];exact bu ⟨rfl,g,p,h1,h2,c⟩
   ·rw[aI c];have il:∀(d:Prop) [Decidable d],(if d then p.size-2-1 else p.size-2)+1<p.size:=λd _=>by
     by_cases hd:d
     ·rw[aJ hd];lia
     ·rw[aI hd];lia
    refine bf<|Jr C h1 h2 (aO _) (il _) λg' p' T V O Z _=>?_;exact bu ⟨rfl,g',p',V,O,()⟩
  case fpost=>
   rintro c B ⟨rfl,g,p,h1,h2,h3⟩;dsimp only;refine bu ?_;unfold PA at h2;have h3:p.toList.length<=1:=h3
   match hl:p.toList,h3 with
   | [],_=>
    rw[hl]at h2;have:0=N:=h2
    lia
   | [x],_=>
    rw[hl]at h2;obtain⟨e1,e2,e3,e4,e5⟩:=h2;have e5:0+x.2.1=N:=e5;have e3:Cl g 0 (0+x.2.1):=e3;have e4:So o g 0 (0+x.2.1):=e4;rw[e5]at e3 e4;exact q g p B h1 e3 e4
end
def J3(N:Nat):RO N:=λh2=>λC h q=>Wt C h () q
meta abbrev Om (h:aq)(a:ak)(vs:ax):aq:=((h.update a<|Obj.mapSeq λ_=>#[]).push<|seqObj "tuple" vs.toArray 0).push<|seqObj "list" #[] 0
def WA{h:aq}{a b:ak}(U:b≠a)(J:b<h.objs.size):(Om h a vs).get? b=h.get? b:=by
 rw[iy _ _ _<|by rw[size_push',iJ];exact bw<|fu J,
  iy _ _ _ (by rw[iJ];exact bw J),Heap.get?_update_ne _ _ _ _ U]
meta abbrev vv (vs:ax)(i:Nat):Keyed:=(vs.getD i .none,vs.getD i .none)
def zip_get(vs:ax){i:Nat}(h:i<vs.length):(vs.toArray.zip vs.toArray)[i]?=some (vv vs i):=by
 have e:vs[i]?=some (vs.getD i .none):=by rw[aK,aE h];rfl
 rw[Array.getElem?_zip_eq_some];exact⟨by rw[d_];exact e,by rw[d_];exact e⟩
section
variable {prog:aj}{w:ah}{A:ay}{E:af->az->Prop}{s:az}{o:Ord}{kd:SortKind}
def CK{a:ak}{vs:ax}{n:Nat}{P:PySem.Fin->az->Prop}(hL:s.heap.get? a=some (seqObj "list" vs.toArray n))(hsz:vs.length<=sizeLine)(ro:RO vs.length)
  (hkk:2<=vs.length->∀Q:SortKind->az->Prop,Q kd { s with heap:=Om s.heap a vs }->wpAny (model prog w) A (keyKind' vs.toArray) Q E { s with heap:=Om s.heap a vs })
  (C:2<=vs.length->CF prog w A { s with heap:=Om s.heap a vs } o vs.length (vv vs) kd)
  (h:∀g,Cl g 0 vs.length->So o g 0 vs.length->P (.done<|.ret .none) { s with heap:=sortedHeap s.heap a vs ((List.range vs.length).map λi=>vs.getD (g i) .none).toArray }) :
  wpAny (model prog w) A (Builtin.«list.sort» ⟨[.ref a],[]⟩) P E s:=by
 rw[list_sort_plain];have B:a<s.heap.objs.size:=bh hL;refine aH<|listItems_at hL rfl ?_;refine aH (listUpdate_at hL rfl ?_ (by rw[aZ];exact hsz)<|bL _);obtain⟨ep,F⟩:∃ep,(s.heap.update a<|Obj.mapSeq λ_=>#[]).get? a=some (seqObj "list" #[] ep):=⟨_,get?_update_seq hL λ_=>#[]⟩;refine aH<|seqEpoch_at F rfl ?_;refine aH<|wpAny_newTuple ?_;refine aH<|jv ?_;refine dc ?_;have m:(Om s.heap a vs).get? a=some (seqObj "list" #[] ep):=by
  rw[iy _ _ _<|by rw[size_push',iJ];exact bw<|fu B,iy _ _ _<|by rw[iJ];exact bw B];exact F
 skip
 dsimp only;have K:vs.toArray.size=vs.length:=by simp
 have L:∀i,i<vs.length->vs[i]?=some (vs.getD i .none):=λi hi=>by rw[aK,aE hi];rfl
 have xm:∀(arr:Array Keyed) (g:Nat->Nat),arr.size=vs.length->(∀i,i<vs.length->arr[i]?=some (vv vs<|g i))->arr.map (·.2)=((List.range vs.length).map λi=>vs.getD (g i) .none).toArray:=λarr g h1 d=>by
  apply Array.ext_getElem?;intro i;have e0:((List.range vs.length).map λi=>vs.getD (g i) Value.none).toArray[i]?=((List.range vs.length).map λi=>vs.getD (g i) Value.none)[i]?:=d_ ..;rw[Array.getElem?_map,e0,aQ];by_cases c:i<vs.length
  ·rw[d i c,d7 c];rfl
  ·rw[iz (),b9<|by rw[cJ];lia];rfl
 by_cases d:vs.toArray.size<2
 ·rw[aJ d,aJ d];refine aH<|aV ?_;rw[StateT.run_pure];refine aH<|aV ?_;dsimp only;refine aH<|seqEpoch_at m rfl ?_;have J:=xm (vs.toArray.zip vs.toArray) (λi=>i) (by rw[jK,K];lia) λi hi=>zip_get vs hi;refine aH (listUpdate_at m rfl ?_ (by simp) (hsz2:=by rw[size_map];show(vs.toArray.zip vs.toArray).size<=_;rw[jK,K];lia));dsimp[bne_self_eq_false,bF,cG];refine aV ?_;have:=h (λi=>i) (λi a b=>⟨a,b⟩) λi j a b c=>();rw[<- J]at this;exact this
 ·rw[aI d,aI d];have q:2<=vs.length:=()
  refine aH<|hkk q _ ?_;refine aH (gM (ro q (f:=vv vs) (st:=SortSt.mk' kd (vs.toArray.zip vs.toArray) #[] 7 none)
   (Q:=λ_ k=>∃g p,Sg vs.length (vv vs) kd g p k/\Cl g 0 vs.length/\So o g 0 vs.length)
   (C q) ⟨by show(vs.toArray.zip vs.toArray).size=_;rw[jK,K];lia,λi hi=>zip_get vs hi,λi hi=>hi,rfl,rfl,rfl⟩ λT V k U M O=>⟨T,V,U,M,O⟩) ?_ λ_ _ e=>e)
  rintro⟨⟨⟩,k⟩ s' ⟨rfl,g,p,hS,hc,G⟩;dsimp only;refine aH<|seqEpoch_at m rfl ?_;have J:=xm (arrOf k) g hS.size hS.get;refine aH (listUpdate_at m rfl ?_ (by simp) (hsz2:=by have N:(arrOf k).size=vs.length:=hS.size;show((arrOf k).map (·.2)).size<=_;rw[size_map,N];lia));rw[hS.failed];dsimp[bne_self_eq_false,bF,cG];have:=h g hc G;rw[<- J]at this;exact aV this
end
section
variable {prog:aj}{w:ah}{A:ay}{E:af->az->Prop}{s:az}
def N2(b:Bool)(x y:af):keyLt' (tuples' b) x y=(do
  let us <- Builtin.List.listItems x
  let vs <- Builtin.List.listItems y
  for ((u,v),k)in (us.toList.zip vs.toList).zipIdx do
   if !(<- eqBool u v)then return <- oneLt' (b && k == 0) u v
  return us.size<vs.size):=rfl
def M1(b:Bool){x y:Int}{t:Tok}{Q:Bool->az->Prop}(h:Q (decide<|x<y) s):wpAny (model prog w) A (oneLt' b (.int x t)<|.int y u) Q E s:=by
 cases b with
 | true=>exact oneLt_int h
 | false=>
  rw[oneLt'_eq];dsimp[bF,cG];exact aH<|PySem.P.lt_int<|eK h
def JG(b:Bool){l k:ak}{xs ys:ax}{ns:ag}{Q:Bool->az->Prop}(U:IsTup s.heap l xs.toArray)(hk:IsTup s.heap k ys.toArray)(hi:IntsAre xs ns)(hj:IntsAre ys ms)(h:Q (HT.lexLt ns ms) s) :
  wpAny (model prog w) A (keyLt' (tuples' b) (.ref l)<|.ref k) Q E s:=by
 rw[N2];obtain⟨N,j,_,L,m⟩:=U;obtain⟨K,f,_,M,g⟩:=hk;refine aH<|listItems_at j m ?_;refine aH<|listItems_at f g ?_;have C:∀(xs ys:ax) (ns ms:ag) (n:Nat),IntsAre xs ns->IntsAre ys ms->∀Q':bj×Unit->az->Prop,(∀r,(r=some (HT.lexLt ns ms)\/(r=none/\HT.lexLt ns ms=decide (xs.length<ys.length)))->Q' (r,Unit.unit) s) ->
   wpAny (model prog w) A (forIn ((xs.zip ys).zipIdx n) ((none,Unit.unit):bj×Unit) λx c=>match x with
      | ((p,q),i)=>do
       let e <- eqBool p q
       if (!e)=true then do
         let r <- oneLt' (b && i == 0) p q
         pure (ForInStep.done (some r,Unit.unit))
        else pure (ForInStep.yield (none,Unit.unit))) Q' E s:=by
  intro xs
  induction xs with
  | nil=>
   intro ys ns ms n h1 h2 Q' q
   cases h1
   rw[List.zip_nil_left,List.zipIdx_nil,List.forIn_nil];refine aV (q none<|.inr ⟨rfl,?_⟩)
   cases h2 with
   | nil=>rw[HT.sD];rfl
   | cons a t h2=>rw[HT.o_,a_<|by simp]
  | cons v J G=>
   intro ys ns ms n h1 h2 Q' q
   cases h1 with
   | cons a t h1=>
    cases h2 with
    | nil=>
     rw[List.zip_nil_right,List.zipIdx_nil,List.forIn_nil];exact aV<|q none<|.inr ⟨rfl,by rw[HT.rf,bq<|by simp]⟩
    | cons c u h2=>
     rw[List.zip_cons_cons,jz,List.forIn_cons];rw[HT.uC]at q;dsimp only;refine aH<|aH<|wpAny_eqBool_int ?_;by_cases e:a=c
     ·rw[aJ e]at q;subst e;dsimp[cg,dg,bF,cG];refine aV (G _ _ _ _ h1 h2 _ λr d=>q r ?_)
      rcases d with d|⟨d,B⟩
      ·exact .inl d
      ·exact .inr ⟨d,by rw[B];simp⟩
     ·rw[aI e]at q;have F:(a == c)=false:=by simpa using e
      dsimp[F,c_,dj];exact aH<|M1 _<|aV<|aV<|q _<|.inl rfl
 refine aH (C xs ys ns ms 0 hi hj _ λr d=>?_)
 rcases d with rfl|⟨rfl,B⟩
 ·exact aV h
 ·dsimp only;rw[aZ,aZ,<- B];exact aV h
end
theorem Fe:∀a:ag,HT.lexLt a a=false
 | []=>HT.sD
 | x::a=>by rw[HT.uC,aJ rfl];exact Fe a
theorem EE:∀{a b c:ag},HT.lexLt a b=true->HT.lexLt b c=true->HT.lexLt a c=true
 | [],[],_,h,_=>by rw[HT.sD]at h;cases h
 | x::a,[],_,h,_=>by rw[HT.rf]at h;cases h
 | _,y::b,[],_,h=>by rw[HT.rf]at h;cases h
 | [],y::b,z::c,_,_=>HT.o_ ..
 | x::a,y::b,z::c,h1,h2=>by
  rw[HT.uC]at h1 h2 ⊢;by_cases e1:x=y
  ·rw[aJ e1]at h1;by_cases e2:y=z
   ·rw[aJ e2]at h2;rw[aJ<|e1.trans e2];exact EE h1 h2
   ·rw[aI e2]at h2;have:=bP h2;rw[aI<|by omega];exact a_<|by omega
  ·rw[aI e1]at h1;have d:=bP h1;by_cases e2:y=z
   ·rw[aI<|by omega];exact a_ (by omega)
   ·rw[aI e2]at h2;have:=bP h2;rw[aI<|by omega];exact a_<|by omega
theorem yD:∀{a b:ag},HT.lexLt a b=false->HT.lexLt b a=false->a=b
 | [],[],_,_=>rfl
 | [],y::b,h,_=>by rw[HT.o_]at h;cases h
 | x::a,[],_,h=>by rw[HT.o_]at h;cases h
 | x::a,y::b,h1,h2=>by
  rw[HT.uC]at h1 h2;by_cases e:x=y
  ·rw[aJ e]at h1;rw[aJ e.symm]at h2;rw[e,yD h1 h2]
  ·rw[aI e]at h1;rw[aI λz=>e z.symm]at h2;have:=dQ h1;have:=dQ h2;omega
def Lu{a b c:ag}(h:HT.lexLt a c=true):HT.lexLt a b=true\/HT.lexLt b c=true:=by
 cases e:HT.lexLt a b with
 | true=>exact .inl rfl
 | false=>
  right
  cases e2:HT.lexLt b a with
  | true=>exact EE e2 h
  | false=>rw[<- yD e e2];exact h
abbrev NH (J:List<|ag):Ord where
 lt i j:=HT.lexLt (J.getD i []) (J.getD j [])
 UB i:=Fe _
 tr i j k:=EE
 neg i j k:=Lu
section
variable {prog:aj}{w:ah}{A:ay}{E:af->az->Prop}{s:az}
theorem Kf{α β:Type}{f:α->Sem β}(r:α->β):∀(l:List α),(∀a∈l,∀Q:β->az->Prop,Q (r a) s->wpAny M A (f a) Q E s)->∀Q:List β->az->Prop,Q (l.map r) s->wpAny M A (l.mapM f) Q E s
 | [],_,Q,q=>by rw[List.mapM_nil];exact aV q
 | a::l,h,Q,q=>by
  rw[List.mapM_cons];refine aH<|h a (aL ..) _<|aH<|Kf r l (λb c=>h b<|aN _ c) _<|aV q
def LO{α β:Type}{f:α->Sem β}(r:α->β)(l:List α)(h:∀a∈l,∀Q:β->az->Prop,Q (r a) s->wpAny M A (f a) Q E s)(Q:Array β->az->Prop)(q:Q (l.map r).toArray s):wpAny M A (l.toArray.mapM f) Q E s:=by
 rw[List.mapM_toArray,map_eq_pure_bind];exact aH<|Kf r l h _<|aV q
def RP(u:af):firstOfTuple' u=(do
  if (<- typeOf u) != .type "tuple" then return none
  return (<- Builtin.List.listItems u)[0]?):=rfl
def Oz{vs:ax}(h0:vs≠[])(J:∀v∈vs,∃(l:ak) (xs:ax) (n:Int) (t:Tok),v=.ref l/\IsTup s.heap l (.int n t::xs).toArray){Q:SortKind->az->Prop}(q:Q (tuples' true) s) :
  wpAny (model prog w) A (keyKind' vs.toArray) Q E s:=by
 have j:∀v,∃x:Int×Tok,v∈vs->∃(l:ak) (xs:ax),v=.ref l/\IsTup s.heap l (.int x.1 x.2::xs).toArray:=λv=>by
  by_cases c:v∈vs
  ·obtain⟨l,xs,n,t,e1,e2⟩:=J v c;exact⟨(n,t),λ_=>⟨l,xs,e1,e2⟩⟩
  ·exact⟨(0,0),λz=>absurd z c⟩
 obtain⟨F,m⟩:=Classical.axiomOfChoice j;rw[keyKind'_eq];refine aH (LO (λv=>some<|Value.int (F v).1 (F v).2) vs (λv hv Q' f=>?_) _ ?_)
 ·obtain⟨l,xs,rfl,o,g,hc,n,B⟩:=m v hv;rw[RP];refine aH<|fS (T := "tuple") ⟨o,g,hc⟩ ?_;rw[aI ⋯];exact aH (listItems_at g B<|aV f)
 ·rw[aJ<|by simp];refine aH<|gr ?_;have e1:(vs.map λv=>some<|Value.int (F v).1 (F v).2).toArray.filterMap id=(vs.map λv=>Value.int (F v).1 (F v).2).toArray:=by
   rw[List.filterMap_toArray,jb];congr 1;rw[show(id ∘ λv=>some<|Value.int (F v).1 (F v).2)=λv=>some (Value.int (F v).1 (F v).2)from rfl];exact congrFun List.filterMap_eq_map' vs
  rw[e1,oneTypeOnly'_eq];refine aH (aH<|LO (λ_=>Value.type "int") _ (λv hv Q' f=>?_) _ ?_)
  ·obtain⟨u,_,rfl⟩:=aW.mp hv;exact aV f
  ·rw[bB];obtain⟨e,d,rfl⟩:∃e d,vs=e::d:=by
    cases vs with
    | nil=>exact absurd rfl h0
    | cons a b=>exact⟨a,b,rfl⟩
   have p:((List.map ((λ_=>Value.type "int") ∘ λv=>Value.int (F v).1 (F v).2) (e::d)).toArray.all λx=>x == Value.type "int")=true:=by
    dsimp[List.all_toArray,all_map,eS];intro _ _;rfl
   have k:(List.map ((λ_=>Value.type "int") ∘ λv=>Value.int (F v).1 (F v).2) (e::d)).toArray[0]?=some (Value.type "int"):=by simp
   rw[k];dsimp[p,dj];exact aV<|aV q
end
end Sx
namespace L2
open PySem PySem.Spec PyProof.Rows
section
variable {X:Cx}
theorem wu:∀{rs:ba}{its:ax},Vals (rs.map V.ref) its->its=rs.map Value.ref
 | [],_,r=>by cases r;rfl
 | a::rs,_,r=>by
  cases r with
  | cons h t=>
   have e:_=Value.ref a:=h;rw[e,wu t];rfl
theorem Dz:∀(rs:ba),Vals (rs.map V.ref) (rs.map Value.ref)
 | []=>.nil
 | a::rs=>.cons (show RelV (.ref a) (.ref a)from rfl)<|Dz rs
def Du{s:az}{H:Hp}{Q:VK}{h':aq}{tk:Nat}{rs:ba}{kss:List<|ag}(I1:Inv X pins σ H { s with heap:=h',toks:=tk })(ro:Sx.RO kss.length)(hlen:rs.length=kss.length)(hz:rs.length<=sizeLine)
  (hT:∀(i:Nat) (r:ak) (ks:ag),rs[i]?=some r->kss[i]?=some ks->n_ X.K H r (ks.map V.int)/\ks≠[])
  (q:∀l g,H l=none->Sx.Cl g 0 kss.length->Sx.So (Sx.NH kss) g 0 kss.length->Q (.ref l) (upd H l<|.lst<|((List.range kss.length).map λi=>rs.getD (g i) 0).map V.ref)) :
  wpAny (model X.prog X.w) X.A.in1 (do
   let l <- newList (rs.map Value.ref)
   let _ <- holding [l] (call (Value.builtin "list.sort") [l] [])
   ret l) (λfin s'=>∃v,fin=Fin.done (Flow.ret v)/\EP X pins σ Q v s') X.xe { s with heap:=h',toks:=tk }:=by
 have f:(rs.map Value.ref).length=kss.length:=by rw[aG,hlen]
 refine aH<|jv ?_;have c:(h'.push<|seqObj "list" (rs.map Value.ref).toArray 0).get? h'.objs.size=some (seqObj "list" (rs.map Value.ref).toArray 0):=bC _ rfl
 skip
 have tup:∀(i:Nat) (r:ak) (ks:ag),rs[i]?=some r->kss[i]?=some ks->∃its:ax,IntsAre its ks/\IsTup (Sx.Om (h'.push<|seqObj "list" (rs.map Value.ref).toArray 0) h'.objs.size<|rs.map Value.ref) r its.toArray:=λi r ks e1 e2=>by
  obtain⟨its,T,⟨o,J,hc,n,Z⟩,_⟩:=I1.tuple (hT i r ks e1 e2).1;refine⟨its,intsAre_of T,o,?_,hc,n,Z⟩;have lt:r<h'.objs.size:=bh J;rw[Sx.WA (bw lt)<|by rw[h_];exact fu lt];exact aR _ J
 refine aH (dc<|eg slot_list_sort ⟨_,c,rfl⟩ entry_list_sort (Sx.CK (o:=Sx.NH kss) (kd:=tuples' true) c (by rw[f];lia) (by rw[f];exact ro) (λh2 Q' k=>?_) (λh2 i j hi G M Q' k=>?_) λg hc hs=>⟨_,rfl,?_⟩)<|args_list_sort _)
 ·refine Sx.Oz (λz=>by rw[z]at h2;simp at h2) (λv hv=>?_) k;obtain⟨i,hi⟩:=gu hv;rw[aQ]at hi;obtain⟨r,B,rfl⟩:=aY.mp hi;have lt:=(aF.mp B).1;have e2:kss[i]?=some kss[i]:=aE ();obtain⟨its,h1,h3⟩:=tup i r _ B e2;have d:=(hT i r _ B e2).2;generalize kss[i]=ks at h1 d
  cases h1 with
  | nil=>exact absurd rfl d
  | cons a t h1=>exact⟨r,_,a,t,rfl,h3⟩
 ·rw[f]at hi G;have e1:rs[i]?=some (rs[i]'()):=aE _;have e2:rs[j]?=some (rs[j]'()):=aE _;have C:kss[i]?=some kss[i]:=aE hi;have F:kss[j]?=some kss[j]:=aE G;obtain⟨x1,W,O⟩:=tup i _ _ e1 C;obtain⟨x2,N,Y⟩:=tup j _ _ e2 F;have v1:(rs.map Value.ref).getD i .none=.ref (rs[i]'()):=by rw[aK,aQ,e1];rfl
  have v2:(rs.map Value.ref).getD j .none=.ref (rs[j]'()):=by rw[aK,aQ,e2];rfl
  show wpAny _ _ (keyLt' (tuples' true) ((rs.map Value.ref).getD i .none)<|(rs.map Value.ref).getD j .none) Q' M _;rw[v1,v2];refine Sx.JG true O Y W N ?_;have P:kss.getD i []=kss[i]:=by rw[aK,C];rfl
  have U:kss.getD j []=kss[j]:=by rw[aK,F];rfl
  have:(Sx.NH kss).lt i j=HT.lexLt kss[i] kss[j]:=by show HT.lexLt _ _=_;rw[P,U]
  rw[<- this];exact k
 ·rw[f]at hc hs ⊢;obtain⟨e,L⟩:=sortedHeap_at (out:=((List.range kss.length).map λi=>(rs.map Value.ref).getD (g i) .none).toArray) c;have old:∀b p,h'.get? b=some p->(sortedHeap (h'.push<|seqObj "list" (rs.map Value.ref).toArray 0) h'.objs.size (rs.map Value.ref) ((List.range kss.length).map λi=>(rs.map Value.ref).getD (g i) .none).toArray).get? b=some p:=λb p m=>by
   rw[sortedHeap_old (bw<|bh m)<|by rw[h_];exact fu<|bh m];exact aR _ m
  refine aV ⟨_,rfl,.ref h'.objs.size,_,I1.laid (t':=tk) (o:=.lst<|((List.range kss.length).map λi=>rs.getD (g i) 0).map V.ref) old (aO _) ?_,rfl,q _ g (I1.hok.fresh<|aO _) hc hs⟩;refine⟨by rw[aG,aG,cJ];lia,((List.range kss.length).map λi=>rs.getD (g i) 0).map Value.ref,e,Dz _,?_⟩;rw[L];congr 2;rw[bB];congr 1;refine dh λi hi=>?_;have:=(hc i (bL _)<|cY.mp hi).2;have lt:g i<rs.length:=()
  show(rs.map Value.ref).getD (g i) .none=Value.ref (rs.getD (g i) 0);rw[aK,aQ,aE lt,aK,aE lt];rfl
def FH:kJ X (.builtin "sorted") (λxs H Q=>∃(p:ak) (rs:ba) (kss:List<|ag),xs=[.ref p]/\qt X.K H p (rs.map V.ref)/\Sx.RO kss.length/\rs.length=kss.length /\
  (∀(i:Nat) (r:ak) (ks:ag),rs[i]?=some r->kss[i]?=some ks->n_ X.K H r (ks.map V.int)/\ks≠[]) /\
  ∀l g,H l=none->Sx.Cl g 0 kss.length->Sx.So (Sx.NH kss) g 0 kss.length->Q (.ref l) (upd H l<|.lst<|((List.range kss.length).map λi=>rs.getD (g i) 0).map V.ref)):=by
 x_go;obtain⟨p,rs,kss,rfl,C,f,c,j,q⟩:=h;kcf_m
 cases rx
 obtain⟨its,F,pl,e⟩:=I.list C;have k:=wu F;subst k;obtain⟨o,G,d,n,L⟩:=pl.isList;rw[aG]at e;have J:(rs.map Value.ref).length=kss.length:=by rw[aG,c]
 kln_w;unfold Builtin.«sorted»;refine aH (m:=checkCount "sorted" 1 1 _)<|aV ?_;refine aH<|wpAny_collect_seq p (.inl rfl) G d L (λh' B=>Du (s:=s) (I.kept (t':=s.toks) B) f c e j q)<|by rw[aZ,J];lia
end
end L2
namespace Am
open PySem
inductive A where
 | unb|non|bl (b:Bool)|int (i:Int)|str (x:Str)|tup (xs:List A)|frz (xs:List A)|rng (lo hi:Int)|ref (n:Nat)|exn (c:Str)|ty (n:String)|ktu (xs:List A)
@[reducible]def ae:=List A
inductive O where
 | lst (xs:ae)|dct (kvs:List<|ag×A)|nX (kvs:List<|Int×A)|dks (kvs:List<|Str×A)|dcp (kvs:List<|L2.Oe×A)|dcf (kvs:List<|ag×A)|dkf (kvs:List<|Int×A)|ins (c:Str) (fs:List<|Str×A)
meta abbrev jT:=List O
inductive R (α:Type) where
 | ok (a:α) (S:jT)|ex (c:Str) (S:jT)|no
abbrev R.bind {α β:Type}(r:R α)(f:α->jT->R β):R β:=match r with
 | .ok a S=>f a S
 | .ex c S=>.ex c S
 | .no=>.no
abbrev R.post {α:Type}(r:R α)(P:α->jT->Prop)(E:Str->jT->Prop):Prop:=match r with
 | .ok a S=>P a S
 | .ex c S=>E c S
 | .no=>False
def j3{α β:Type}{r:R α}{f:α->jT->R β}{P:β->jT->Prop}{E:Str->jT->Prop}(h:(r.bind f).post P E):r.post (λa S=>(f a S).post P E) E:=by
 cases r<;>exact h
def NP{α:Type}{r:R α}{P P':α->jT->Prop}{E J:Str->jT->Prop}(h:r.post P E)(U:∀a S,P a S->P' a S)(he:∀c S,E c S->J c S):r.post P' J:=by
 cases r with
 | ok a S=>exact U _ _ h
 | ex c S=>exact he _ _ h
 | no=>exact h.elim
abbrev gd {α:Type}(c:Prop)[Decidable c](r:R α):R α:=if c then r else .no
abbrev opt {α β:Type}(o:Option β)(f:β->R α):R α:=match o with
 | some b=>f b
 | none=>.no
def ko{α:Type}{c:Prop}[Decidable c]{r:R α}{P:α->jT->Prop}{E:Str->jT->Prop}(h:(gd c r).post P E):c/\r.post P E:=by
 unfold gd at h;by_cases hc:c
 ·rw[aJ hc]at h;exact⟨hc,h⟩
 ·rw[aI hc]at h;exact h.elim
def jV{α β:Type}{o:Option β}{f:β->R α}{P:α->jT->Prop}{E:Str->jT->Prop}(h:(opt o f).post P E):∃b,o=some b/\(f b).post P E:=by
 cases o with
 | none=>exact h.elim
 | some b=>exact⟨b,rfl,h⟩
def Vg{α:Type}{c:Prop}[Decidable c]{r:R α}(h:c):gd c r=r:=aJ h
abbrev jU (S:jT)(n:Nat):Option (ae):=match S[n]? with
 | some (.lst xs)=>some xs
 | _=>none
def kc{n:Nat}(h:jU S n=some xs):S[n]?=some (.lst xs):=by
 unfold jU at h;split at h
 ·rename_i e;cases h;exact e
 ·cases h
def xR{S:jT}{n:Nat}(h:S[n]?=some (.lst xs)):jU S n=some xs:=by
 unfold jU;rw[h]
inductive RS where
 | nx (τ:ae) (S:jT)|rt (a:A) (S:jT)|bk (τ:ae) (S:jT)|ct (τ:ae) (S:jT)|ex (c:Str) (S:jT)|no
meta abbrev Ex:=ae->jT->R A
meta abbrev qQ:=ae->jT->R (ae)
meta abbrev Te:=ae->jT->R Bool
meta abbrev Sm:=ae->jT->RS
meta abbrev Tg:=A->ae->jT->R (ae)
end Am
namespace Am
open PySem L2
section
variable (K:au) (ρ:ba) (H:Hp)
abbrev ClN (K:au)(c:Str)(C:ak):Prop:=PySem.W.nsIn K mainGlobals c=some (some<|.ref C)
abbrev Fz (K:au)(H:Hp)(a:ak)(vs:List V):Prop:=
 (∃o,H a=some (.frz o<|.lst vs))\/∃(o:Obj) (its:Array af) (n:Nat),K.lookup a=some o/\o.cls=.type "list" /\ o.dict=none/\o.data=.seq its n/\its.size<=sizeLine/\Vals vs its.toList
abbrev KTp (K:au)(a:ak)(vs:List V):Prop:=∃(o:Obj) (its:Array af) (n:Nat),K.lookup a=some o/\o.cls=.type "tuple" /\ o.dict=none/\o.data=.seq its n/\its.size<=sizeLine/\Vals vs its.toList
mutual
inductive AV:A->V->Prop
 | non:AV .non .non
 | bl (b:Bool):AV (.bl b) (.bl b)
 | int (i:Int):AV (.int i) (.int i)
 | str (x:Str):AV (.str x) (.str x)
 | ty (n:String):AV (.ty n) (.ty n)
 | tup {a:ak} {xs:ae} {vs:List V} (h:H a=some (.tup vs)) (r:AVs xs vs):AV (.tup xs) (.ref a)
 | frz {a:ak} {xs:ae} {vs:List V} (h:Fz K H a vs) (r:AVs xs vs):AV (.frz xs) (.ref a)
 | rng {a:ak} {lo hi:Int} (h:H a=some (.rng lo hi)):AV (.rng lo hi) (.ref a)
 | ref {a:ak} {n:Nat} (h:ρ[n]?=some a):AV (.ref n) (.ref a)
 | exn {a C:ak} {c:Str} {oe:Obj} (n:ClN K c C) (h:H a=some (.frz oe xu)) (x:XO C oe):AV (.exn c) (.ref a)
 | ktu {a:ak} {xs:ae} {vs:List V} (h:KTp K a vs) (r:AVs xs vs):AV (.ktu xs)<|.ref a
inductive AVs:ae->List V->Prop
 | nil:AVs [] []
 | cons {x:A} {v:V} {xs:ae} {vs:List V} (h:AV x v) (t:AVs xs vs):AVs (x::xs) (v::vs)
end
abbrev DV:List (ag×A)->List (List Key×V)->Prop
 | [],[]=>True
 | p::r,q::r'=>(q.1=p.1.map Sum.inl/\AV K ρ H p.2 q.2)/\DV r r'
 | _,_=>False
abbrev DI:List (Int×A)->List (Key×V)->Prop
 | [],[]=>True
 | p::r,q::r'=>(q.1=Sum.inl p.1/\AV K ρ H p.2 q.2)/\DI r r'
 | _,_=>False
abbrev DS:List (Str×A)->List (Key×V)->Prop
 | [],[]=>True
 | p::r,q::r'=>(q.1=Sum.inr p.1/\AV K ρ H p.2 q.2)/\DS r r'
 | _,_=>False
abbrev DP:List (L2.Oe×A)->List (L2.Oe×ak×af)->Prop
 | [],[]=>True
 | p::r,q::r'=>(q.1=p.1/\L2.Hl H q.2.1 q.1/\∃v,RelV v q.2.2/\AV K ρ H p.2 v)/\DP r r'
 | _,_=>False
abbrev OR (a:ak):O->Prop
 | .lst xs=>∃d,H a=some (.lst d)/\AVs K ρ H xs d
 | .dct c=>∃ks,H a=some (.dT ks)/\DV K ρ H c ks
 | .nX c=>∃ks,H a=some (.dK ks)/\DI K ρ H c ks
 | .dks c=>∃ks,H a=some (.dK ks)/\DS K ρ H c ks
 | .dcp c=>∃xs,H a=some (.ext<|L2.ad8 a xs)/\DP K ρ H c xs
 | .dcf c=>∃o ks,H a=some (.frz o<|.dT ks)/\DV K ρ H c ks
 | .dkf c=>∃o ks,H a=some (.frz o<|.dK ks)/\DI K ρ H c ks
 | .ins _ _=>∃o u,H a=some (.frz o u)
structure Rel (S:jT):Prop where
 len:ρ.length=S.length
 nd:ρ.Nodup
 «at»:∀(n:Nat) (a:ak) (o:O),ρ[n]?=some a->S[n]?=some o->OR K ρ H a o
end
abbrev Imm:HO->Prop
 | .tup _=>True
 | .rng _ _=>True
 | .frz _ _=>True
 | _=>False
structure Ext0 (ρ ρ':ba)(H H':Hp):Prop where
 pre:ρ <+: ρ'
 im:∀a u,Imm u->H a=some u->H' a=some u
structure Ext (ρ ρ':ba)(H H':Hp):Prop extends Ext0 ρ ρ' H H' where
 fr:∀a u,H a=some u->a∉ρ->H' a=some u
 nw:∀a,a∈ρ'->a∈ρ\/H a=none
def Ext.refl{H:Hp}:Ext ρ ρ H H:=⟨⟨eT _,λ_ _ _ h=>h⟩,λ_ _ h _=>h,λ_ h=>.inl h⟩
def Ext.trans{H H1 H2:Hp}(a:Ext ρ ρ1 H H1)(b:Ext ρ1 ρ2 H1 H2):Ext ρ ρ2 H H2:=⟨⟨a.pre.trans b.pre,λx u i h=>b.im x u i<|a.im x u i h⟩,λx u h n=>b.fr x u (a.fr x u h n) λz=>(a.nw x z).elim n λz=>by(rw[z]at h;cases h),λx h=>by
 by_cases c:x∈ρ
 ·exact .inl c
 ·right
  cases q:H x with
  | none=>rfl
  | some u=>
   rcases b.nw x h with z|z
   ·exact((a.nw x z).elim c λz=>by(rw[z]at q;cases q)).elim
   ·rw[a.fr x u q c]at z;cases z⟩
def Ext0.get{H H':Hp}(e:Ext0 ρ ρ' H H'){n:Nat}{a:ak}(h:ρ[n]?=some a):ρ'[n]?=some a:=by
 obtain⟨t,rfl⟩:=e.pre;rw[bE (aF.mp h).1];exact h
section
variable {K:au}{ρ ρ':ba}{H H':Hp}
def Ext0.sqT(e:Ext0 ρ ρ' H H'){a:ak}(h:n_ K H a vs):n_ K H' a vs:=by
 rcases h with(h|⟨o,h⟩)|h
 ·exact .inl (.inl<|e.im _ _ trivial h)
 ·exact .inl (.inr ⟨o,e.im _ _ trivial h⟩)
 ·exact .inr h
def Ext0.fz(e:Ext0 ρ ρ' H H'){a:ak}(h:Fz K H a vs):Fz K H' a vs:=by
 rcases h with⟨o,h⟩|h
 ·exact .inl ⟨o,e.im _ _ trivial h⟩
 ·exact .inr h
def Fz.Qq{a:ak}(h:Fz K H a vs):qt K H a vs:=by
 rcases h with⟨o,h⟩|h
 ·exact .inl (.inr ⟨o,h⟩)
 ·exact .inr h
mutual
theorem AV.mE(e:Ext0 ρ ρ' H H'):∀{x:A}{v:V},AV K ρ H x v->AV K ρ' H' x v
 | _,_,.non=>.non
 | _,_,.bl b=>.bl b
 | _,_,.int i=>.int i
 | _,_,.str x=>.str x
 | _,_,.ty x=>.ty x
 | _,_,.tup h r=>.tup (e.im _ _ trivial h) (AVs.mE e r)
 | _,_,.frz h r=>.frz (e.fz h) (AVs.mE e r)
 | _,_,.rng h=>.rng (e.im _ _ trivial h)
 | _,_,.ref h=>.ref (e.get h)
 | _,_,.exn n h x=>.exn n (e.im _ _ trivial h) x
 | _,_,.ktu h r=>.ktu h<|AVs.mE e r
theorem AVs.mE(e:Ext0 ρ ρ' H H'):∀{xs:ae}{vs:List V},AVs K ρ H xs vs->AVs K ρ' H' xs vs
 | _,_,.nil=>.nil
 | _,_,.cons h t=>.cons (AV.mE e h)<|AVs.mE e t
end
theorem DV.mE(e:Ext0 ρ ρ' H H'):∀{xs:List<|ag×A}{vs:List<|List Key×V},DV K ρ H xs vs->DV K ρ' H' xs vs
 | [],[],_=>trivial
 | _::_,_::_,⟨⟨a,b⟩,r⟩=>⟨⟨a,AV.mE e b⟩,DV.mE e r⟩
def DV.ext{x:List<|ag×A}{v:List<|List Key×V}(h:DV K ρ H x v)(e:Ext ρ ρ' H H'):DV K ρ' H' x v:=DV.mE e.toExt0 h
theorem DI.mE(e:Ext0 ρ ρ' H H'):∀{xs:List<|Int×A}{vs:List<|Key×V},DI K ρ H xs vs->DI K ρ' H' xs vs
 | [],[],_=>trivial
 | _::_,_::_,⟨⟨a,b⟩,r⟩=>⟨⟨a,AV.mE e b⟩,DI.mE e r⟩
def DI.ext{x:List<|Int×A}{v:List<|Key×V}(h:DI K ρ H x v)(e:Ext ρ ρ' H H'):DI K ρ' H' x v:=DI.mE e.toExt0 h
theorem DS.mE(e:Ext0 ρ ρ' H H'):∀{xs:List<|Str×A}{vs:List<|Key×V},DS K ρ H xs vs->DS K ρ' H' xs vs
 | [],[],_=>trivial
 | _::_,_::_,⟨⟨a,b⟩,r⟩=>⟨⟨a,AV.mE e b⟩,DS.mE e r⟩
def DS.ext{x:List<|Str×A}{v:List<|Key×V}(h:DS K ρ H x v)(e:Ext ρ ρ' H H'):DS K ρ' H' x v:=DS.mE e.toExt0 h
def Hl.mE{b:ak}{k:L2.Oe}(e:Ext0 ρ ρ' H H'):L2.Hl H b k->L2.Hl H' b k:=λ⟨r1,r2,h1,h2,h3⟩=>⟨r1,r2,e.im _ _ trivial h1,e.im _ _ trivial h2,e.im _ _ trivial h3⟩
theorem DP.mE(e:Ext0 ρ ρ' H H'):∀{xs:List<|L2.Oe×A}{vs:List<|L2.Oe×ak×af},DP K ρ H xs vs->DP K ρ' H' xs vs
 | [],[],_=>trivial
 | _::_,_::_,⟨⟨a,k,v,c,b⟩,r⟩=>⟨⟨a,Hl.mE e k,v,c,AV.mE e b⟩,DP.mE e r⟩
def DP.ext{x:List<|L2.Oe×A}{v:List<|L2.Oe×ak×af}(h:DP K ρ H x v)(e:Ext ρ ρ' H H'):DP K ρ' H' x v:=DP.mE e.toExt0 h
def AV.ext{x:A}{v:V}(h:AV K ρ H x v)(e:Ext ρ ρ' H H'):AV K ρ' H' x v:=AV.mE e.toExt0 h
def AVs.ext{x:ae}{v:List V}(h:AVs K ρ H x v)(e:Ext ρ ρ' H H'):AVs K ρ' H' x v:=AVs.mE e.toExt0 h
theorem AVs.length:∀{xs:ae}{vs:List V},AVs K ρ H xs vs->xs.length=vs.length
 | _,_,.nil=>rfl
 | _,_,.cons _ t=>dY (·+1)<|AVs.length t
theorem AVs.append:∀{xs ys:ae}{vs ws:List V},AVs K ρ H xs vs->AVs K ρ H ys ws->AVs K ρ H (xs++ys) (vs++ws)
 | _,_,_,_,.nil,s=>s
 | _,_,_,_,.cons h t,s=>.cons h<|AVs.append t s
theorem AVs.take:∀{xs:ae}{vs:List V}(n:Nat),AVs K ρ H xs vs->AVs K ρ H (xs.take n) (vs.take n)
 | _,_,0,_=>.nil
 | _,_,_+1,.nil=>.nil
 | _,_,n+1,.cons h t=>.cons h<|AVs.take n t
theorem AVs.drop:∀{xs:ae}{vs:List V}(n:Nat),AVs K ρ H xs vs->AVs K ρ H (xs.drop n) (vs.drop n)
 | _,_,0,r=>r
 | _,_,_+1,.nil=>.nil
 | _,_,n+1,.cons _ t=>AVs.drop n t
theorem AVs.reverse:∀{xs:ae}{vs:List V},AVs K ρ H xs vs->AVs K ρ H xs.reverse vs.reverse
 | _,_,.nil=>.nil
 | _,_,.cons h t=>by rw[c5,c5];exact(AVs.reverse t).append (.cons h .nil)
theorem AVs.get:∀{xs:ae}{vs:List V}{i:Nat}{x:A},AVs K ρ H xs vs->xs[i]?=some x->∃v,vs[i]?=some v/\AV K ρ H x v
 | _,_,_,_,.nil,e=>by simp at e
 | _,_,0,_,.cons h _,e=>by simp at e;subst e;exact⟨_,rfl,h⟩
 | _,_,i+1,x,.cons _ t,e=>by
  obtain⟨u,h1,h2⟩:=AVs.get (i:=i) (x:=x) t (by simpa using e);exact⟨u,by simpa using h1,h2⟩
theorem AVs.set{x:A}{v:V}(h:AV K ρ H x v):∀{xs:ae}{vs:List V}(i:Nat),AVs K ρ H xs vs->AVs K ρ H (xs.set i x) (vs.set i v)
 | _,_,_,.nil=>.nil
 | _,_,0,.cons _ t=>.cons h t
 | _,_,i+1,.cons q t=>.cons q<|AVs.set h i t
def AVs.one{x:A}{v:V}(h:AV K ρ H x v):AVs K ρ H [x] [v]:=.cons h .nil
theorem AVs.eraseIdx:∀{xs:ae}{vs:List V}(i:Nat),AVs K ρ H xs vs->AVs K ρ H (xs.eraseIdx i) (vs.eraseIdx i)
 | _,_,_,.nil=>.nil
 | _,_,0,.cons _ t=>t
 | _,_,i+1,.cons q t=>.cons q<|AVs.eraseIdx i t
theorem qh:∀(ns:ag),AVs K ρ H (ns.map .int) (ns.map .int)
 | []=>.nil
 | n::ns=>.cons (.int n)<|qh ns
def Rel.lay{S:jT}{p:ak}(R:Rel K ρ H S)(J:H p=none)(r:AVs K ρ H xs vs):Ext ρ (ρ++[p]) H (upd H p<|.lst vs)/\Rel K (ρ++[p]) (upd H p<|.lst vs) (S++[.lst xs])/\(ρ++[p])[S.length]?=some p:=by
 have ex:Ext ρ (ρ++[p]) H (upd H p<|.lst vs):=⟨⟨eV _ _,λa u _ h=>by rw[j7<|kF h J];exact h⟩,λa u h _=>by rw[j7<|kF h J];exact h,λa h=>by
  rcases br.mp h with z|z
  ·exact .inl z
  ·have e:a=p:=by simpa using z
   rw[e];exact .inr J⟩
 have f:∀(n:Nat) (a:ak),ρ[n]?=some a->a≠p:=by
  intro n a e z;subst z;have hn:n<S.length:=by rw[<- R.len];exact(aF.mp e).1
  have:=R.at n a S[n] e (aE hn)
  cases g:S[n]with
  | lst xs=>rw[g]at this;obtain⟨vs,h,_⟩:=this;rw[J]at h;cases h
  | dct _|nX _|dks _|dcp _=>rw[g]at this;obtain⟨vs,h,_⟩:=this;rw[J]at h;cases h
  | dcf _|dkf _=>rw[g]at this;obtain⟨_,vs,h,_⟩:=this;rw[J]at h;cases h
  | ins _ _=>rw[g]at this;obtain⟨_,_,h⟩:=this;rw[J]at h;cases h
 have c:(ρ++[p])[S.length]?=some p:=by rw[<- R.len];simp
 refine⟨ex,⟨by simp[R.len],?_,?_⟩,c⟩
 ·rw[cO];refine⟨R.nd,by simp,λa C b k e=>?_⟩;have:b=p:=by simpa using k
  obtain⟨n,hn,B⟩:=List.mem_iff_getElem.mp C;exact f n a (by rw[aE hn,B])<|e.trans this
 ·intro n a o h1 h2;by_cases hn:n<S.length
  ·rw[bE<|by rw[R.len];exact hn]at h1;rw[bE hn]at h2;have:=R.at n a o h1 h2
   cases o with
   | lst ys=>obtain⟨d,e,q⟩:=this;exact⟨d,by rw[j7<|f n a h1];exact e,q.ext ex⟩
   | dct _|nX _|dks _|dcp _=>obtain⟨d,e,q⟩:=this;exact⟨d,by rw[j7<|f n a h1];exact e,q.ext ex⟩
   | dcf _|dkf _=>obtain⟨j,d,e,q⟩:=this;exact⟨j,d,by rw[j7<|f n a h1];exact e,q.ext ex⟩
   | ins _ _=>obtain⟨j,m,e⟩:=this;exact⟨j,m,by rw[j7<|f n a h1];exact e⟩
  ·have e:n=S.length:=by
    have:=(aF.mp h2).1;simp at this
    lia
   subst e;rw[c]at h1
   cases h1
   simp at h2;subst h2;exact⟨vs,kZ,r.ext ex⟩
def Rel.im{p:ak}(R:Rel K ρ H S)(J:H p=none):Ext ρ ρ H (upd H p u)/\Rel K ρ (upd H p u) S:=by
 have ex:Ext ρ ρ H (upd H p u):=⟨⟨eT _,λa u _ h=>by rw[j7<|kF h J];exact h⟩,λa u h _=>by rw[j7<|kF h J];exact h,λ_ h=>.inl h⟩;refine⟨ex,R.len,R.nd,λn a o h1 h2=>?_⟩;have:=R.at n a o h1 h2
 cases o with
 | lst ys=>obtain⟨c,e,q⟩:=this;exact⟨c,by rw[j7<|kF e J];exact e,q.ext ex⟩
 | dct _|nX _|dks _|dcp _=>obtain⟨c,e,q⟩:=this;exact⟨c,by rw[j7<|kF e J];exact e,q.ext ex⟩
 | dcf _|dkf _=>obtain⟨d,c,e,q⟩:=this;exact⟨d,c,by rw[j7<|kF e J];exact e,q.ext ex⟩
 | ins _ _=>obtain⟨d,f,e⟩:=this;exact⟨d,f,by rw[j7<|kF e J];exact e⟩
def Rel.put{S:jT}{n:Nat}{a:ak}(R:Rel K ρ H S)(J:ρ[n]?=some a)(hS:S[n]?=some (.lst xs))(r:AVs K ρ H ys ws):Ext ρ ρ H (upd H a<|.lst ws)/\Rel K ρ (upd H a<|.lst ws) (S.set n<|.lst ys):=by
 obtain⟨k,e,_⟩:=R.at n a _ J hS;have ex:Ext ρ ρ H (upd H a<|.lst ws):=⟨⟨eT _,λb u i h=>by
  have:b≠a:=by
   intro z;subst z;rw[e]at h;cases h;exact i
  rw[j7 this];exact h⟩,λb u h n=>by
  rw[j7 λz=>n<|by rw[z];exact aX J];exact h,λ_ h=>.inl h⟩
 refine⟨ex,by rw[cE];exact R.len,R.nd,λm b o h1 h2=>?_⟩;by_cases f:m=n
 ·subst f;rw[J]at h1;cases h1;rw[bO (aF.mp hS).1]at h2
  cases h2
  exact⟨ws,kZ,r.ext ex⟩
 ·rw[bM<|di f]at h2;have nb:b≠a:=λz=>by
   subst z;obtain⟨p,e1⟩:=aF.mp J;obtain⟨B,e2⟩:=aF.mp h1;exact f<|(cZ R.nd).mp<|e2.trans e1.symm
  have:=R.at m b o h1 h2
  cases o with
  | lst ys=>obtain⟨c,d,q⟩:=this;exact⟨c,by rw[j7 nb];exact d,q.ext ex⟩
  | dct _|nX _|dks _|dcp _=>obtain⟨c,d,q⟩:=this;exact⟨c,by rw[j7 nb];exact d,q.ext ex⟩
  | dcf _|dkf _=>obtain⟨g,c,d,q⟩:=this;exact⟨g,c,by rw[j7 nb];exact d,q.ext ex⟩
  | ins _ _=>obtain⟨g,j,d⟩:=this;exact⟨g,j,by rw[j7 nb];exact d⟩
def Rel.lst{n:Nat}{a:ak}(R:Rel K ρ H S)(J:ρ[n]?=some a)(hS:S[n]?=some (.lst xs)):∃vs,H a=some (.lst vs)/\AVs K ρ H xs vs:=R.at n a _ J hS
structure SR (K:au)(ρ:ba)(H:Hp)(τ:ae)(σ:St):Prop where
 len:τ.length=σ.length
 «at»:∀(i:Nat) (a:A),τ[i]?=some a->a=.unb\/∃v,σ[i]?=some (some v)/\AV K ρ H a v
def SR.mE(s:SR K ρ H τ σ)(e:Ext0 ρ ρ' H H'):SR K ρ' H' τ σ:=⟨s.len,λi a h=>by
 rcases s.at i a h with z|⟨v,h1,h2⟩
 ·exact .inl z
 ·exact .inr ⟨v,h1,AV.mE e h2⟩⟩
def SR.ext(s:SR K ρ H τ σ)(e:Ext ρ ρ' H H'):SR K ρ' H' τ σ:=s.mE e.toExt0
def Rel.out{D:ak}(R:Rel K ρ H S)(J:H D=some (.lst vs))(hn:D∉ρ):Ext0 ρ ρ H (upd H D<|.lst ws)/\Rel K ρ (upd H D<|.lst ws) S:=by
 have ex:Ext0 ρ ρ H (upd H D<|.lst ws):=⟨eT _,λb u i h=>by
  have:b≠D:=by
   intro z;subst z;rw[J]at h;cases h;exact i
  rw[j7 this];exact h⟩
 refine⟨ex,R.len,R.nd,λn a o h1 h2=>?_⟩;have na:a≠D:=λz=>hn (by rw[<- z];exact aX h1);have:=R.at n a o h1 h2
 cases o with
 | lst ys=>obtain⟨c,e,q⟩:=this;exact⟨c,by rw[j7 na];exact e,AVs.mE ex q⟩
 | dct _|nX _|dks _|dcp _=>obtain⟨c,e,q⟩:=this;exact⟨c,by rw[j7 na];exact e,q.mE ex⟩
 | dcf _|dkf _=>obtain⟨d,c,e,q⟩:=this;exact⟨d,c,by rw[j7 na];exact e,q.mE ex⟩
 | ins _ _=>obtain⟨d,f,e⟩:=this;exact⟨d,f,by rw[j7 na];exact e⟩
def Rel.take{S:jT}{D:ak}(R:Rel K ρ H S)(J:H D=some (.lst vs))(hn:D∉ρ)(r:AVs K ρ H xs vs):Rel K (ρ++[D]) H (S++[.lst xs])/\(ρ++[D])[S.length]?=some D:=by
 have ex:Ext0 ρ (ρ++[D]) H H:=⟨eV _ _,λ_ _ _ h=>h⟩;have c:(ρ++[D])[S.length]?=some D:=by rw[<- R.len];simp
 refine⟨⟨by simp[R.len],?_,λn a o h1 h2=>?_⟩,c⟩
 ·rw[cO];refine⟨R.nd,by simp,λa k b g e=>?_⟩;have:b=D:=by simpa using g
  exact hn<|by rw[<- this,<- e];exact k
 ·by_cases hs:n<S.length
  ·rw[bE<|by rw[R.len];exact hs]at h1;rw[bE hs]at h2;have:=R.at n a o h1 h2
   cases o with
   | lst ys=>obtain⟨d,e,q⟩:=this;exact⟨d,e,AVs.mE ex q⟩
   | dct _|nX _|dks _|dcp _=>obtain⟨d,e,q⟩:=this;exact⟨d,e,q.mE ex⟩
   | dcf _|dkf _=>obtain⟨f,d,e,q⟩:=this;exact⟨f,d,e,q.mE ex⟩
   | ins _ _=>obtain⟨f,j,e⟩:=this;exact⟨f,j,e⟩
  ·have e:n=S.length:=by
    have:=(aF.mp h2).1;simp at this
    lia
   subst e;rw[c]at h1
   cases h1
   simp at h2;subst h2;exact⟨vs,J,AVs.mE ex r⟩
def SR.set{τ:ae}{σ:St}{a:A}{v:V}(s:SR K ρ H τ σ)(h:AV K ρ H a v):SR K ρ H (τ.set i a) (σ.set i<|some v):=by
 refine⟨by simp[s.len],λj b e=>?_⟩;by_cases c:j=i
 ·subst c;have d:j<τ.length:=by
   have:=(aF.mp e).1;simpa using this
  rw[bO d]at e
  cases e
  exact .inr ⟨v,bO<|by rw[<- s.len];exact d,h⟩
 ·rw[bM<|di c]at e;rw[bM<|di c];exact s.at j b e
end
end Am
namespace Am
open PySem PySem.Spec PyProof.Rows L2
abbrev XE (X:Cx)(ρ:ba)(H:Hp):Str->jT->Prop:=λc d=>∀(C:ak) (ρ':ba) (H':Hp),ClN X.K c C->Ext ρ ρ' H H'->Rel X.K ρ' H' d->EX X (.ref C) none H'
def XE.ext{X:Cx}{H H':Hp}{c:Str}(h:XE X ρ H c S)(e:Ext ρ ρ' H H'):XE X ρ' H' c S:=λC ρ2 H2 n e2=>h C ρ2 H2 n<|e.trans e2
abbrev CI (X:Cx)(ρ:ba)(H:Hp)(Q:VK):A->jT->Prop:=λa c=>∀ρ' H' v,Ext ρ ρ' H H'->Rel X.K ρ' H' c->AV X.K ρ' H' a v->Q v H'
abbrev okB (X:Cx)(ρ:ba)(H:Hp)(Q:Bool->Hp->Prop):Bool->jT->Prop:=λb c=>∀ρ' H',Ext ρ ρ' H H'->Rel X.K ρ' H' c->Q b H'
abbrev okL (X:Cx)(ρ:ba)(H:Hp)(Q:List V->Hp->Prop):ae->jT->Prop:=λas d=>∀ρ' H' c,Ext ρ ρ' H H'->Rel X.K ρ' H' d->AVs X.K ρ' H' as c->Q c H'
def CI.ext{X:Cx}{H H':Hp}{Q:VK}{a:A}(h:CI X ρ H Q a S)(e:Ext ρ ρ' H H'):CI X ρ' H' Q a S:=λρ2 H2 v e2=>h ρ2 H2 v<|e.trans e2
def okB.ext{X:Cx}{H H':Hp}{Q:Bool->Hp->Prop}{a:Bool}(h:okB X ρ H Q a S)(e:Ext ρ ρ' H H'):okB X ρ' H' Q a S:=λρ2 H2 e2=>h ρ2 H2<|e.trans e2
def jW{α:Type}{X:Cx}{H H':Hp}{r:R α}{P P':α->jT->Prop}(h:r.post P<|XE X ρ H)(e:Ext ρ ρ' H H')(J:∀a S,P a S->P' a S):r.post P' (XE X ρ' H'):=NP h J λ_ _ z=>z.ext e
abbrev tE (X:Cx)(c:Ex):TE:=λσ H Q=>∃ρ S τ,Rel X.K ρ H S/\SR X.K ρ H τ σ/\(c τ S).post (CI X ρ H Q) (XE X ρ H)
abbrev tT (X:Cx)(c:Te):TT:=λσ H Q=>∃ρ S τ,Rel X.K ρ H S/\SR X.K ρ H τ σ/\(c τ S).post (okB X ρ H Q) (XE X ρ H)
abbrev tL (X:Cx)(c:qQ):TA:=λσ H Q=>∃ρ S τ,Rel X.K ρ H S/\SR X.K ρ H τ σ/\(c τ S).post (okL X ρ H Q) (XE X ρ H)
abbrev AE (X:Cx)(e:aA)(c:Ex):Prop:=PE X e<|tE X c
abbrev AT (X:Cx)(e:aA)(c:Te):Prop:=PT X e<|tT X c
abbrev AW (X:Cx)(e:aA)(c:Te):Prop:=PW X e<|tT X c
abbrev AL (X:Cx)(es:List aA)(c:qQ):Prop:=PA X es<|tL X c
def PE.imp{X:Cx}{e:aA}{t t':TE}(h:PE X e t)(i:∀σ H Q,t' σ H Q->t σ H Q):PE X e t':=λpins s σ H Q I q=>h pins s σ H Q I<|i σ H Q q
def PT.imp{X:Cx}{e:aA}{t t':TT}(h:PT X e t)(i:∀σ H Q,t' σ H Q->t σ H Q):PT X e t':=λpins s σ H Q I q=>h pins s σ H Q I<|i σ H Q q
def PW.imp{X:Cx}{e:aA}{t t':TT}(h:PW X e t)(i:∀σ H Q,t' σ H Q->t σ H Q):PW X e t':=λw pins s σ H Q I q=>h w pins s σ H Q I<|i σ H Q q
def PA.imp{X:Cx}{e:List aA}{t t':TA}(h:PA X e t)(i:∀σ H Q,t' σ H Q->t σ H Q):PA X e t':=λp pins s σ H Q I q=>h p pins s σ H Q I<|i σ H Q q
def AW.at{X:Cx}{e:aA}{c:Te}(h:AW X e c):AT X e c:=h _
abbrev A.qF:A->Bool
 | .unb=>true
 | _=>false
abbrev jR (i:Nat):Ex:=λτ S=>if (τ.getD i .unb).qF then .no else .ok (τ.getD i .unb) S
abbrev eC (a:A):Ex:=λ_ S=>.ok a S
section
variable {X:Cx}{pos:Pos}{a b:aA}
def jP(i:Nat){x:Str}(U:X.N[i]?=some x<|>η)(hv:Vis X.env.scope x:=by first|exact Or.inl rfl|exact Or.inr (Or.inl rfl)|exact Or.inr<|Or.inr rfl)(hd:(x == ("__debug__" : Str))=false:=by decide)
  (J:(x == ("__classdict__" : Str))=false:=by decide):AE X (.Name x pos) (jR i):=PE.imp (UC U hv hd J) λσ H Q h9=>by
 room;unfold jR at h
 cases hi:τ[i]? with
 | none=>
  rw[aK,hi]at h;exact h.elim
 | some x=>
  rw[aK,hi]at h
  rcases r.at i x hi with z|⟨v,e,q⟩
  ·subst z;exact h.elim
  ·refine⟨v,e,?_⟩
   cases x<;>first|(exact h ρ H v .refl R q)|exact h.elim
def jY{i:Int}{j pos}:AE X (.Constant (.int i) j pos) (eC<|.int i):=PE.imp IU λσ H Q ⟨ρ,S,τ,R,r,h⟩=>h ρ H _ .refl R<|.int i
def ac8{j pos}:AE X (.Constant (.bool i) j pos) (eC<|.bl i):=PE.imp acE λσ H Q ⟨ρ,S,τ,R,r,h⟩=>h ρ H _ .refl R<|.bl i
def TN{x:Str}{i:Int}{t:Tok}(J:X.mg x=some (.int i t))(hg:Gl X x<|>η)(U:(x == ("__debug__" : Str))=false<|>δ):AE X (.Name x pos) (eC<|.int i):=
 PE.imp (Mc (v:=.int i) hg J ⟨t,rfl⟩ U) λσ H Q ⟨ρ,S,τ,R,r,h⟩=>h ρ H _ .refl R<|.int i
abbrev j6 (f:A->A->jT->R A)(ca cb:Ex):Ex:=λτ S=>(ca τ S).bind λa S1=>(cb τ S1).bind λb S2=>f a b S2
abbrev r2 (X:Cx)(f:A->A->jT->R A):R2:=λx y H Q=>∃ρ S a b,Rel X.K ρ H S/\AV X.K ρ H a x/\AV X.K ρ H b y/\(f a b S).post (CI X ρ H Q) (XE X ρ H)
abbrev r1 (X:Cx)(f:A->jT->R A):V->Hp->VK->Prop:=λx H Q=>∃ρ S a,Rel X.K ρ H S/\AV X.K ρ H a x/\(f a S).post (CI X ρ H Q) (XE X ρ H)
abbrev rN (X:Cx)(f:ae->jT->R A):List V->Hp->VK->Prop:=λxs H Q=>∃ρ S as,Rel X.K ρ H S/\AVs X.K ρ H as xs/\(f as S).post (CI X ρ H Q) (XE X ρ H)
def pR.imp{f:af->af->Sem af}{r J:R2}(h:pR X f r)(i:∀x y H Q,J x y H Q->r x y H Q):pR X f J:=λpins s σ H x y v u Q I rx ry q=>h pins s σ H x y v u Q I rx ry<|i _ _ _ _ q
def kJ.imp{f:af}{r J:List V->Hp->VK->Prop}(h:kJ X f r)(i:∀x H Q,J x H Q->r x H Q):kJ X f J:=λpins s σ H x v Q I rx q=>h pins s σ H x v Q I rx<|i _ _ _ q
def sC{f:A->A->jT->R A}{ca cb:Ex}{H:Hp}{Q:VK}(h:tE X (j6 f ca cb) σ H Q):tOp (r2 X f) (tE X ca) (tE X cb) σ H Q:=by
 obtain⟨ρ,S,τ,R,r,h⟩:=h;refine⟨ρ,S,τ,R,r,jW (j3 h) .refl λa S1 h1 ρ1 H1 x e1 R1 v1=>⟨ρ1,S1,τ,R1,r.ext e1,jW (j3 h1) e1 λb S2 h2 ρ2 H2 y e2 R2 v2=>?_⟩⟩;exact⟨ρ2,S2,a,b,R2,v1.ext e2,v2,jW h2 (e1.trans e2) λc S3 h3=>h3.ext<|e1.trans e2⟩
def kh{f:A->A->jT->R A}{ca cb:Ex}(J:pR X (binaryOp op)<|r2 X f)(U:AE X a ca)(hb:AE X b cb):AE X (.BinOp a op b pos) (j6 f ca cb):=
 PE.imp (acJ J U hb) λσ H Q h=>sC h
def S_{J:CmpOp}{f:A->A->jT->R A}{ca cb:Ex}(U:pR X (compareOp J)<|r2 X f)(ha:AE X a ca)(hb:AE X b cb)(hm:behindInMarks J b=false:=by first|exact SJ _|with_unfolding_all rfl):AE X (.Compare a [J] [b] pos) (j6 f ca cb):=
 PE.imp (VW U ha hb hm) λσ H Q h=>sC h
abbrev A.Z1:A->jT->bj
 | .non,_=>some false
 | .bl b,_=>some b
 | .int i,_=>some (i != 0)
 | .str x,_=>if x.length<=sizeLine then some ((x.length:Int) != 0)else none
 | .tup xs,_=>some (!xs.isEmpty)
 | .frz xs,_=>some (!xs.isEmpty)
 | .ref n,S=>(jU S n).map λxs=>!xs.isEmpty
 | _,_=>none
abbrev zW (c:Ex):Te:=λτ S=>(c τ S).bind λa S1=>opt (a.Z1 S1) λb=>.ok b S1
abbrev uf (c:Ex):Te:=λτ S=>(c τ S).bind λa S1=>match a with
 | .bl b=>.ok b S1
 | _=>.no
def GW{K:au}{H:Hp}{b:Bool}{v:V}(h:AV K ρ H (.bl b) v):v=.bl b:=by cases h;rfl
def lG{J:CmpOp}{f:A->A->jT->R A}{ca cb:Ex}(U:pR X (compareOp J)<|r2 X f)(ha:AE X a ca)(hb:AE X b cb)(hm:behindInMarks J b=false:=by first|exact SJ _|with_unfolding_all rfl):AT X (.Compare a [J] [b] pos) (uf<|j6 f ca cb):=
 PT.imp (Vv U ha hb hm) λσ H Q h9=>by
  room;refine sC ⟨ρ,S,τ,R,r,jW (j3 h) .refl λc S1 h1 ρ1 H1 x e1 R1 v1=>?_⟩
  cases c with
  | bl k=>cases GW v1;exact⟨k,rfl,h1 ρ1 H1 e1 R1⟩
  | _=>exact h1.elim
def aaY{K:au}{H:Hp}{x:A}{v:V}{b:Bool}(R:Rel K ρ H S)(h:AV K ρ H x v)(e:x.Z1 S=some b):aaf K v H b:=by
 have c:∀{xs:ae} {d:List V},AVs K ρ H xs d->(!xs.isEmpty)=!d.isEmpty:=λr=>by cases r<;>rfl
 cases h with
 | non=>exact(bz e).symm
 | bl b=>exact(bz e).symm
 | int i=>exact(bz e).symm
 | str x=>
  by_cases f:x.length<=sizeLine
  ·exact⟨f,by have:=(aJ f).symm.trans e;exact(bz this).symm⟩
  ·have:=(aI f).symm.trans e;cases this
 | tup h r=>exact .inr (.inl ⟨_,n_.of h,by rw[<- c r];exact(bz e).symm⟩)
 | frz h r=>exact .inl ⟨_,h.Qq,by rw[<- c r];exact(bz e).symm⟩
 | rng h=>cases e
 | ty n=>cases e
 | exn n h x=>cases e
 | ktu h r=>cases e
 | @ref a n h=>
  have e:(jU S n).map (λxs=>!xs.isEmpty)=some b:=e;obtain⟨xs,hn,e⟩:=aY.mp e;obtain⟨d,h1,h2⟩:=R.lst h<|kc hn;exact .inl ⟨d,qt.of h1,by rw[<- c h2];exact e.symm⟩
def wY{ca:Ex}(J:AE X a ca)(U:(∀whole,isTrue a X.env whole=(do let v <- whole;standAt a.pos;holding [v] (truthy v)))<|>θ):AT X a (zW ca):=
 PT.imp (Tw J U) λσ H Q ⟨ρ,S,τ,R,r,h⟩=>⟨ρ,S,τ,R,r,jW (j3 h) .refl λc S1 h1 ρ1 H1 x e1 R1 v1=>by
  obtain⟨b,d,h1⟩:=jV h1;exact⟨b,aaY R1 v1 d,h1 ρ1 H1 e1 R1⟩⟩
abbrev VN (c:Te):Te:=λτ S=>(c τ S).bind λb S1=>.ok (!b) S1
abbrev HM (c d:Te):Te:=λτ S=>(c τ S).bind λb S1=>match b with|true=>d τ S1|false=>.ok false S1
abbrev bOr (c d:Te):Te:=λτ S=>(c τ S).bind λb S1=>match b with|true=>.ok true S1|false=>d τ S1
def Sq{c:Te}(h:AT X a c):AT X (.UnaryOp .Not a pos) (VN c):=PT.imp (YO h) λσ H Q ⟨ρ,S,τ,R,r,h⟩=>⟨ρ,S,τ,R,r,jW (j3 h) .refl λb S1 h1=>h1⟩
def and_imp{c d:Te}{H:Hp}{Q:Bool->Hp->Prop}(h:tT X (HM c d) σ H Q):acF (tT X c) (tT X d) σ H Q:=by
 obtain⟨ρ,S,τ,R,r,h⟩:=h;refine⟨ρ,S,τ,R,r,jW (j3 h) .refl λb S1 h1 ρ1 H1 e1 R1=>?_⟩
 cases b with
 | true=>
  rw[aJ rfl];exact⟨ρ1,S1,τ,R1,r.ext e1,jW h1 e1 λ_ _ z=>z.ext e1⟩
 | false=>
  rw[aI bJ];exact h1 ρ1 H1 e1 R1
variable {rest:List aA}
def DZ{c:Te}(h:AT X a c):AW X (.BoolOp .And [a] pos) c:=Wc h
def Jx{c d:Te}(h:AT X a c)(h2:AW X (.BoolOp .And (b::rest) pos) d):AW X (.BoolOp .And (a::b::rest) pos) (HM c d):=PW.imp (aaD h h2) λ_ _ _ q=>and_imp q
abbrev GF (c d:Ex):Ex:=λτ S=>(c τ S).bind λa S1=>match a with | .bl true=>d τ S1 | .bl false=>.ok (.bl false) S1|_=>.no
abbrev eOr (c d:Ex):Ex:=λτ S=>(c τ S).bind λa S1=>match a with | .bl true=>.ok (.bl true) S1 | .bl false=>d τ S1|_=>.no
abbrev W5 (c:Ex):Ex:=λτ S=>(c τ S).bind λa S1=>match a with | .bl b=>.ok (.bl !b) S1|_=>.no
def B9{op}{c:Ex}(h:AE X a c):AE X (.BoolOp op [a] pos) c:=Zm h
def B4{c d:Ex}(h:AE X a c)(h2:AE X (.BoolOp .And (b::rest) pos) d):AE X (.BoolOp .And (a::b::rest) pos) (GF c d):=PE.imp (aaW h h2) λσ H Q h9=>by
 room;refine⟨ρ,S,τ,R,r,jW (j3 h) .refl λb S1 h1 ρ1 H1 x e1 R1 v1=>?_⟩
 cases b with
 | bl k=>
  cases GW v1
  refine⟨k,rfl,?_⟩
  cases k with
  | true=>
   rw[aJ rfl];exact⟨ρ1,S1,τ,R1,r.ext e1,jW h1 e1 λ_ _ z=>z.ext e1⟩
  | false=>
   rw[aI bJ];exact h1 ρ1 H1 _ e1 R1<|.bl false
 | _=>exact h1.elim
def UT{c:Ex}(h:AE X a c):AE X (.UnaryOp .Not a pos) (W5 c):=PE.imp (Zt h) λσ H Q h9=>by
 room;refine⟨ρ,S,τ,R,r,jW (j3 h) .refl λb S1 h1 ρ1 H1 x e1 R1 v1=>?_⟩
 cases b with
 | bl k=>
  cases GW v1
  exact⟨k,rfl,h1 ρ1 H1 _ e1 R1<|.bl _⟩
 | _=>exact h1.elim
abbrev eIf (t:Te)(c d:Ex):Ex:=λτ S=>(t τ S).bind λb S1=>match b with|true=>c τ S1|false=>d τ S1
abbrev j5:qQ:=λ_ S=>.ok [] S
abbrev jQ (c:Ex)(d:qQ):qQ:=λτ S=>(c τ S).bind λa S1=>(d τ S1).bind λas S2=>.ok (a::as) S2
def jZ:AL X [] j5:=PA.imp IW λσ H Q ⟨ρ,S,τ,R,r,h⟩=>h ρ H _ .refl R .nil
def jS{e:aA}{c:Ex}{d:qQ}(J:AE X e c)(U:AL X es d)(hs:starEach (e::es) X.env=(false,eval e X.env)::starEach es X.env<|>η):AL X (e::es) (jQ c d):=
 PA.imp (AK J U hs) λσ H Q h9=>by
  room;refine⟨ρ,S,τ,R,r,jW (j3 h) .refl λa S1 h1 ρ1 H1 x e1 R1 v1=>⟨ρ1,S1,τ,R1,r.ext e1,jW (j3 h1) e1 λas S2 h2 ρ2 H2 xs e2 R2 v2=>?_⟩⟩;exact h2 ρ2 H2 _ (e1.trans e2) R2<|.cons (v1.ext e2) v2
abbrev wJ (d:qQ):Ex:=λτ S=>(d τ S).bind λas S1=>gd (as.length<=sizeLine)<|.ok (.tup as) S1
abbrev newL (as:ae)(S:jT):R A:=gd (as.length<=sizeLine)<|.ok (.ref S.length)<|S++[.lst as]
abbrev uF (d:qQ):Ex:=λτ S=>(d τ S).bind λas S1=>newL as S1
def t_{H J:Hp}{Q:VK}(R:Rel X.K ρ H S)(r:AVs X.K ρ H as vs)(e:Ext ρ0 ρ J H)(h:CI X ρ0 J Q (.tup as) S):∀p,H p=none->Q (.ref p) (upd H p<|.tup vs):=λp d=>by
 obtain⟨ex,c⟩:=R.im (u:=.tup vs) d;exact h ρ _ _ (e.trans ex) c<|.tup kZ<|r.ext ex
def nB{H J:Hp}{S:jT}{Q:VK}(R:Rel X.K ρ H S)(r:AVs X.K ρ H as vs)(e:Ext ρ0 ρ J H)(h:CI X ρ0 J Q (.ref S.length)<|S++[.lst as]):∀p,H p=none->Q (.ref p) (upd H p<|.lst vs):=λp d=>by
 obtain⟨ex,c,g⟩:=R.lay d r;exact h _ _ _ (e.trans ex) c<|.ref g
def VZ{H J:Hp}{vs:List V}{Q:VK}(R:Rel X.K ρ H S)(r:AVs X.K ρ H as vs)(e:Ext ρ0 ρ J H)(h:(newL as S).post (CI X ρ0 J Q)<|XE X ρ0 J):vs.length<=sizeLine/\∀p,H p=none->Q (.ref p) (upd H p<|.lst vs):=by
 obtain⟨c,h⟩:=ko h;exact⟨by rw[<- r.length];exact c,nB R r e h⟩
def sX{d:qQ}{x1}(h:AL X es d):AE X (.Tuple es x1 pos) (wJ d):=PE.imp (aaJ h) λσ H Q h9=>by
 room;refine⟨ρ,S,τ,R,r,jW (j3 h) .refl λas S1 h1 ρ1 H1 xs e1 R1 v1=>?_⟩;obtain⟨c,h1⟩:=ko h1;exact⟨by rw[<- v1.length];exact c,t_ R1 v1 e1 h1⟩
def nZ{d:qQ}(h:AL X es d):AE X (.List es pos) (uF d):=PE.imp (Zh h) λσ H Q ⟨ρ,S,τ,R,r,h⟩=>
 ⟨ρ,S,τ,R,r,jW (j3 h) .refl λas S1 h1 ρ1 H1 xs e1 R1 v1=>VZ R1 v1 e1 h1⟩
end
section
variable {X:Cx}{pos:Pos}{a b:aA}
abbrev aSub (a b:A)(S:jT):R A:=match a,b with
 | .int i,.int j=>.ok (.int<|i-j) S
 | _,_=>.no
def u5:pR X (binaryOp .Sub) (r2 X aSub):=pR.imp aa0 λx y H Q h9=>by
 z_go
 cases va<;>first|exact h.elim|(cases vb<;>first|exact h.elim|exact⟨_,_,rfl,rfl,h _ _ _ .refl R<|.int _⟩)
abbrev GO (i j:Int):Bool:=(decide (-(2 ^ 64)<i) && decide (i<2 ^ 64)) || (decide (-(2 ^ 64)<j) && decide (j<2 ^ 64))
def mulOk_of{i j:Int}(h:GO i j=true):Vs i j:=by
 unfold GO at h;dsimp[Bool.or_eq_true,b_,decide_eq_true_eq]at h;exact h
abbrev Cy (a b:A)(S:jT):R A:=match a,b with
 | .int i,.int j=>gd (GO i j) (.ok (.int<|i * j) S)
 | .ref n,.int k=>opt (jU S n) λxs=>gd (-(2 ^ 63)<=k/\k<2 ^ 63/\xs.length * k.toNat<=sizeLine) (.ok (.ref S.length)<|S++[.lst (List.replicate k.toNat xs).flatten])
 | _,_=>.no
theorem AVs.rep{K:au}{H:Hp}(r:AVs K ρ H xs vs):∀k:Nat,AVs K ρ H (List.replicate k xs).flatten (List.replicate k vs).flatten
 | 0=>.nil
 | k+1=>by rw[dZ,dZ,fq,fq];exact r.append<|AVs.rep r k
def Gw:pR X (binaryOp .Mult) (r2 X Cy):=λpins s σ H x y v u Q I rx ry h9=>by
 z_go
 cases va with
 | int i=>
  cases vb with
  | int j=>
   obtain⟨e,h⟩:=ko h;exact ZP pins s σ H _ _ v u Q I rx ry ⟨i,j,rfl,rfl,mulOk_of e,h _ _ _ .refl R<|.int _⟩
  | _=>exact h.elim
 | @ref p n d=>
  cases vb with
  | int k=>
   gn_on;obtain⟨hc,h⟩:=ko h;obtain⟨c,h1,h2⟩:=R.lst d<|kc hn;exact Y6 pins s σ H _ _ v u Q I rx ry ⟨p,k,c,rfl,rfl,h1,hc.1,hc.2.1,by rw[<- h2.length];exact hc.2.2,nB R (h2.rep _) .refl h⟩
  | _=>exact h.elim
 | _=>exact h.elim
abbrev Mj (a b:A)(S:jT):R A:=match a,b with
 | .int i,.int j=>gd (0<j/\j<18446744073709551616) (.ok (.int<|i / j) S)
 | _,_=>.no
def RZ:pR X (binaryOp .FloorDiv) (r2 X Mj):=pR.imp SK λx y H Q h9=>by
 z_go
 cases va<;>first|exact h.elim|(cases vb<;>first|exact h.elim|exact⟨_,_,rfl,rfl,(ko h).1,(ko h).2 _ _ _ .refl R<|.int _⟩)
abbrev EV (a b:A)(S:jT):R A:=match a,b with
 | .int i,.int j=>gd (0<j) (.ok (.int<|i % j) S)
 | _,_=>.no
def DF:pR X (binaryOp .Mod) (r2 X EV):=pR.imp YX λx y H Q h9=>by
 z_go
 cases va<;>first|exact h.elim|(cases vb<;>first|exact h.elim|exact⟨_,_,rfl,rfl,(ko h).1,(ko h).2 _ _ _ .refl R<|.int _⟩)
abbrev Zy (a b:A)(S:jT):R A:=match a,b with
 | .int i,.int j=>gd (0<=j/\j<=1000000/\i.natAbs<2 ^ 64) (.ok (.int<|i ^ j.toNat) S)
 | _,_=>.no
def ac_:pR X (binaryOp .Pow) (r2 X Zy):=pR.imp ZZ λx y H Q h9=>by
 z_go
 cases va<;>first|exact h.elim|(cases vb<;>first|exact h.elim|exact⟨_,_,rfl,rfl,(ko h).1,(ko h).2 _ _ _ .refl R<|.int _⟩)
abbrev mF (a b:A)(S:jT):R A:=match a,b with
 | .int i,.int j=>.ok (.int<|i+j) S
 | .tup xs,.tup ys=>gd (xs.length+ys.length<=sizeLine) (.ok (.tup<|xs++ys) S)
 | .str x,.str y=>gd (x.length+y.length<=sizeLine) (.ok (.str<|x++y) S)
 | .ref n,.ref m=>opt (jU S n) λxs=>opt (jU S m) λys=>gd (xs.length+ys.length<=sizeLine) (.ok (.ref S.length)<|S++[.lst<|xs++ys])
 | _,_=>.no
def AVs.nil_inv{K:au}{H:Hp}(r:AVs K ρ H xs vs):xs=[] ↔ vs=[]:=by cases r<;>simp
def m8:pR X (binaryOp .Add) (r2 X mF):=λpins s σ H x y v u Q I rx ry h9=>by
 z_go
 cases va with
 | int i=>
  cases vb with
  | int j=>exact aab pins s σ H _ _ v u Q I rx ry ⟨i,j,rfl,rfl,h _ _ _ .refl R<|.int _⟩
  | _=>exact h.elim
 | str x=>
  cases vb with
  | str y=>
   obtain⟨hc,h⟩:=ko h;exact JO pins s σ H _ _ v u Q I rx ry ⟨x,y,rfl,rfl,hc,h _ _ _ .refl R<|.str _⟩
  | _=>exact h.elim
 | @tup p xs c h1 r1=>
  cases vb with
  | @tup q ys d h2 r2=>
   obtain⟨hc,h⟩:=ko h;by_cases hv:c=[]
   ·have F:=r1.nil_inv.mpr hv;subst hv F;exact Qf pins s σ H _ _ v u Q I rx ry ⟨p,q,d,rfl,rfl,n_.of h1,n_.of h2,h _ _ _ .refl R<|.tup h2 r2⟩
   ·refine Ve pins s σ H _ _ v u Q I rx ry ⟨p,q,c,d,rfl,rfl,n_.of h1,n_.of h2,hv,by rw[<- r1.length,<- r2.length];exact hc,λe=>?_,λ_=>t_ R (r1.append r2) .refl h⟩;have C:=r2.nil_inv.mpr e;subst C;rw[cI]at h;exact h _ _ _ .refl R<|.tup h1 r1
  | _=>exact h.elim
 | @ref p n g=>
  cases vb with
  | @ref q m B=>
   gn_on;obtain⟨ys,k,h⟩:=jV h;obtain⟨hc,h⟩:=ko h;obtain⟨c,h1,h2⟩:=R.lst g<|kc hn;obtain⟨d,h3,f⟩:=R.lst B<|kc k;exact aa7 pins s σ H _ _ v u Q I rx ry ⟨p,q,c,d,rfl,rfl,h1,h3,by rw[<- h2.length,<- f.length];exact hc,nB R (h2.append f) .refl h⟩
  | _=>exact h.elim
 | _=>exact h.elim
abbrev A.ints:ae->Option (ag)
 | []=>some []
 | .int i::xs=>(A.ints xs).map (i::·)
 | _=>none
def ZG{x:A}{bs:ag}(e:A.ints (x::xs)=some bs):∃b cs,x=.int b/\A.ints xs=some cs/\bs=b::cs:=by
 unfold A.ints at e;split at e
 ·rename_i z;cases z
 ·rename_i i ys z
  cases z
  obtain⟨cs,h1,h2⟩:=aY.mp e;exact⟨i,cs,rfl,h1,h2.symm⟩
 ·cases e
def wC{K:au}{H:Hp}:∀{xs:ae}{vs:List V}{bs:ag},AVs K ρ H xs vs->A.ints xs=some bs->vs=bs.map V.int:=by
 intro xs
 induction xs with
 | nil=>
  intro vs bs h e
  cases h
  cases e
  rfl
 | cons x xs c=>
  intro vs bs h e;obtain⟨b,d,rfl,e1,rfl⟩:=ZG e
  cases h with
  | cons h t=>
   cases h
   rw[c t e1];rfl
abbrev aLt (a b:A)(S:jT):R A:=match a,b with
 | .int i,.int j=>.ok (.bl<|decide<|i<j) S
 | _,_=>.no
def VL(J:X.A.units+64<cLine):pR X (compareOp .Lt) (r2 X aLt):=λpins s σ H x y v u Q I rx ry h9=>by
 z_go
 cases va with
 | int i=>
  cases vb with
  | int j=>exact ach pins s σ H _ _ v u Q I rx ry ⟨i,j,rfl,rfl,h _ _ _ .refl R<|.bl _⟩
  | _=>exact h.elim
 | _=>exact h.elim
abbrev aLe (a b:A)(S:jT):R A:=match a,b with
 | .int i,.int j=>.ok (.bl<|decide<|i<=j) S
 | _,_=>.no
def ad1:pR X (compareOp .LtE) (r2 X aLe):=pR.imp ab5 λx y H Q h9=>by
 z_go
 cases va<;>first|exact h.elim|(cases vb<;>first|exact h.elim|exact⟨_,_,rfl,rfl,h _ _ _ .refl R<|.bl _⟩)
abbrev Ib (a b:A)(S:jT):R A:=match a,b with
 | .int i,.int j=>.ok (.bl<|decide<|j<i) S
 | _,_=>.no
def DM(J:X.A.units+64<cLine):pR X (compareOp .Gt) (r2 X Ib):=λpins s σ H x y v u Q I rx ry h9=>by
 z_go
 cases va with
 | int i=>
  cases vb with
  | int j=>exact ac7 pins s σ H _ _ v u Q I rx ry ⟨i,j,rfl,rfl,h _ _ _ .refl R<|.bl _⟩
  | _=>exact h.elim
 | _=>exact h.elim
abbrev aGe (a b:A)(S:jT):R A:=match a,b with
 | .int i,.int j=>.ok (.bl<|decide<|j<=i) S
 | _,_=>.no
abbrev Xj (J:Bool)(a b:A)(S:jT):R A:=match a,b with
 | .bl i,.bl j=>.ok (.bl<|if J then i != j else i == j) S
 | .non,.non=>.ok (.bl<|!J) S
 | .unb,.non=>.no
 | .exn _,.non=>.no
 | _,.non=>.ok (.bl J) S
 | _,_=>.no
abbrev Pc (f:A->jT->R A)(c:Ex):Ex:=λτ S=>(c τ S).bind λa S1=>f a S1
abbrev Cv (a:A)(S:jT):R A:=match a with
 | .int i=>.ok (.int<|-i) S
 | _=>.no
def ab8:UnR X (unaryOp .USub) (r1 X Cv):=λpins s σ H x v Q I rx h9=>by
 obtain⟨ρ,S,a,R,va,h⟩:=h9
 cases va with
 | int i=>exact Jw pins s σ H _ v Q I rx ⟨i,rfl,h _ _ _ .refl R<|.int _⟩
 | _=>exact h.elim
def aal{f:A->jT->R A}{c:Ex}{H:Hp}{Q:VK}(h:tE X (Pc f c) σ H Q):tUn (r1 X f) (tE X c) σ H Q:=by
 obtain⟨ρ,S,τ,R,r,h⟩:=h;exact⟨ρ,S,τ,R,r,jW (j3 h) .refl λa S1 h1 ρ1 H1 x e1 R1 v1=>⟨ρ1,S1,a,R1,v1,jW h1 e1 λc S3 h3=>h3.ext e1⟩⟩
def A3{c:Ex}(h:AE X a c):AE X (.UnaryOp .USub a pos) (Pc Cv c):=PE.imp (QK ab8 h) λ_ _ _ q=>aal q
abbrev tu (a b:A)(S:jT):R A:=match a,b with
 | .tup xs,.int i=>opt (sQ xs i) λx=>.ok x S
 | .frz xs,.int i=>opt (sQ xs i) λx=>.ok x S
 | .ref n,.int i=>opt (jU S n) λxs=>opt (sQ xs i) λx=>.ok x S
 | .str z,.int i=>gd (z.length<=sizeLine) (opt (sQ z.cps.toList i) λc=>.ok (.str ⟨#[c]⟩) S)
 | _,_=>.no
def AVs.sQ{K:au}{H:Hp}{i:Int}{x:A}(r:AVs K ρ H xs vs)(h:L2.sQ xs i=some x):∃v,L2.sQ vs i=some v/\AV K ρ H x v:=by
 unfold L2.sQ at h ⊢;rw[<- r.length]
 cases c:FY xs.length i with
 | none=>rw[c]at h;cases h
 | some j=>
  rw[c]at h;exact r.get h
def aci:UY X (r2 X tu):=λf d pins s σ H x y v u Q I rx ry ⟨ρ,S,a,b,R,va,vb,h⟩ hs=>by
 cases va with
 | @tup p xs g h1 r1=>
  cases vb with
  | int i=>
   obtain⟨x,j,h⟩:=jV h;obtain⟨z,e,q⟩:=r1.sQ j;exact aak f d pins s σ H _ _ v u Q I rx ry ⟨p,g,i,z,rfl,rfl,n_.of h1,e,h _ _ _ .refl R q⟩ hs
  | _=>exact h.elim
 | @frz p xs g h1 r1=>
  cases vb with
  | int i=>
   obtain⟨x,j,h⟩:=jV h;obtain⟨z,e,q⟩:=r1.sQ j;exact Ko f d pins s σ H _ _ v u Q I rx ry ⟨p,g,i,z,rfl,rfl,h1.Qq,e,h _ _ _ .refl R q⟩ hs
  | _=>exact h.elim
 | @ref p n k=>
  cases vb with
  | int i=>
   gn_on;obtain⟨x,j,h⟩:=jV h;obtain⟨g,h1,r1⟩:=R.lst k<|kc hn;obtain⟨z,e,q⟩:=r1.sQ j;exact Ko f d pins s σ H _ _ v u Q I rx ry ⟨p,g,i,z,rfl,rfl,qt.of h1,e,h _ _ _ .refl R q⟩ hs
  | _=>exact h.elim
 | str z=>
  cases vb with
  | int i=>
   obtain⟨m,h⟩:=ko h;obtain⟨c,hc,h⟩:=jV h;exact aau f d pins s σ H _ _ v u Q I rx ry ⟨z,i,c,rfl,rfl,m,hc,h _ _ _ .refl R<|.str _⟩ hs
  | _=>exact h.elim
 | _=>exact h.elim
def mJ{ca cb:Ex}(J:AE X a ca)(U:AE X b cb)(hs:wj b<|>μ):AE X (.Subscript a b pos) (j6 tu ca cb):=PE.imp (G7 aci J U hs) λσ H Q h=>sC h
end
abbrev abZ (f:A->A->bj)(xs ys:ae):bj:=match ys with
 | []=>some xs.isEmpty
 | _=>none
abbrev Xg (S:jT):Nat->A->A->bj
 | _,.int i,.int j=>some (i == j)
 | _,.bl i,.bl j=>some (i == j)
 | _,.ref n,.ref m=>(jU S n).bind λxs=>(jU S m).bind λys=>abZ (λ_ _=>none) xs ys
 | _,_,_=>none
def JB{a b:A}{k:Bool}(e:Xg S 12 a b=some k):(∃i j,a=.int i/\b=.int j/\k=(i == j))\/(∃i j,a=.bl i/\b=.bl j/\k=(i == j))\/∃n m xs,a=.ref n/\b=.ref m/\jU S n=some xs/\jU S m=some []/\k=xs.isEmpty:=by
 unfold Xg at e;split at e
 ·cases e;exact .inl ⟨_,_,rfl,rfl,rfl⟩
 ·cases e;exact .inr (.inl ⟨_,_,rfl,rfl,rfl⟩)
 ·obtain⟨xs,h1,e⟩:=dX.mp e;obtain⟨ys,h2,e⟩:=dX.mp e
  cases ys with
  | nil=>cases e;exact .inr (.inr ⟨_,_,xs,rfl,rfl,h1,h2,rfl⟩)
  | cons=>cases e
 ·cases e
section
variable {X:Cx}
abbrev yN (J:Bool)(a b:A)(S:jT):R A:=opt (Xg S 12 a b) λk=>.ok (.bl<|if J then !k else k) S
def Uk{H:Hp}{s:az}{n:Nat}{xs:ae}{x:V}{v:af}(I:Inv X pins σ H s)(R:Rel X.K ρ H S)(va:AV X.K ρ H (.ref n) x)(vb:AV X.K ρ H (.ref m) y)(rx:RelV x v)(ry:RelV y u)(h:jU S n=some xs)(h':jU S m=some []) :
  ∃p q us,v=.ref p/\u=.ref q/\s.heap.IsList p us/\s.heap.IsList q #[]/\us.size=xs.length:=by
 cases va with
 | ref g=>cases vb with
  | ref c=>
   obtain⟨j,h1,r⟩:=R.lst g<|kc h;obtain⟨f,h2,d⟩:=R.lst c (kc h')
   cases d
   cases rx
   cases ry
   obtain⟨us,r1,p1,_⟩:=I.list<|.inl<|.inl h1;obtain⟨e,r2,p2,_⟩:=I.list (.inl<|.inl h2)
   cases r2
   exact⟨_,_,us.toArray,rfl,rfl,p1.isList,p2.isList,by rw[aZ,<- r1.length,<- r.length]⟩
def YF(J:X.A.units+64<cLine):pR X (compareOp .Eq) (r2 X<|yN false):=λpins s σ H x y v u Q I rx ry h9=>by
 z_go;obtain⟨k,e,h⟩:=jV h;have h:=h _ _ _ .refl R (.bl _)
 rcases JB e with⟨i,j,rfl,rfl,rfl⟩|⟨i,j,rfl,rfl,rfl⟩|⟨n,m,xs,rfl,rfl,d,f,rfl⟩
 ·cases va;cases vb;kst_p;obtain⟨B,rfl⟩:=ry;exact eq_int ⟨.bl _,H,I,rfl,h⟩
 ·cases va;cases vb;cases rx;cases ry;exact eq_bool ⟨.bl _,H,I,rfl,h⟩
 ·obtain⟨p,q,us,rfl,rfl,p1,p2,c⟩:=Uk I R va vb rx ry d f
  cases xs with
  | nil=>exact SeqAt.eq_listAt p1 p2 c (by omega) (e:=λ_=>true) (λj g=>absurd g<|by rw[c];exact d8 _) (by rw[c];exact⟨.bl _,H,I,rfl,h⟩)
  | cons z zs=>exact SeqAt.eq_list_lengthsAt p1 p2 (by rw[c];simp) (by omega) ⟨.bl _,H,I,rfl,h⟩
def J2(J:X.A.units+64<cLine):pR X (compareOp .NotEq) (r2 X<|yN true):=λpins s σ H x y v u Q I rx ry h9=>by
 z_go;obtain⟨k,e,h⟩:=jV h;have h:=h _ _ _ .refl R (.bl _)
 rcases JB e with⟨i,j,rfl,rfl,rfl⟩|⟨i,j,rfl,rfl,rfl⟩|⟨n,m,xs,rfl,rfl,d,f,rfl⟩
 ·cases va;cases vb;kst_p;obtain⟨B,rfl⟩:=ry;exact ne_int ⟨.bl _,H,I,rfl,h⟩
 ·cases va;cases vb;cases rx;cases ry;exact ne_bool ⟨.bl _,H,I,rfl,h⟩
 ·obtain⟨p,q,us,rfl,rfl,p1,p2,c⟩:=Uk I R va vb rx ry d f
  cases xs with
  | nil=>exact SeqAt.RcNeAt.lists p1 p2 c (by omega) (e:=λ_=>true) (λj g=>absurd g<|by rw[c];exact d8 _) _ _ _ _ (by rw[c];exact⟨.bl _,H,I,rfl,h⟩)
  | cons z zs=>exact SeqAt.RcNeAt.lists_lengths p1 p2 (by rw[c];simp) (by omega) _ _ _ _ ⟨.bl _,H,I,rfl,h⟩
end
section
variable {X:Cx}{pos:Pos}{a b:aA}
meta abbrev Pt:=ae->jT->R (bi)
abbrev LM:Pt:=λ_ S=>.ok none S
abbrev LP (c:Ex):Pt:=λτ S=>(c τ S).bind λa S1=>match a with
 | .int i=>.ok (some i) S1
 | _=>.no
abbrev tO (X:Cx)(c:Pt):TO:=λσ H Q=>∃ρ S τ,Rel X.K ρ H S/\SR X.K ρ H τ σ/\(c τ S).post (λo d=>∀ρ' H',Ext ρ ρ' H H'->Rel X.K ρ' H' d->Q o H') (XE X ρ H)
abbrev AO (X:Cx)(e:Option aA)(c:Pt):Prop:=PO X e<|tO X c
def Ll:AO X none LM:=λpins s σ H Q I ⟨ρ,S,τ,R,r,h⟩=>WE pins s σ H Q I<|h ρ H .refl R
def MS{c:Ex}(J:AE X a c):AO X (some a) (LP c):=λpins s σ H Q I ⟨ρ,S,τ,R,r,h⟩=>W0 J pins s σ H Q I ⟨ρ,S,τ,R,r,jW (j3 h) .refl λx S1 h1 ρ1 H1 v e1 R1 v1=>by
 cases v1<;>first|exact h1.elim|exact⟨_,rfl,h1 ρ1 H1 e1 R1⟩⟩
abbrev BG (xs:ae)(lo hi:bi):ae:=(xs.drop<|HT.oY xs.length 0 lo).take<|HT.oY xs.length xs.length hi-HT.oY xs.length 0 lo
def AVs.cut{K:au}{H:Hp}(r:AVs K ρ H xs vs)(lo hi:bi):AVs K ρ H (BG xs lo hi) (HP vs lo hi):=by
 unfold BG HP;rw[r.length];exact(r.drop _).take _
abbrev Tf (a:A)(lo hi:bi)(S:jT):R A:=match a with
 | .ref n=>opt (jU S n) λxs=>.ok (.ref S.length) (S++[.lst<|BG xs lo hi])
 | .frz xs=>.ok (.ref S.length) (S++[.lst<|BG xs lo hi])
 | .tup xs=>gd (¬(HT.oY xs.length 0 lo=0/\HT.oY xs.length xs.length hi=xs.length)) (.ok (.tup<|BG xs lo hi) S)
 | _=>.no
abbrev eSl (c:Ex)(lo hi:Pt):Ex:=λτ S=>(c τ S).bind λa S1=>(lo τ S1).bind λl S2=>(hi τ S2).bind λu S3=>Tf a l u S3
abbrev rS (X:Cx):V->bi->bi->Hp->VK->Prop:=λx lo hi H Q=>∃ρ S a,Rel X.K ρ H S/\AV X.K ρ H a x/\(Tf a lo hi S).post (CI X ρ H Q) (XE X ρ H)
def aaI:SlR X (rS X):=λpins s σ H x v f e lo hi g Q I rx hs pl d h9=>by
 obtain⟨ρ,S,a,R,va,h⟩:=h9
 cases va with
 | @tup p xs c h1 r1=>
  obtain⟨hc,h⟩:=ko h;exact YV pins s σ H _ v f e lo hi g Q I rx hs pl d ⟨p,c,rfl,(n_.of h1),by rw[<- r1.length];exact hc,t_ R (r1.cut lo hi) .refl h⟩
 | @frz p xs c h1 r1=>exact LV pins s σ H _ v f e lo hi g Q I rx hs pl d ⟨p,c,rfl,h1.Qq,nB R (r1.cut lo hi) .refl h⟩
 | @ref p n j=>
  gn_on;obtain⟨c,h1,r1⟩:=R.lst j<|kc hn;exact LV pins s σ H _ v f e lo hi g Q I rx hs pl d ⟨p,c,rfl,qt.of h1,nB R (r1.cut lo hi) .refl h⟩
 | _=>exact h.elim
def XU{e:aA}{lo hi:Option aA}{c:Ex}{cl ch:Pt}(J:AE X e c)(U:AO X lo cl)(hh:AO X hi ch):AE X (.Subscript e (.Slice lo hi none p2) pos) (eSl c cl ch):=PE.imp (Sh aaI J U hh) λσ H Q h9=>by
 room;refine⟨ρ,S,τ,R,r,jW (j3 h) .refl λa S1 h1 ρ1 H1 x e1 R1 v1=>⟨ρ1,S1,τ,R1,r.ext e1,jW (j3 h1) e1 λl S2 h2 ρ2 H2 e2 R2=>⟨ρ2,S2,τ,R2,r.ext<|e1.trans e2,jW (j3 h2) (e1.trans e2) λu S3 h3 ρ3 H3 e3 R3=>?_⟩⟩⟩;exact⟨ρ3,S3,a,R3,v1.ext<|e2.trans e3,jW h3 (e1.trans<|e2.trans e3) λ_ _ z=>z.ext<|e1.trans<|e2.trans e3⟩
abbrev NC (a:A)(S:jT):R A:=match a with
 | .ref n=>opt (jU S n) λxs=>.ok (.ref S.length) (S++[.lst xs.reverse])
 | .tup xs=>.ok (.tup xs.reverse) S
 | _=>.no
def ZC{e:aA}{U cp:Pos}{kk:Nat}{c:Ex}(J:AE X e c):AE X (.Subscript e (.Slice none none (some<|.UnaryOp .USub (.Constant (.int 1) kk cp) U) p2) pos) (Pc NC c):=λpins s σ H Q I h9=>by
 room;have d:=j3 h
 cases hc:c τ S with
 | no=>rw[hc]at d;exact d.elim
 | ex x S1=>
  rw[hc]at d;exact Li J pins s σ H Q I ⟨ρ,S,τ,R,r,by rw[hc];exact d⟩
 | ok a S1=>
  rw[hc]at d;have d:(NC a S1).post (CI X ρ H Q) (XE X ρ H):=d
  cases a with
  | tup xs=>
   refine Li J pins s σ H Q I ⟨ρ,S,τ,R,r,?_⟩;rw[hc];intro ρ1 H1 x e1 R1 v1
   cases v1 with
   | tup h1 r1=>exact⟨_,_,rfl,(n_.of h1),t_ R1 r1.reverse e1 d⟩
  | ref n=>
   refine WS J pins s σ H Q I ⟨ρ,S,τ,R,r,?_⟩;rw[hc];intro ρ1 H1 x e1 R1 v1;obtain⟨xs,hn,h⟩:=jV d
   cases v1 with
   | ref f=>
    obtain⟨g,h1,r1⟩:=R1.lst f<|kc hn;exact⟨_,_,rfl,qt.of h1,nB R1 r1.reverse e1 h⟩
  | _=>exact d.elim
abbrev kG (f:ae->jT->R A)(d:qQ):Ex:=λτ S=>(d τ S).bind λas S1=>f as S1
def GK{f:ae->jT->R A}{d:qQ}{H:Hp}{Q:VK}(h:tE X (kG f d) σ H Q):tCB (rN X f) (tL X d) σ H Q:=by
 obtain⟨ρ,S,τ,R,r,h⟩:=h;exact⟨ρ,S,τ,R,r,jW (j3 h) .refl λas S1 h1 ρ1 H1 c e1 R1 v1=>⟨ρ1,S1,as,R1,v1,jW h1 e1 λ_ _ z=>z.ext e1⟩⟩
variable {x:Str}{p:Pos}{e:aA}{es:List aA}{id T:String}{f:ae->jT->R A}{d:qQ}
def kW(hc:kJ X (.builtin id)<|rN X f)(hm:X.mg x=none)(hv:bootBuiltins x=some (.builtin id))(ha:AL X (e::es) d)(hg:Gl X x<|>η)(hn:x ≠ "__name__"<|>δ)(J:(x == ("__debug__" : Str))=false<|>δ)
  (he:starEach (e::es) X.env=(false,eval e X.env)::starEach es X.env<|>η) (U:((backTo pos<|starEach es X.env).any (·.1)=false)<|>η):AE X (.Call (.Name x p) (e::es) [] pos) (kG f d):=
 PE.imp (O9 hc hg hm hv ha hn J he U) λ_ _ _ h=>GK h
def mD(hc:kJ X (.type T)<|rN X f)(hm:X.mg x=none)(hv:bootBuiltins x=some (.type T))(ha:AL X (e::es) d)(hg:Gl X x<|>η)(hn:x ≠ "__name__"<|>δ)(J:(x == ("__debug__" : Str))=false<|>δ)
  (he:starEach (e::es) X.env=(false,eval e X.env)::starEach es X.env<|>η) (U:((backTo pos<|starEach es X.env).any (·.1)=false)<|>η):AE X (.Call (.Name x p) (e::es) [] pos) (kG f d):=
 PE.imp (OH hc hg hm hv ha hn J he U) λ_ _ _ h=>GK h
def L_(U:X.mg x=none)(hv:bootBuiltins x=some (.type T))(hg:Gl X x<|>η)(hn:x ≠ "__name__"<|>δ)(J:(x == ("__debug__" : Str))=false<|>δ):AE X (.Name x pos) (eC<|.ty T):=
 PE.imp (VI (v:=.ty T) hg U hv rfl hn J) λσ H Q ⟨ρ,S,τ,R,r,h⟩=>h ρ H _ .refl R<|.ty T
abbrev A.seq (S:jT):A->Option (ae)
 | .tup xs=>some xs
 | .frz xs=>some xs
 | .ref n=>jU S n
 | _=>none
def Ig{K:au}{H:Hp}{x:A}{v:V}(R:Rel K ρ H S)(h:AV K ρ H x v)(e:x.seq S=some xs):∃p vs,v=.ref p/\(qt K H p vs\/n_ K H p vs)/\AVs K ρ H xs vs:=by
 cases h with
 | tup h r=>cases bz e;exact⟨_,_,rfl,.inr<|n_.of h,r⟩
 | frz h r=>cases bz e;exact⟨_,_,rfl,.inl h.Qq,r⟩
 | ref h=>
  obtain⟨vs,h1,r1⟩:=R.lst h<|kc e;exact⟨_,vs,rfl,.inl<|qt.of h1,r1⟩
 | _=>cases e
def Ow{K:au}{H:Hp}{x:A}(h:AVs K ρ H [x] vs):∃v,vs=[v]/\AV K ρ H x v:=by
 cases h with
 | cons h t=>cases t;exact⟨_,rfl,h⟩
def UJ{K:au}{H:Hp}{x:A}(h:AVs K ρ H [x,y] vs):∃v w,vs=[v,w]/\AV K ρ H x v/\AV K ρ H y w:=by
 cases h with
 | cons h t=>obtain⟨w,rfl,h'⟩:=Ow t;exact⟨_,_,rfl,h,h'⟩
abbrev f1 (g:A->jT->R A):ae->jT->R A:=λas S=>match as with
 | [x]=>g x S
 | _=>.no
abbrev f2 (g:A->A->jT->R A):ae->jT->R A:=λas S=>match as with
 | [x,y]=>g x y S
 | _=>.no
def VB{g:A->jT->R A}{P:A->jT->Prop}{E:Str->jT->Prop}(h:(f1 g as S).post P E):∃x,as=[x]/\(g x S).post P E:=by
 match as,h with
 | [],h=>exact h.elim
 | [x],h=>exact⟨x,rfl,h⟩
 | _::_::_,h=>exact h.elim
def Wv{g:A->A->jT->R A}{P:A->jT->Prop}{E:Str->jT->Prop}(h:(f2 g as S).post P E):∃x y,as=[x,y]/\(g x y S).post P E:=by
 match as,h with
 | [],h=>exact h.elim
 | [_],h=>exact h.elim
 | [x,y],h=>exact⟨x,y,rfl,h⟩
 | _::_::_::_,h=>exact h.elim
def Ot{g:A->jT->R A}{H:Hp}{Q:VK}(h:rN X (f1 g) vs H Q):∃v,vs=[v]/\∃ρ S x,Rel X.K ρ H S/\AV X.K ρ H x v/\(g x S).post (CI X ρ H Q) (XE X ρ H):=by
 obtain⟨ρ,S,as,R,v,h⟩:=h;obtain⟨x,rfl,h⟩:=VB h;obtain⟨w,rfl,hv⟩:=Ow v;exact⟨w,rfl,ρ,S,x,R,hv,h⟩
def rn2{g:A->A->jT->R A}{H:Hp}{Q:VK}(h:rN X (f2 g) vs H Q):∃v w,vs=[v,w]/\∃ρ S x y,Rel X.K ρ H S/\AV X.K ρ H x v/\AV X.K ρ H y w/\(g x y S).post (CI X ρ H Q) (XE X ρ H):=by
 obtain⟨ρ,S,as,R,v,h⟩:=h;obtain⟨x,y,rfl,h⟩:=Wv h;obtain⟨w,d,rfl,hv,c⟩:=UJ v;exact⟨w,d,rfl,ρ,S,x,y,R,hv,c,h⟩
abbrev q_ (x:A)(S:jT):R A:=match x with
 | .str x=>gd (x.length<=sizeLine) (.ok (.int x.length) S)
 | .tup xs=>.ok (.int xs.length) S
 | .frz xs=>.ok (.int xs.length) S
 | .ref n=>opt (jU S n) λxs=>.ok (.int xs.length) S
 | _=>.no
def tM:kJ X (.builtin "len") (rN X<|f1 q_):=kJ.imp O2 λe H Q h0=>by
 kt_k;clear h0
 cases hv with
 | str z=>
  obtain⟨c,h⟩:=ko h;exact⟨_,_,rfl,⟨c,rfl⟩,h _ _ _ .refl R<|.int _⟩
 | @tup p xs us h1 r=>exact⟨_,us.length,rfl,.inr ⟨us,(n_.of h1),rfl⟩,by rw[<- r.length];exact h _ _ _ .refl R<|.int _⟩
 | @frz p xs us h1 r=>exact⟨_,us.length,rfl,.inl ⟨us,h1.Qq,rfl⟩,by rw[<- r.length];exact h _ _ _ .refl R<|.int _⟩
 | ref d=>
  gn_on;obtain⟨us,h1,r⟩:=R.lst d<|kc hn;exact⟨_,us.length,rfl,.inl ⟨us,qt.of h1,rfl⟩,by rw[<- r.length];exact h _ _ _ .refl R<|.int _⟩
 | _=>exact h.elim
abbrev YK (x:A)(S:jT):R A:=match x with
 | .int i=>.ok (.int<|if i<0 then -i else i) S
 | _=>.no
def ab9:kJ X (.builtin "abs") (rN X<|f1 YK):=kJ.imp Q3 λc H Q h0=>by
 kt_k;clear h0
 cases hv<;>first|exact h.elim|exact⟨_,rfl,h _ _ _ .refl R<|.int _⟩
abbrev abP (x y:A)(S:jT):R A:=match x,y with
 | .int i,.int j=>.ok (.int<|if j>i then j else i) S
 | _,_=>.no
abbrev acw (x y:A)(S:jT):R A:=match x,y with
 | .int i,.int j=>.ok (.int<|if j<i then j else i) S
 | _,_=>.no
abbrev Gr (x:A)(S:jT):R A:=match x with
 | .int i=>.ok (.int i) S
 | .bl k=>.ok (.int<|if k then 1 else 0) S
 | .str y=>opt (PySem.intText? y) λn=>gd (y.length<=640) (.ok (.int n) S)
 | _=>.no
def aa2:kJ X (.type "int") (rN X<|f1 Gr):=λpins s σ H xs us Q I c h0=>by
 kt_k;clear h0
 cases hv with
 | int i=>exact CT pins s σ H _ us Q I c (.inl ⟨i,rfl,h _ _ _ .refl R<|.int _⟩)
 | bl k=>exact CT pins s σ H _ us Q I c (.inr ⟨k,rfl,h _ _ _ .refl R<|.int _⟩)
 | str y=>
  obtain⟨n,hn,h⟩:=jV h;obtain⟨d,h⟩:=ko h;exact N_ pins s σ H _ us Q I c ⟨y,n,rfl,d,hn,h _ _ _ .refl R<|.int _⟩
 | _=>exact h.elim
abbrev Ax (x y:A)(S:jT):R A:=match x,y with
 | .int i,.int j=>.ok (.rng i j) S
 | _,_=>.no
def GX:kJ X (.type "range") (rN X<|f2 Ax):=kJ.imp Fv λf H Q h0=>by
 obtain⟨w,g,rfl,ρ,S,x,y,R,hv,c,h⟩:=rn2 h0;clear h0
 cases hv with
 | int i=>
  cases c with
  | int j=>
   refine⟨i,j,rfl,λp e=>?_⟩;obtain⟨ex,d⟩:=R.im (u:=.rng i j) e;exact h ρ _ _ ex d<|.rng kZ
  | _=>exact h.elim
 | _=>exact h.elim
abbrev BB (i j:Int):Prop:=(-(2 ^ 62)<=i/\i<2 ^ 62/\-(2 ^ 62)<=j/\j<2 ^ 62)/\(j-i).toNat<=1000
instance (i j:Int):Decidable (BB i j):=by unfold BB;infer_instance
abbrev zL (x:A)(S:jT):R A:=match x with
 | .rng i j=>gd (BB i j) (.ok (.ref S.length)<|S++[.lst<|(mh i j).map .int])
 | .tup xs=>.ok (.ref S.length) (S++[.lst xs])
 | .frz xs=>.ok (.ref S.length) (S++[.lst xs])
 | .ref n=>opt (jU S n) λxs=>.ok (.ref S.length) (S++[.lst xs])
 | _=>.no
def IX(hc:X.calm=true):kJ X (.type "list") (rN X<|f1 zL):=λpins s σ H c us Q I rx h0=>by
 kt_k;clear h0
 cases hv with
 | @rng p i j e=>
  obtain⟨d,h⟩:=ko h;exact Cz hc pins s σ H _ us Q I rx ⟨p,i,j,rfl,e,d.1,d.2,nB R (qh _) .refl h⟩
 | @tup p xs c h1 r=>exact uw pins s σ H _ us Q I rx ⟨p,c,rfl,.inr<|n_.of h1,nB R r .refl h⟩
 | @frz p xs c h1 r=>exact uw pins s σ H _ us Q I rx ⟨p,c,rfl,.inl h1.Qq,nB R r .refl h⟩
 | @ref p n e=>
  gn_on;obtain⟨c,h1,r⟩:=R.lst e<|kc hn;exact uw pins s σ H _ us Q I rx ⟨p,c,rfl,.inl<|qt.of h1,nB R r .refl h⟩
 | _=>exact h.elim
abbrev sJ (x:A)(S:jT):R A:=match x with
 | .rng i j=>gd (BB i j) (.ok (.tup<|(mh i j).map .int) S)
 | .tup xs=>.ok (.tup xs) S
 | .frz xs=>.ok (.tup xs) S
 | .ref n=>opt (jU S n) λxs=>.ok (.tup xs) S
 | _=>.no
def yH(hc:X.calm=true):kJ X (.type "tuple") (rN X<|f1 sJ):=λpins s σ H c us Q I rx h0=>by
 kt_k;clear h0
 cases hv with
 | @rng p i j e=>
  obtain⟨d,h⟩:=ko h;exact BX hc pins s σ H _ us Q I rx ⟨p,i,j,rfl,e,d.1,d.2,t_ R (qh _) .refl h⟩
 | @tup p xs c h1 r=>exact sL pins s σ H _ us Q I rx ⟨p,c,rfl,.inr ⟨(n_.of h1),h _ _ _ .refl R<|.tup h1 r⟩⟩
 | @frz p xs c h1 r=>exact sL pins s σ H _ us Q I rx ⟨p,c,rfl,.inl ⟨h1.Qq,t_ R r .refl h⟩⟩
 | @ref p n e=>
  gn_on;obtain⟨c,h1,r⟩:=R.lst e<|kc hn;exact sL pins s σ H _ us Q I rx ⟨p,c,rfl,.inl ⟨qt.of h1,t_ R r .refl h⟩⟩
 | _=>exact h.elim
abbrev A.OI:ae->Option (List Bool)
 | []=>some []
 | .bl b::xs=>(A.OI xs).map (b::·)
 | _=>none
theorem Uw{K:au}{H:Hp}:∀{xs:ae}{vs:List V}{bs:List Bool},AVs K ρ H xs vs->A.OI xs=some bs->vs=bs.map V.bl
 | _,_,_,.nil,e=>by cases e;rfl
 | x::xs,_,bs,.cons h t,e=>by
  cases x with
  | bl b=>
   obtain⟨c,e1,rfl⟩:=aY.mp (show(A.OI xs).map (b::·)=some bs from e)
   cases h
   rw[Uw t e1];rfl
  | _=>cases e
abbrev W3 (x:A)(S:jT):R A:=match x with
 | .ref n=>opt (jU S n) λxs=>opt (A.OI xs) λbs=>.ok (.bl<|bs.all λb=>b) S
 | _=>.no
def abz(hc:X.calm=true):kJ X (.builtin "all") (rN X<|f1 W3):=kJ.imp (NJ hc) λc H Q h0=>by
 kt_k;clear h0
 cases hv with
 | @ref p n e=>
  gn_on;obtain⟨bs,d,h⟩:=jV h;obtain⟨c,h1,r⟩:=R.lst e<|kc hn;rw[Uw r d]at h1;exact⟨p,bs,rfl,qt.of h1,h _ _ _ .refl R<|.bl _⟩
 | _=>exact h.elim
abbrev insI (x:Int):ag->ag
 | []=>[x]
 | y::ys=>if x<=y then x::y::ys else y::insI x ys
abbrev sortI:ag->ag
 | []=>[]
 | x::xs=>insI x<|sortI xs
theorem insI_perm(x:Int):∀ys:ag,(insI x ys).Perm (x::ys)
 | []=>eF _
 | y::ys=>by
  unfold insI;by_cases h:x<=y
  ·rw[aJ h]
  ·rw[aI h];exact((insI_perm x ys).cons y).trans (List.Perm.swap x y ys)
theorem sortI_perm:∀xs:ag,(sortI xs).Perm xs
 | []=>eF _
 | x::xs=>(insI_perm x<|sortI xs).trans<|(sortI_perm xs).cons x
theorem Lk(x:Int):∀ys:ag,ys.Pairwise (·<=·)->(insI x ys).Pairwise (·<=·)
 | [],_=>cB _ _
 | y::ys,h=>by
  unfold insI;obtain⟨h1,h2⟩:=bY.mp h;by_cases d:x<=y
  ·rw[aJ d];exact bY.mpr ⟨λz c=>(bG.mp c).elim (λe=>e ▸ d) λc=>Int.le_trans d<|h1 z c,h⟩
  ·rw[aI d];refine bY.mpr ⟨λz c=>?_,Lk x ys h2⟩
   rcases bG.mp ((insI_perm x ys).mem_iff.mp c)with e|c
   ·subst e;lia
   ·exact h1 z c
theorem yd:∀xs:ag,(sortI xs).Pairwise (·<=·)
 | []=>List.Pairwise.nil
 | x::xs=>Lk x _<|yd xs
abbrev Tr (x:A)(S:jT):R A:=opt (x.seq S) λxs=>opt (A.ints xs) λc=>gd (c.length<64)<|.ok (.ref S.length)<|S++[.lst<|(sortI c).map .int]
def VG:kJ X (.builtin "sorted") (rN X<|f1 Tr):=kJ.imp EB λk H Q h0=>by
 kt_k;clear h0;gn_on;obtain⟨c,f,h⟩:=jV h;obtain⟨j,h⟩:=ko h;obtain⟨p,us,rfl,hs,r⟩:=Ig R hv hn;rw[wC r f]at hs;refine⟨p,c,rfl,hs,j,λl d e g hw=>?_⟩;have:d=sortI c:=Ml (g.trans (sortI_perm c).symm) hw<|yd c;rw[this];exact nB R (qh _) .refl h l e
abbrev A.kd:A->jT->Option Kd
 | .non,_=>some .non
 | .bl _,_=>some .bl
 | .int _,_=>some .int
 | .str _,_=>some .str
 | .tup _,_=>some .tup
 | .ref n,S=>(jU S n).map λ_=>.lst
 | _,_=>none
def Wh{K:au}(k:Kd):PySem.W.kitOne K k.ty (.type "str")=some (decide<|k=.str):=by cases k<;>rfl
abbrev Gx (k:Kd)(c:String):bj:=if c = "int" then some (decide<|k=.int\/k=.bl)else if c = "bool" then some (decide<|k=.bl)else if c = "tuple" then some (decide<|k=.tup)else if c = "list" then some (decide<|k=.lst)else if c = "str" then some (decide<|k=.str)else none
def Me{K:au}{k:Kd}{c:String}{b:Bool}(h:Gx k c=some b):PySem.W.kitOne K k.ty (.type c)=some b:=by
 unfold Gx at h;split at h
 ·rename_i e;subst e;rw[<- h];exact VM k
 ·split at h
  ·rename_i e;subst e;rw[<- h];exact P_ k
  ·split at h
   ·rename_i e;subst e;rw[<- h];exact kit_tuple k
   ·split at h
    ·rename_i e;subst e;rw[<- h];exact Rh k
    ·split at h
     ·rename_i e;subst e;rw[<- h];exact Wh k
     ·cases h
abbrev OE (x y:A)(S:jT):R A:=match y with
 | .ty c=>opt (x.kd S) λk=>opt (Gx k c) λb=>.ok (.bl b) S
 | _=>.no
def abW{K:au}{H:Hp}{x:A}{v:V}{k:Kd}(R:Rel K ρ H S)(h:AV K ρ H x v)(e:x.kd S=some k):(∃p vs,v=.ref p/\n_ K H p vs/\k=.tup)\/ZF H v k:=by
 cases h with
 | non=>cases e;exact .inr rfl
 | bl b=>cases e;exact .inr ⟨b,rfl⟩
 | int i=>cases e;exact .inr ⟨i,rfl⟩
 | str i=>cases e;exact .inr ⟨i,rfl⟩
 | tup h r=>cases e;exact .inl ⟨_,_,rfl,(n_.of h),rfl⟩
 | ref h=>
  obtain⟨xs,e1,e2⟩:=aY.mp e;obtain⟨vs,h1,_⟩:=R.lst h (kc e1)
  cases e2
  exact .inr ⟨_,vs,rfl,h1⟩
 | _=>cases e
def Ka:kJ X (.builtin "isinstance") (rN X<|f2 OE):=λpins s σ H g us Q I rx h0=>by
 obtain⟨w,G,rfl,ρ,S,x,y,R,hv,e,h⟩:=rn2 h0;clear h0
 cases e with
 | ty c=>
  obtain⟨k,j,h⟩:=jV h;obtain⟨b,f,d⟩:=jV h;have d:CI X ρ H Q (.bl b) S:=d;clear h
  rcases abW R hv j with⟨p,g,rfl,m,rfl⟩|B
  ·obtain⟨J,C,rfl,r1,r2⟩:=vals2 rx;obtain⟨its,q,⟨o,h1,h2,_⟩,_⟩:=I.tuple m
   cases(show _=Value.ref p from r1)
   cases(show _=Value.type c from r2)
   exact c9 PySem.W.kitx_tuple I.E4 ⟨o,h1,h2⟩ (Me f) (λz=>nomatch z) λF=>⟨.bl b,H,I.tok _,rfl,d _ _ _ .refl R<|.bl _⟩
  ·exact F3 (c:=c) pins s σ H _ us Q I rx ⟨w,_,b,rfl,B.ad4,Me f,d _ _ _ .refl R<|.bl _⟩
 | _=>exact h.elim
end
abbrev EJ (x:ag):List (ag)->List (ag)
 | []=>[x]
 | y::ys=>if HT.lexLt y x=true then y::EJ x ys else x::y::ys
abbrev mO:List (ag)->List (ag)
 | []=>[]
 | x::xs=>EJ x<|mO xs
abbrev Ff (a b:ag):Prop:=HT.lexLt b a=false
def Ff.trans{a b c:ag}(h1:Ff a b)(h2:Ff b c):Ff a c:=by
 unfold Ff at *
 cases e:HT.lexLt c a with
 | false=>rfl
 | true=>
  rcases Sx.Lu (b:=b) e with z|z
  ·rw[h2]at z;cases z
  ·rw[h1]at z;cases z
theorem yR(x:ag):∀ys:List<|ag,(EJ x ys).Perm (x::ys)
 | []=>eF _
 | y::ys=>by
  unfold EJ;by_cases h:HT.lexLt y x=true
  ·rw[aJ h];exact((yR x ys).cons y).trans (List.Perm.swap x y ys)
  ·rw[aI h]
theorem kO:∀xs:List<|ag,(mO xs).Perm xs
 | []=>eF _
 | x::xs=>(yR x<|mO xs).trans<|(kO xs).cons x
theorem MD(x:ag):∀ys:List<|ag,ys.Pairwise Ff->(EJ x ys).Pairwise Ff
 | [],_=>cB _ _
 | y::ys,h=>by
  unfold EJ;obtain⟨h1,h2⟩:=bY.mp h;by_cases f:HT.lexLt y x=true
  ·rw[aJ f];refine bY.mpr ⟨λz c=>?_,MD x ys h2⟩
   rcases bG.mp ((yR x ys).mem_iff.mp c)with e|c
   ·subst e;unfold Ff
    cases e:HT.lexLt z y with
    | false=>rfl
    | true=>have:=Sx.EE f e;rw[Sx.Fe]at this;cases this
   ·exact h1 z c
  ·rw[aI f];have d:Ff x y:=by unfold Ff;simpa using f
   exact bY.mpr ⟨λz c=>(bG.mp c).elim (λe=>e ▸ d) λc=>d.trans<|h1 z c,h⟩
theorem vt:∀xs:List<|ag,(mO xs).Pairwise Ff
 | []=>List.Pairwise.nil
 | x::xs=>MD x _<|vt xs
def IA{xs:List<|ag}(p:xs.Perm ys)(h:xs.Pairwise Ff):xs=mO ys:=
 eo (λa b _ _ h1 h2=>(Sx.yD h1 h2).symm) h (vt ys) (p.trans (kO ys).symm)
theorem pig:∀(N:Nat) (l:am),l.Nodup->(∀x∈l,x<N)->l.length<=N
 | 0,l,_,h=>by
  cases l with
  | nil=>exact aO _
  | cons a l=>exact absurd (h a<|aL ..)<|d8 _
 | N+1,l,nd,h=>by
  have h1:=pig N (l.erase N) (nd.erase N) λx c=>by
   have:=h x<|List.mem_of_mem_erase c;have:x≠N:=λz=>by
    subst z;exact(List.Nodup.not_mem_erase nd) c
   lia
  have:=List.le_length_erase (l:=l) (a:=N)
  lia
def wX{N:Nat}{g:Nat->Nat}(h:∀i,i<N->g i<N)(inj:∀i j,i<j->j<N->g i≠g j):((List.range N).map g).Perm (List.range N):=by
 have nd:((List.range N).map g).Nodup:=by
  unfold List.Nodup;rw[dG];intro i j hi f e;rw[aG,cJ]at hi f;rw[dD,dD,eW,eW];exact inj i j e f
 have lt:∀x∈(List.range N).map g,x<N:=λx c=>by
  obtain⟨i,hi,rfl⟩:=aW.mp c;exact h i<|cY.mp hi
 refine(je nd List.nodup_range).mpr λa=>⟨λd=>cY.mpr<|lt a d,λd=>?_⟩;refine eZ λhn=>?_;have:=pig N (a::(List.range N).map g) (cN.mpr ⟨hn,nd⟩) λx c=>by
  rcases bG.mp c with rfl|c
  ·exact cY.mp d
  ·exact lt x c
 rw[bA,aG,cJ]at this
 lia
def range_getD{α:Type}(l:List α)(d:α):(List.range l.length).map (λi=>l.getD i d)=l:=by
 apply dm;intro i;rw[aQ];by_cases c:i<l.length
 ·rw[d7 c];show some (l.getD i d)=_;rw[aK,aE c];rfl
 ·rw[b9<|by rw[cJ];lia,b9 ()];rfl
def P0{J:List<|ag}{g:Nat->Nat}(c:Sx.Cl g 0 J.length)(U:Sx.So (Sx.NH J) g 0 J.length):(List.range J.length).map (λi=>J.getD (g i) [])=mO J:=by
 refine IA ?_ ?_
 ·have p:=wX (N:=J.length) (g:=g) (λi hi=>(c i (bL _) hi).2) λi j d e z=>by
   have:=U i j (bL _) d e;rw[z]at this;exact this.UB
  have:=p.map λi=>J.getD i [];rw[bB,range_getD]at this;exact this
 ·rw[dG];intro i j hi e d;rw[aG,cJ]at hi e;rw[dD,dD,eW,eW];exact(U i j (bL _) d e).ge
abbrev tsA:ae->Option (List<|ag)
 | []=>some []
 | .tup xs::r=>match A.ints xs with
  | some (k::ks)=>(tsA r).map λc=>(k::ks)::c
  | _=>none
 | _=>none
theorem Xh{K:au}{H:Hp}:∀{xs:ae}{vs:List V}{kss:List<|ag},AVs K ρ H xs vs->tsA xs=some kss ->
  ∃rs:ba,vs=rs.map V.ref/\rs.length=kss.length/\∀(i:Nat) (r:ak) (ks:ag),rs[i]?=some r->kss[i]?=some ks->n_ K H r (ks.map V.int)/\ks≠[]/\AV K ρ H (.tup<|ks.map .int) (.ref r)
 | [],_,_,.nil,e=>by cases e;exact⟨[],rfl,rfl,λi r ks h=>by simp at h⟩
 | x::xs,_,kss,.cons h t,e=>by
  cases h with
  | tup h r=>
   rename_i a ys us;unfold tsA at e
   cases e1:A.ints ys with
   | none=>rw[e1]at e;cases e
   | some ks=>
    rw[e1]at e
    cases ks with
    | nil=>cases e
    | cons k ks=>
     obtain⟨d,e2,rfl⟩:=aY.mp e;obtain⟨rs,rfl,m,j⟩:=Xh t e2;have f:=wC r e1;subst f;refine⟨a::rs,rfl,by rw[bA,bA,m],λi g c h1 h2=>?_⟩
     cases i with
     | zero=>
      cases h1
      cases h2
      exact⟨n_.of h,(λz=>nomatch z),.tup h<|qh _⟩
     | succ i=>exact j i g c (by simpa using h1)<|by simpa using h2
  | _=>cases e
theorem Eo{K:au}{H:Hp}{α:Type}{f:α->A}{h:α->V}:∀{l:List α},(∀a∈l,AV K ρ H (f a)<|h a)->AVs K ρ H (l.map f) (l.map h)
 | [],_=>.nil
 | a::l,e=>.cons (e a<|aL ..)<|Eo λb c=>e b<|aN _ c
section
variable {X:Cx}
abbrev P4 (n:Nat)(S:jT):R A:=opt (jU S n) λxs=>opt (tsA xs) λc=>.ok (.ref S.length)<|S++[.lst<|(mO c).map λks=>.tup<|ks.map .int]
abbrev aaG (x:A)(S:jT):R A:=match x with
 | .ref n=>P4 n S
 | _=>.no
abbrev isT (x:A)(S:jT):Bool:=match x with
 | .ref n=>match jU S n with
  | some (.tup _::_)=>true
  | _=>false
 | _=>false
abbrev Mp (x:A)(S:jT):R A:=match isT x S with
 | false=>Tr x S
 | true=>match x with
  | .ref n=>P4 n S
  | _=>.no
def WK:kJ X (.builtin "sorted") (rN X<|f1 aaG):=kJ.imp FH λB H Q h0=>by
 kt_k;clear h0
 cases hv with
 | ref m=>
  rename_i p n;gn_on;obtain⟨c,j,h⟩:=jV h;obtain⟨us,h1,r⟩:=R.lst m<|kc hn;obtain⟨d,rfl,q,e⟩:=Xh r j;refine⟨p,d,c,rfl,qt.of h1,Sx.J3 _,q,λi r ks e1 e2=>⟨(e i r ks e1 e2).1,(e i r ks e1 e2).2.1⟩,λl g f hc hs=>?_⟩;have k:AVs X.K ρ H ((mO c).map λks=>.tup<|ks.map .int) (((List.range c.length).map λi=>d.getD (g i) 0).map V.ref):=by
   rw[<- P0 hc hs,bB,bB];refine Eo λi hi=>?_;have lt:=(hc i (bL _)<|cY.mp hi).2;have e1:d[g i]?=some (d.getD (g i) 0):=by rw[aK,aE ()];rfl
   have e2:c[g i]?=some (c.getD (g i) []):=by rw[aK,aE lt];rfl
   exact(e _ _ _ e1 e2).2.2
  exact nB R k .refl h l f
 | _=>exact h.elim
def aaB:kJ X (.builtin "sorted") (rN X<|f1 Mp):=λpins s σ H xs us Q I r h=>by
 obtain⟨w,rfl,ρ,S,x,R,hv,h⟩:=Ot h;unfold Mp at h
 cases e:isT x S with
 | false=>
  rw[e]at h;exact VG pins s σ H _ us Q I r ⟨ρ,S,[x],R,.cons hv .nil,h⟩
 | true=>
  rw[e]at h;exact WK pins s σ H _ us Q I r ⟨ρ,S,[x],R,.cons hv .nil,h⟩
end
abbrev RS.post (r:RS)(N:ae->jT->Prop)(T:A->jT->Prop)(B C:ae->jT->Prop)(E:Str->jT->Prop):Prop:=match r with
 | .nx τ S=>N τ S
 | .rt a S=>T a S
 | .bk τ S=>B τ S
 | .ct τ S=>C τ S
 | .ex c S=>E c S
 | .no=>False
abbrev RS.of {α:Type}(r:R α)(f:α->jT->RS):RS:=match r with
 | .ok a S=>f a S
 | .ex c S=>.ex c S
 | .no=>.no
def of_post{α:Type}{r:R α}{f:α->jT->RS}{N B C:ae->jT->Prop}{T:A->jT->Prop}{E:Str->jT->Prop}(h:(RS.of r f).post N T B C E):r.post (λa S=>(f a S).post N T B C E) E:=by
 cases r<;>exact h
def RS.mono{r:RS}{N B C J U C':ae->jT->Prop}{T T':A->jT->Prop}{E E':Str->jT->Prop}(h:r.post N T B C E)(hn:∀τ S,N τ S->J τ S)(ht:∀a S,T a S->T' a S)(hb:∀τ S,B τ S->U τ S)(hc:∀τ S,C τ S->C' τ S)(he:∀c S,E c S->E' c S):r.post J T' U C' E':=by
 cases r with
 | nx τ S=>exact hn _ _ h
 | rt a S=>exact ht _ _ h
 | bk τ S=>exact hb _ _ h
 | ct τ S=>exact hc _ _ h
 | ex c S=>exact he _ _ h
 | no=>exact h.elim
abbrev QS (X:Cx)(ρ:ba)(H:Hp)(N:L2.St->Hp->Prop):ae->jT->Prop:=λd e=>∀ρ' H' c,Ext ρ ρ' H H'->Rel X.K ρ' H' e->SR X.K ρ' H' d c->N c H'
def QS.ext{X:Cx}{H H':Hp}{N:L2.St->Hp->Prop}(h:QS X ρ H N τ S)(e:Ext ρ ρ' H H'):QS X ρ' H' N τ S:=λρ2 H2 c e2=>h ρ2 H2 c<|e.trans e2
abbrev Ft (X:Cx)(ρ:ba)(H:Hp)(D:Ends)(r:RS):Prop:=r.post (QS X ρ H D.nx) (CI X ρ H D.rt) (QS X ρ H D.bk) (QS X ρ H D.ct)<|XE X ρ H
def Ft.ext{X:Cx}{H H':Hp}{D:Ends}{r:RS}(h:Ft X ρ H D r)(e:Ext ρ ρ' H H'):Ft X ρ' H' D r:=RS.mono h (λ_ _ z=>z.ext e) (λ_ _ z=>z.ext e) (λ_ _ z=>z.ext e) (λ_ _ z=>z.ext e) λ_ _ z=>z.ext e
abbrev tS (X:Cx)(c:Sm):TS:=λD σ H=>∃ρ S τ,Rel X.K ρ H S/\SR X.K ρ H τ σ/\Ft X ρ H D (c τ S)
abbrev AS (X:Cx)(st:aC)(c:Sm):Prop:=PS X st<|tS X c
abbrev Wx (X:Cx)(J:List aC)(c:Sm):Prop:=Fj X J<|tS X c
abbrev tG (X:Cx)(g:Tg):TG:=λv σ H Q=>∃ρ S τ a,Rel X.K ρ H S/\SR X.K ρ H τ σ/\AV X.K ρ H a v/\(g a τ S).post (QS X ρ H Q) (XE X ρ H)
abbrev AG (X:Cx)(e:aA)(g:Tg):Prop:=PG X e<|tG X g
meta abbrev UX:=ae->ae->jT->R (ae)
abbrev tGs (X:Cx)(g:UX):XS:=λc σ H Q=>∃ρ S τ as,Rel X.K ρ H S/\SR X.K ρ H τ σ/\AVs X.K ρ H as c/\(g as τ S).post (QS X ρ H Q) (XE X ρ H)
abbrev AGs (X:Cx)(es:List aA)(g:UX):Prop:=PGs X es<|tGs X g
section
variable {X:Cx}{pos:Pos}{a b e:aA}{st:aC}{rest:List aC}{c d:Sm}
def PS.imp{t t':TS}(h:PS X st t)(i:∀D σ H,t' D σ H->t D σ H):PS X st t':=λpins s σ H D I q=>h pins s σ H D I<|i D σ H q
def Fj.imp{t t':TS}(h:Fj X rest t)(i:∀D σ H,t' D σ H->t D σ H):Fj X rest t':=λpins s σ H D I q=>h pins s σ H D I<|i D σ H q
def PG.imp{t t':TG}(h:PG X e t)(i:∀v σ H Q,t' v σ H Q->t v σ H Q):PG X e t':=λpins s σ H v u Q I r q=>h pins s σ H v u Q I r<|i _ _ _ _ q
abbrev kY (i:Nat):Tg:=λa τ S=>.ok (τ.set i a) S
theorem ku{i:Nat}{x:Str}(J:X.N.Nodup)(hi:X.N[i]?=some x<|>η)(U:Loc X.env.scope x:=by first|exact Or.inl rfl|exact Or.inr rfl)(hf:X.fn x=true\/X.env.scope.names.lookup x=some .local<|>γ):AG X (.Name x pos) (kY i):=
 PG.imp (Ks J hi U hf) λv σ H Q ⟨ρ,S,τ,a,R,r,va,h⟩=>h ρ H _ .refl R<|r.set va
abbrev JK:UX:=λas τ S=>match as with
 | []=>.ok τ S
 | _=>.no
abbrev yM (g:Tg)(gs:UX):UX:=λas τ S=>match as with
 | a::as=>(g a τ S).bind λc S1=>gs as c S1
 | []=>.no
def rZ:AGs X [] JK:=λpins s σ H c us Q I r ⟨ρ,S,τ,as,R,d,va,h⟩=>V4 pins s σ H c us Q I r (by
 cases va with
 | nil=>exact⟨rfl,h ρ H σ .refl R d⟩
 | cons _ _=>exact h.elim)
def lV{g:Tg}{gs:UX}(h1:AG X e g)(h2:AGs X es gs)(hs:(assignEach (e::es) X.env).map (·.2)=assign e X.env::(assignEach es X.env).map (·.2)<|>η):AGs X (e::es) (yM g gs):=
 λpins s σ H f us Q I r ⟨ρ,S,τ,as,R,k,va,h⟩=>TH h1 h2 hs pins s σ H f us Q I r (by
  cases va with
  | nil=>exact h.elim
  | cons m j=>exact⟨_,_,rfl,ρ,S,τ,_,R,k,m,jW (j3 h) .refl λc S1 h1 ρ1 H1 p e1 R1 d=>⟨ρ1,S1,c,_,R1,d,j.ext e1,jW h1 e1 λ_ _ z=>z.ext e1⟩⟩)
abbrev Iw (n:Nat)(gs:UX):Tg:=λa τ S=>match a with
 | .tup xs | .ktu xs=>gd (xs.length=n) (gs xs τ S)
 | _=>.no
def uL{k n:Nat}{gs:UX}(hc:X.calm=true)(h:AGs X es gs)(hn:(assignEach es X.env).length=n<|>η)(J:(assignEach es X.env).findIdx? (·.1)=none<|>η):AG X (.Tuple es k pos) (Iw n gs):=
 PG.imp (Y0 hc h hn J) λv σ H Q h9=>by
  obtain⟨ρ,S,τ,a,R,r,va,h⟩:=h9
  cases va with
  | tup h1 r1=>
   obtain⟨c,h⟩:=ko h;exact⟨_,_,rfl,n_.of h1,by rw[<- r1.length];exact c,ρ,S,τ,_,R,r,r1,h⟩
  | ktu h1 r1=>
   obtain⟨c,h⟩:=ko h;exact⟨_,_,rfl,.inr h1,by rw[<- r1.length];exact c,ρ,S,τ,_,R,r,r1,h⟩
  | _=>exact h.elim
abbrev F5 (o i v:A)(S:jT):R Unit:=match o,i with
 | .ref n,.int k=>opt (jU S n) λxs=>opt (FY xs.length k) λj=>.ok Unit.unit (S.set n<|.lst<|xs.set j v)
 | _,_=>.no
abbrev rSt (X:Cx):Ol:=λo i v H Q=>∃ρ S e d c,Rel X.K ρ H S/\AV X.K ρ H e o/\AV X.K ρ H d i/\AV X.K ρ H c v/\(F5 e d c S).post (λ_ f=>∀ρ' H',Ext ρ ρ' H H'->Rel X.K ρ' H' f->Q H') (XE X ρ H)
def Vb:Oj X (rSt X):=λpins s σ H o i v B iv u Q I g C m h9=>by
 obtain⟨ρ,S,F,G,J,R,h1,h2,h3,h⟩:=h9
 cases h1 with
 | @ref p n c=>
  cases h2 with
  | int k=>
   gn_on;obtain⟨j,q,h⟩:=jV h;obtain⟨d,e,r⟩:=R.lst c<|kc hn;obtain⟨ex,f⟩:=R.put c (kc hn)<|r.set h3 j;exact set_list pins s σ H _ _ v B iv u Q I g C m ⟨p,d,k,j,rfl,rfl,e,by rw[<- r.length];exact q,h _ _ ex f⟩
  | _=>exact h.elim
 | _=>exact h.elim
abbrev gSb (co J:Ex):Tg:=λa τ S=>(co τ S).bind λo S1=>(J τ S1).bind λi S2=>(F5 o i a S2).bind λ_ S3=>.ok τ S3
def FI{co J:Ex}(U:AE X o co)(hi:AE X i J)
  (ha:(∀v,assign (.Subscript o i pos) X.env v=(do
   let ov <- holding [v] (eval o X.env)
   let iv <- holding [v,ov] (eval i X.env)
   standAt pos
   holding [v,ov,iv] (setItem ov iv v)
   release [v,ov,iv] []))<|>θ):AG X (.Subscript o i pos) (gSb co J):=PG.imp (ID U hi Vb ha) λv σ H Q h9=>by
 obtain⟨ρ,S,τ,a,R,r,va,h⟩:=h9;kj_on;ksr_p;exact h3 ρ3 H3 σ ((e1.trans e2).trans e3) R3<|r.ext<|(e1.trans e2).trans e3
abbrev rR:Sm:=λτ S=>.nx τ S
abbrev kD (c d:Sm):Sm:=λτ S=>match c τ S with
 | .nx e f=>d e f
 | r=>r
def lI:Wx X [] rR:=Fj.imp Wo λD σ H ⟨ρ,S,τ,R,r,h⟩=>h ρ H σ .refl R r
def VR{D:Ends}{H:Hp}(h:tS X (kD c d) D σ H):acH (tS X c) (tS X d) D σ H:=by
 obtain⟨ρ,S,τ,R,r,h⟩:=h;refine⟨ρ,S,τ,R,r,?_⟩;unfold kD at h
 cases hc:c τ S with
 | nx e S1=>
  rw[hc]at h;exact λρ1 H1 f e1 R1 r1=>⟨ρ1,S1,e,R1,r1,Ft.ext h e1⟩
 | rt a S1=>rw[hc]at h;exact h
 | bk e S1=>rw[hc]at h;exact h
 | ct e S1=>rw[hc]at h;exact h
 | ex x S1=>rw[hc]at h;exact h
 | no=>rw[hc]at h;exact h
def jX(h1:AS X st c)(h2:Wx X rest d):Wx X (st::rest) (kD c d):=Fj.imp (Uc h1 h2) λD σ H h=>VR h
def j4(h1:AS X st c):Wx X [st] c:=V6 h1
abbrev ZR:Sm:=λτ S=>.bk τ S
abbrev ade:Sm:=λτ S=>.ct τ S
abbrev pI (e:Ex):Sm:=λτ S=>.of (e τ S) λ_ S1=>.nx τ S1
def m5{f:Ex}(J:AE X e f)(hs:swapsWith e none pos.line X.env=pure false<|>η):AS X (.Expr e pos) (pI f):=PS.imp (Vz J hs) λD σ H ⟨ρ,S,τ,R,r,h⟩=>
 ⟨ρ,S,τ,R,r,jW (of_post h) .refl λa S1 h1 ρ1 H1 x e1 R1 v1=>h1 ρ1 H1 σ e1 R1<|r.ext e1⟩
abbrev mS (e:Ex):Sm:=λτ S=>.of (e τ S) λa S1=>.rt a S1
def kM{f:Ex}(J:AE X e f):AS X (.Return (some e) pos) (mS f):=PS.imp (ZI J) λD σ H ⟨ρ,S,τ,R,r,h⟩=>⟨ρ,S,τ,R,r,jW (of_post h) .refl λa S1 h1=>h1⟩
abbrev abY:Sm:=λτ S=>.rt .non S
abbrev zY (t:Te)(c d:Sm):Sm:=λτ S=>.of (t τ S) λb S1=>match b with|true=>c τ S1|false=>d τ S1
def nU{t:Te}(J:AT X e t)(U:Wx X ca c)(hb:Wx X cb d):AS X (.If e ca cb pos) (zY t c d):=PS.imp (acR J U hb) λD σ H h9=>by
 room;refine⟨ρ,S,τ,R,r,jW (of_post h) .refl λb S1 h1 ρ1 H1 e1 R1=>?_⟩
 cases b with
 | true=>rw[aJ rfl];exact⟨ρ1,S1,τ,R1,r.ext e1,Ft.ext h1 e1⟩
 | false=>rw[aI bJ];exact⟨ρ1,S1,τ,R1,r.ext e1,Ft.ext h1 e1⟩
abbrev kR (e:Ex)(g:Tg):Sm:=λτ S=>.of (e τ S) λa S1=>.of (g a τ S1) λc S2=>.nx c S2
def VT{f:Ex}{g:Tg}{D:Ends}{H:Hp}(h:tS X (kR f g) D σ H):Vd (tE X f) (tG X g) D σ H:=by
 obtain⟨ρ,S,τ,R,r,h⟩:=h;exact⟨ρ,S,τ,R,r,jW (of_post h) .refl λa S1 h1 ρ1 H1 x e1 R1 v1=>⟨ρ1,S1,τ,a,R1,r.ext e1,v1,jW (of_post h1) e1 λc S2 h2=>QS.ext h2 e1⟩⟩
def pG{tg:aA}{f:Ex}{g:Tg}(J:AE X e f)(hg:AG X tg g)(hs:swapsWithSole [tg] e pos.line X.env=pure false<|>η)(hw:swappedStores [tg] e X.env=pure none<|>η)
  (h1:(assignEach [tg] X.env).map (·.2)=[assign tg X.env]<|>η):AS X (.Assign [tg] e pos) (kR f g):=PS.imp (aaN J hg hs hw h1) λD σ H h=>VT h
def kB{i:Nat}{x:Str}{f:Ex}(J:X.N.Nodup)(U:AE X e f)(hi:X.N[i]?=some x<|>η)(hx:Loc X.env.scope x:=by first|exact Or.inl rfl|exact Or.inr rfl)(hs:(swapsWith e (some<|.Name x pos') pos.line X.env=pure false)<|>η)(hf:X.fn x=true\/X.env.scope.names.lookup x=some .local<|>γ) :
  AS X (.Assign [.Name x pos'] e pos) (kR f<|kY i):=PS.imp (Zi J hi hx U hs hf) λD σ H ⟨ρ,S,τ,R,r,h⟩=>
 ⟨ρ,S,τ,R,r,jW (of_post h) .refl λa S1 h1 ρ1 H1 x e1 R1 v1=>h1 ρ1 H1 _ e1 R1<|(r.ext e1).set v1⟩
abbrev adJ (i j:Nat)(c:qQ):Sm:=λτ S=>.of (c τ S) λas S1=>match as with
 | [a,b]=>.nx ((τ.set i a).set j b) S1
 | _=>.no
abbrev aeT (a b:A)(S:jT):R A:=match a,b with
 | .int i,.int j=>.ok (.int<|i+j) S
 | _,_=>.no
abbrev abG (i:Nat)(f:A->A->jT->R A)(e:Ex):Sm:=λτ S=>if (τ.getD i .unb).qF then .no else .of (e τ S) λb S1=>.of (f (τ.getD i .unb) b S1) λc S2=>.nx (τ.set i c) S2
abbrev Wm (a b:A)(S:jT):R A:=match a,b with
 | .ref n,.int i=>opt (jU S n) λxs=>gd (0<=i) (opt (xs[i.toNat]?) λx=>.ok x S)
 | _,_=>.no
abbrev acV (co J U:Ex)(f:A->A->jT->R A):Sm:=λτ S=>.of (co τ S) λo S1=>.of (J τ S1) λi S2=>.of (Wm o i S2) λx S3=>.of (U τ S3) λy e=>.of (f x y e) λz d=>.of (F5 o i z d) λ_ c=>.nx τ c
abbrev pC (t:Te)(c:Sm):Nat->Sm
 | 0=>λ_ _=>.no
 | n+1=>λτ S=>.of (t τ S) λb S1=>match b with
  | false=>.nx τ S1
  | true=>match c τ S1 with
   | .nx d e=>pC t c n d e
   | .ct d e=>pC t c n d e
   | .bk d e=>.nx d e
   | r=>r
def RQ(n:Nat){t:Te}(J:PassesOwn (model X.prog X.w) X.A X.env X.xe)(U:AT X e t)(hb:Wx X body c):AS X (.While e body [] pos) (pC t c n):=PS.imp (PX J U hb) λD σ H h9=>by
 room;refine⟨λm k H'=>∃ρ' f d,Ext ρ ρ' H H'/\Rel X.K ρ' H' f/\SR X.K ρ' H' d k/\Ft X ρ' H' D (pC t c m d f),⟨n,ρ,S,τ,.refl,R,r,h⟩,?_⟩;rintro m q H1 ⟨ρ1,S1,g,e1,R1,r1,h1⟩
 cases m with
 | zero=>exact h1.elim
 | succ m=>
  refine⟨ρ1,S1,g,R1,r1,jW (of_post h1) .refl λb S2 h2 ρ2 H2 e2 R2=>?_⟩
  cases b with
  | false=>rw[aI bJ];exact h2 ρ2 H2 q e2 R2 (r1.ext e2)
  | true=>
   rw[aJ rfl];refine⟨λk H'=>∃ρ' f d,Ext ρ ρ' H H'/\Rel X.K ρ' H' f/\SR X.K ρ' H' d k/\Ft X ρ' H' D (pC t c m d f),λk H' z=>⟨m,fN _,z⟩,ρ2,S2,g,R2,r1.ext e2,?_⟩;have h2:Ft X ρ1 H1 D (match c g S2 with
    | .nx d f=>pC t c m d f
    | .ct d f=>pC t c m d f
    | .bk d f=>.nx d f
    | r=>r):=h2
   cases hc:c g S2 with
   | nx j S3=>rw[hc]at h2;exact λρ3 H3 B e3 R3 p=>⟨ρ3,S3,j,(e1.trans e2).trans e3,R3,p,Ft.ext h2<|e2.trans e3⟩
   | ct j S3=>rw[hc]at h2;exact λρ3 H3 B e3 R3 p=>⟨ρ3,S3,j,(e1.trans e2).trans e3,R3,p,Ft.ext h2<|e2.trans e3⟩
   | bk j S3=>rw[hc]at h2;exact QS.ext h2 e2
   | rt a S3=>rw[hc]at h2;exact CI.ext h2 e2
   | ex x S3=>rw[hc]at h2;exact XE.ext h2 e2
   | no=>rw[hc]at h2;exact h2
end
structure Src where
 k:Nat
 get:Nat->jT->Option A
 fin:jT->Bool
structure JR (K:au)(s:Src)(J:It)(ρ0:ba)(H0:Hp):Prop where
 go:∀(i:Nat) (S:jT) (H:Hp) (ρ:ba) (x:A),Ext0 ρ0 ρ H0 H->Rel K ρ H S->s.get i S=some x->J.go i H/\∀v H',J.yld i H v H'->Ext ρ ρ H H'/\Rel K ρ H' S/\AV K ρ H' x v
 stop:∀(S:jT) (H:Hp) (ρ:ba),Ext0 ρ0 ρ H0 H->Rel K ρ H S->s.fin S=true->J.stop s.k H
meta abbrev Ic:=ae->jT->R Src
abbrev tI (X:Cx)(c:Ic):TI:=λσ H Q=>∃ρ S τ,Rel X.K ρ H S/\SR X.K ρ H τ σ/\(c τ S).post (λs d=>∀ρ' H' J,Ext ρ ρ' H H'->Rel X.K ρ' H' d->JR X.K s J ρ' H'->Q J H') (XE X ρ H)
abbrev AI (X:Cx)(tg iter:aA)(c:Ic):Prop:=PI X tg iter<|tI X c
abbrev pQ (xs:ae):Src:=⟨xs.length,λi _=>xs[i]?,λ_=>true⟩
abbrev nY (n k:Nat):Src:=⟨k,λi S=>(jU S n).bind (·[i]?),λS=>match jU S n with
 | some ys=>decide (ys.length<=k)
 | none=>false⟩
abbrev uU (lo hi:Int):Src:=⟨(hi-lo).toNat,λi _=>if i<(hi-lo).toNat then some (.int<|lo+i)else none,λ_=>true⟩
abbrev pV (c:Ex):Ic:=λτ S=>(c τ S).bind λa S1=>match a with
 | .tup xs=>.ok (pQ xs) S1
 | .frz xs=>.ok (pQ xs) S1
 | .ref n=>opt (jU S1 n) λxs=>.ok (nY n xs.length) S1
 | .str x=>gd (x.cps.all (· < 128)=true) (.ok (pQ<|x.cps.toList.map λc=>.str ⟨#[c]⟩) S1)
 | _=>.no
section
variable {X:Cx}{pos:Pos}{tg e a b:aA}
def ZH{K:au}{J:Hp}{p:ak}(h:n_ K J p vs)(r:AVs K ρ0 J xs vs):JR K (pQ xs) (Itt K p) ρ0 J where
 go:=λi S H ρ x e R g=>by
  obtain⟨v,c,d⟩:=(AVs.mE e r).get g;have hs:=e.sqT h;refine⟨⟨vs,v,hs,c⟩,λw H' ⟨e1,y⟩=>?_⟩;subst e1;have:=y vs hs;rw[c]at this
  cases this
  exact⟨.refl,R,d⟩
 stop:=λS H ρ e R _=>⟨vs,e.sqT h,by rw[<- r.length];exact aO _⟩
def YT{K:au}{J:Hp}{p:ak}(h:Fz K J p vs)(r:AVs K ρ0 J xs vs):JR K (pQ xs) (Itl K p) ρ0 J where
 go:=λi S H ρ x e R g=>by
  obtain⟨v,c,d⟩:=(AVs.mE e r).get g;have hs:=(e.fz h).Qq;refine⟨⟨vs,v,hs,c⟩,λw H' ⟨e1,y⟩=>?_⟩;subst e1;have:=y vs hs;rw[c]at this
  cases this
  exact⟨.refl,R,d⟩
 stop:=λS H ρ e R _=>⟨vs,(e.fz h).Qq,by rw[<- r.length];exact aO _⟩
def aaO{K:au}{J:ba}{U:Hp}{p:ak}{n k:Nat}(h:J[n]?=some p):JR K (nY n k) (Itl K p) J U where
 go:=λi S H ρ x e R g=>by
  obtain⟨ys,hn,f⟩:=dX.mp<|show(jU S n).bind (·[i]?)=some x from g;obtain⟨c,h1,r⟩:=R.lst (e.get h)<|kc hn;obtain⟨v,d,j⟩:=r.get f;refine⟨⟨c,v,qt.of h1,d⟩,λw H' ⟨e1,y⟩=>?_⟩;subst e1;have:=y c<|qt.of h1;rw[d]at this
  cases this
  exact⟨.refl,R,j⟩
 stop:=λS H ρ e R g=>by
  have g:(match jU S n with
   | some ys=>decide (ys.length<=k)
   | none=>false)=true:=g
  cases hn:jU S n with
  | none=>rw[hn]at g;cases g
  | some ys=>
   rw[hn]at g;obtain⟨c,h1,r⟩:=R.lst (e.get h)<|kc hn;exact⟨c,qt.of h1,by rw[<- r.length];exact bP g⟩
def SO{K:au}{J:Hp}{lo hi:Int}:JR K (uU lo hi) (Itr lo (hi-lo).toNat) ρ0 J where
 go:=λi S H ρ x e R g=>by
  have g:(if i<(hi-lo).toNat then some (A.int<|lo+i)else none)=some x:=g;by_cases c:i<(hi-lo).toNat
  ·rw[aJ c]at g
   cases g
   refine⟨c,λw H' ⟨e1,y⟩=>?_⟩;subst e1 y;exact⟨.refl,R,.int _⟩
  ·rw[aI c]at g;cases g
 stop:=λS H ρ e R _=>aO _
def aaU{K:au}{J:Hp}{x:Str}:JR K (pQ<|x.cps.toList.map λc=>A.str ⟨#[c]⟩) (Its x) ρ0 J where
 go:=λi S H ρ y e R g=>by
  have g:(x.cps.toList.map λc=>A.str ⟨#[c]⟩)[i]?=some y:=g;rw[aQ]at g;obtain⟨c,hc,rfl⟩:=aY.mp g;rw[dJ]at hc;refine⟨(Array.getElem?_eq_some_iff.mp hc).1,λw H' ⟨e1,j,d,f⟩=>?_⟩;rw[hc]at d
  cases d
  subst e1 f;exact⟨.refl,R,.str _⟩
 stop:=λS H ρ e R _=>by
  show(x.cps.toList.map λc=>A.str ⟨#[c]⟩).length=x.cps.size;rw[aG,dI]
def qa{c:Ex}(J:AE X e c):AI X tg e (pV c):=λpins s σ H Q I h9=>by
 room;have d:=j3 h
 cases hc:c τ S with
 | no=>rw[hc]at d;exact d.elim
 | ex x S1=>
  rw[hc]at d;exact Pz J pins s σ H Q I ⟨ρ,S,τ,R,r,by rw[hc];exact d⟩
 | ok a S1=>
  rw[hc]at d
  cases a with
  | tup xs=>
   refine Pz J pins s σ H Q I ⟨ρ,S,τ,R,r,?_⟩;rw[hc];intro ρ1 H1 x e1 R1 v1
   cases v1 with
   | tup h1 r1=>exact⟨_,rfl,⟨_,(n_.of h1)⟩,d ρ1 H1 _ e1 R1<|ZH (n_.of h1) r1⟩
  | frz xs=>
   refine Lq J pins s σ H Q I ⟨ρ,S,τ,R,r,?_⟩;rw[hc];intro ρ1 H1 x e1 R1 v1
   cases v1 with
   | frz h1 r1=>exact⟨_,rfl,⟨_,h1.Qq⟩,d ρ1 H1 _ e1 R1<|YT h1 r1⟩
  | ref n=>
   obtain⟨xs,hn,d⟩:=jV d;refine Lq J pins s σ H Q I ⟨ρ,S,τ,R,r,?_⟩;rw[hc];intro ρ1 H1 x e1 R1 v1
   cases v1 with
   | ref f=>
    obtain⟨j,h1,r1⟩:=R1.lst f<|kc hn;exact⟨_,rfl,⟨_,qt.of h1⟩,d ρ1 H1 _ e1 R1<|aaO f⟩
  | str x=>
   obtain⟨g,d⟩:=ko d;refine aaC J pins s σ H Q I ⟨ρ,S,τ,R,r,?_⟩;rw[hc];intro ρ1 H1 v e1 R1 v1
   cases v1 with
   | str=>exact⟨x,rfl,g,d ρ1 H1 _ e1 R1 aaU⟩
  | _=>exact d.elim
abbrev bnd (i:Int):Prop:=-(2 ^ 62)<=i/\i<2 ^ 62
instance (i:Int):Decidable (bnd i):=by unfold bnd;infer_instance
abbrev yl (c:Ex):Ic:=λτ S=>(c τ S).bind λa S1=>match a with
 | .int j=>gd (bnd j) (.ok (uU 0 j) S1)
 | _=>.no
abbrev qI (c d:Ex):Ic:=λτ S=>(c τ S).bind λa S1=>(d τ S1).bind λb S2=>match a,b with
 | .int i,.int j=>gd (bnd i/\bnd j) (.ok (uU i j) S2)
 | _,_=>.no
def wk{p:Pos}{c:Ex}(J:X.mg "range" = none)(U:AE X a c)(hg:Gl X "range"<|>η)(hs:starEach [a] X.env=[(false,eval a X.env)]<|>η):AI X tg (.Call (.Name "range" p) [a] [] pos) (yl c):=λpins s σ H Q I h9=>by
 room;refine Oq hg J (AK U IW hs) hs pins s σ H Q I ⟨ρ,S,τ,R,r,jW (j3 h) .refl λx S1 h1 ρ1 H1 v e1 R1 v1=>?_⟩
 cases v1 with
 | int j=>
  obtain⟨d,h1⟩:=ko h1;exact⟨_,rfl,d.1,d.2,by have:=h1 ρ1 H1 _ e1 R1 SO;rwa [i_]at this⟩
 | _=>exact h1.elim
def tR{p:Pos}{c d:Ex}(hm:X.mg "range" = none)(ha:AE X a c)(U:AE X b d)(hg:Gl X "range"<|>η)(hs:starEach [a,b] X.env=[(false,eval a X.env),(false,eval b X.env)]<|>η)(J:starEach [b] X.env=[(false,eval b X.env)]<|>η):AI X tg (.Call (.Name "range" p) [a,b] [] pos) (qI c d):=λpins s σ H Q I h9=>by
 room;refine OB hg hm (AK ha (AK U IW J)<|by rw[hs,J]) hs J pins s σ H Q I ⟨ρ,S,τ,R,r,jW (j3 h) .refl λx S1 h1 ρ1 H1 v e1 R1 v1=>⟨ρ1,S1,τ,R1,r.ext e1,jW (j3 h1) e1 λy S2 h2 ρ2 H2 w e2 R2 v2=>?_⟩⟩
 cases v1 with
 | int i=>
  cases v2 with
  | int j=>
   obtain⟨U,h2⟩:=ko h2;exact⟨_,_,rfl,⟨U.1.1,U.1.2,U.2.1,U.2.2⟩,h2 ρ2 H2 _ (e1.trans e2) R2 SO⟩
  | _=>exact h2.elim
 | _=>exact h2.elim
abbrev r8 (s:Src)(g:Tg)(c:Sm):Nat->Nat->Sm
 | 0,_=>λτ S=>if s.fin S then .nx τ S else .no
 | k+1,i=>λτ S=>match s.get i S with
  | none=>.no
  | some x=>.of (g x τ S) λf S1=>match c f S1 with
   | .nx d e=>r8 s g c k (i+1) d e
   | .ct d e=>r8 s g c k (i+1) d e
   | .bk d e=>.nx d e
   | r=>r
abbrev mw (src:Ic)(g:Tg)(c:Sm):Sm:=λτ S=>.of (src τ S) λs S1=>r8 s g c s.k 0 τ S1
def nk{iter:aA}{src:Ic}{g:Tg}{c:Sm}(hp:PassesOwn (model X.prog X.w) X.A X.env X.xe)(hc:X.calm=true)(hi:AI X tg iter src)(hg:AG X tg g)(hb:Wx X body c)
  (hs:(∀x,foldedSetIterable iter X.env x=pure x)<|>θ):AS X (.For tg iter body [] pos) (mw src g c):=PS.imp (aac hp hc hi hg hb hs) λD σ H h9=>by
 room;refine⟨ρ,S,τ,R,r,jW (of_post h) .refl λs S1 h1 ρ1 H1 J e1 R1 jr=>?_⟩;refine⟨λi m B H'=>m+i=s.k/\∃ρ' p d,Ext ρ1 ρ' H1 H'/\Rel X.K ρ' H' p/\SR X.K ρ' H' d B/\Ft X ρ' H' D (r8 s g c m i d p),⟨s.k,rfl,ρ1,S1,τ,.refl,R1,r.ext e1,Ft.ext h1 e1⟩,?_⟩;rintro i m U H2 ⟨hm,ρ2,S2,C,e2,R2,r2,h2⟩
 cases m with
 | zero=>
  left;have h2:Ft X ρ2 H2 D (if s.fin S2 then .nx C S2 else .no):=h2
  cases hf:s.fin S2 with
  | false=>rw[hf]at h2;exact h2.elim
  | true=>
   rw[hf]at h2;refine⟨by rw[show i=s.k by lia];exact jr.stop S2 H2 ρ2 e2.toExt0 R2 hf,h2 ρ2 H2 U .refl R2 r2⟩
 | succ m=>
  right;have h2:Ft X ρ2 H2 D (match s.get i S2 with
   | none=>.no
   | some x=>.of (g x C S2) λO S1=>match c O S1 with
    | .nx d p=>r8 s g c m (i+1) d p
    | .ct d p=>r8 s g c m (i+1) d p
    | .bk d p=>.nx d p
    | r=>r):=h2
  cases V:s.get i S2 with
  | none=>rw[V]at h2;exact h2.elim
  | some x=>
   rw[V]at h2;obtain⟨T,hy⟩:=jr.go i S2 H2 ρ2 x e2.toExt0 R2 V;refine⟨T,λB H'=>m+(i+1)=s.k/\∃ρ' p d,Ext ρ1 ρ' H1 H'/\Rel X.K ρ' H' p/\SR X.K ρ' H' d B/\Ft X ρ' H' D (r8 s g c m (i+1) d p),λB H' z=>⟨m,fN _,z⟩,λv H3 y=>?_⟩;obtain⟨e3,R3,v3⟩:=hy v H3 y;refine⟨ρ2,S2,C,x,R3,r2.ext e3,v3,jW (of_post h2) e3 λM Z j W H4 σ4 e4 R4 r4=>⟨W,Z,M,R4,r4,?_⟩⟩;have e:=e3.trans e4
   cases f:c M Z with
   | nx q G=>rw[f]at j;exact λF H5 N L Y P=>⟨(),F,G,q,(e2.trans e).trans L,Y,P,Ft.ext j<|e.trans L⟩
   | ct q G=>rw[f]at j;exact λF H5 N L Y P=>⟨(),F,G,q,(e2.trans e).trans L,Y,P,Ft.ext j<|e.trans L⟩
   | bk q G=>rw[f]at j;exact QS.ext j e
   | rt x5 G=>rw[f]at j;exact CI.ext j e
   | ex x5 G=>rw[f]at j;exact XE.ext j e
   | no=>rw[f]at j;exact j
end
abbrev R.ye {α β:Type}(r:R α)(f:α->jT->R β):R β:=match r with
 | .ok a S=>f a S
 | _=>.no
def xV{α β:Type}{r:R α}{f:α->jT->R β}{b:β}(h:r.ye f=.ok b S2):∃a S,r=.ok a S/\f a S=.ok b S2:=by
 cases r with
 | ok a S=>exact⟨a,S,rfl,h⟩
 | ex _ _=>cases h
 | no=>cases h
def Jf{α β:Type}{r:R α}{f:α->jT->R β}{P:β->jT->Prop}{E:Str->jT->Prop}(h:(r.ye f).post P E):∃a S,r=.ok a S/\(f a S).post P E:=by
 cases r with
 | ok a S=>exact⟨a,S,rfl,h⟩
 | ex _ _=>exact h.elim
 | no=>exact h.elim
def ZT{α β:Type}{o:Option β}{f:β->R α}{a:α}(h:opt o f=.ok a S):∃b,o=some b/\f b=.ok a S:=by
 cases o with
 | none=>cases h
 | some b=>exact⟨b,rfl,h⟩
abbrev rD (s:Src)(g:Tg)(t:Te)(e:Ex):Nat->Nat->ae->jT->R (ae)
 | 0,_=>λ_ S=>if s.fin S then .ok [] S else .no
 | k+1,i=>λτ S=>opt (s.get i S) λx=>(g x τ S).ye λc S1=>(t c S1).ye λb S2=>match b with
  | true=>(e c S2).ye λy S3=>(rD s g t e k (i+1) c S3).ye λys d=>.ok (y::ys) d
  | false=>rD s g t e k (i+1) c S2
abbrev nV (cap:List<|bn)(τ:ae):ae:=cap.map λo=>match o with
 | some j=>τ.getD j .unb
 | none=>.unb
abbrev mR (cap:List<|bn)(src:Ic)(g:Tg)(t:Te)(e:Ex):Ex:=λτ S=>(src τ S).bind λs S1=>(rD s g t e s.k 0 (nV cap τ) S1).ye λys S2=>newL ys S2
abbrev OA:Te:=λ_ S=>.ok true S
def GU{s:Src}{g:Tg}{t:Te}{e:Ex}{k:Nat}{T:Prop}(h:rD s g t e (k+1) i τ S=.ok zs S')
  (q:∀x τ1 S1 b S2,s.get i S=some x->g x τ S=.ok τ1 S1->t τ1 S1=.ok b S2->(b=true->∃y S3 ws,e τ1 S2=.ok y S3/\rD s g t e k (i+1) τ1 S3=.ok ws S'/\zs=y::ws)->(b=false->rD s g t e k (i+1) τ1 S2=.ok zs S')->T):T:=by
 obtain⟨x,d,h⟩:=ZT h;obtain⟨τ1,S1,h1,h⟩:=xV h;obtain⟨b,S2,h2,h⟩:=xV h;refine q x τ1 S1 b S2 d h1 h2 (λc=>?_) λc=>?_
 ·subst c;obtain⟨y,S3,h3,h⟩:=xV h;obtain⟨ws,j,f,h⟩:=xV h
  cases h
  exact⟨y,S3,ws,h3,f,rfl⟩
 ·subst c;exact h
structure Out (ρ1:ba)(H1:Hp)(D:ak)(accV:List V)(ρ:ba)(H:Hp):Prop where
 e0:Ext0 ρ1 ρ H1 H
 fr:∀a u,a≠D->H1 a=some u->a∉ρ1->H a=some u
 nw:∀a∈ρ,a∈ρ1\/H1 a=none
 nD:D∉ρ
 hD:H D=some (.lst accV)
def Out.stay{H1 H3 H7:Hp}{D:ak}(o:Out ρ1 H1 D accV ρ3 H3)(U:H1 D=none)(J:Ext ρ3 ρ7 H3 H7):Out ρ1 H1 D accV ρ7 H7:=by
 refine⟨⟨o.e0.pre.trans J.pre,λa u i h=>J.im a u i<|o.e0.im a u i h⟩,λa u na c e=>J.fr a u (o.fr a u na c e) λz=>(o.nw a z).elim e λz=>by(rw[z]at c;cases c),λa f=>?_,λz=>(J.nw D z).elim o.nD λz=>by(rw[o.hD]at z;cases z),J.fr D _ o.hD o.nD⟩;by_cases d:a∈ρ1
 ·exact .inl d
 ·right
  cases q:H1 a with
  | none=>rfl
  | some u=>
   have g:a≠D:=kF q U
   rcases J.nw a f with z|z
   ·exact((o.nw a z).elim d λz=>by(rw[z]at q;cases q)).elim
   ·rw[o.fr a u g q d]at z;cases z
def Out.put{H1 H:Hp}{D:ak}(o:Out ρ1 H1 D accV ρ H)(ex:Ext0 ρ ρ H<|upd H D<|.lst vs):Out ρ1 H1 D vs ρ (upd H D<|.lst vs):=
 ⟨⟨o.e0.pre,λa u i h=>ex.im a u i<|o.e0.im a u i h⟩,λa u na c d=>by rw[j7 na];exact o.fr a u na c d,o.nw,o.nD,kZ⟩
def Out.end{H1 H:Hp}{D:ak}(o:Out ρ1 H1 D accV ρ H)(J:H1 D=none):Ext ρ1 (ρ++[D]) H1 H:=by
 refine⟨⟨o.e0.pre.trans<|eV _ _,o.e0.im⟩,λa u c na=>o.fr a u (kF c J) c na,λa d=>?_⟩
 rcases br.mp d with z|z
 ·exact o.nw a z
 ·have:a=D:=by simpa using z
  rw[this];exact .inr J
abbrev Cq (K:au)(ρ1:ba)(H1:Hp)(D:ak)(ys:ae)(k:Nat)(E:ba->Hp->Prop)(P:Nat->Nat->ae->jT->ae->Prop)(i m:Nat)(σ:L2.St)(H:Hp):Prop:=
 m+i=k/\∃ρ S τ acc zs accV,Out ρ1 H1 D accV ρ H/\E ρ H/\Rel K ρ H S/\SR K ρ H τ σ/\AVs K ρ H acc accV/\P m i τ S zs/\acc++zs=ys
section
variable {K:au}{ρ1 ρ:ba}{H1 H:Hp}{D:ak}{ys acc zs:ae}{accV:List V}{k i m:Nat}{E:ba->Hp->Prop}{P:Nat->Nat->ae->jT->ae->Prop}{σ:L2.St}{S:jT}{τ:ae}
def Cq.el{T:Prop}(h:Cq K ρ1 H1 D ys k E P i m σ H)(q:∀ρ S τ acc zs accV,m+i=k->Out ρ1 H1 D accV ρ H->E ρ H->Rel K ρ H S->SR K ρ H τ σ->AVs K ρ H acc accV->P m i τ S zs->acc++zs=ys->T):T:=by
 obtain⟨c,ρ,S,τ,acc,zs,accV,h1,h2,h3,e,g,f,d⟩:=h;exact q ρ S τ acc zs accV c h1 h2 h3 e g f d
def Cq.of(J:m+i=k)(o:Out ρ1 H1 D accV ρ H)(e:E ρ H)(R:Rel K ρ H S)(r:SR K ρ H τ σ)(v:AVs K ρ H acc accV)(p:P m i τ S zs)(q:acc++zs=ys):Cq K ρ1 H1 D ys k E P i m σ H:=⟨J,ρ,S,τ,acc,zs,accV,o,e,R,r,v,p,q⟩
end
abbrev tE0 (K:au)(c:Ex):TE:=λσ H Q=>∃ρ S τ a d,Rel K ρ H S/\SR K ρ H τ σ/\c τ S=.ok a d/\∀ρ' H' v,Ext ρ ρ' H H'->Rel K ρ' H' d->AV K ρ' H' a v->Q v H'
abbrev tT0 (K:au)(c:Te):TT:=λσ H Q=>∃ρ S τ a d,Rel K ρ H S/\SR K ρ H τ σ/\c τ S=.ok a d/\∀ρ' H',Ext ρ ρ' H H'->Rel K ρ' H' d->Q a H'
abbrev tG0 (K:au)(g:Tg):TG:=λv σ H Q=>∃ρ S τ a c e,Rel K ρ H S/\SR K ρ H τ σ/\AV K ρ H a v/\g a τ S=.ok c e/\∀ρ' H' d,Ext ρ ρ' H H'->Rel K ρ' H' e->SR K ρ' H' c d->Q d H'
section
variable {X:Cx}{pos:Pos}{tg iter elt e:aA}{ifs:List aA}{scope:Scope}{N:ar}{cap:List (bn)}{src:Ic}{g:Tg}{t:Te}{c:Ex}
def AE.e0{K:au}(hK:X.K=K)(h:AE X e c):PE X e (tE0 K c):=PE.imp h λσ H Q ⟨ρ,S,τ,a,g,R,r,hc,q⟩=>⟨ρ,S,τ,by rw[hK];exact R,by rw[hK];exact r,by rw[hc];exact λρ' H' v e d f=>q ρ' H' v e (by rw[<- hK];exact d)<|by rw[<- hK];exact f⟩
def AT.t0{K:au}(hK:X.K=K)(h:AT X e t):PT X e (tT0 K t):=PT.imp h λσ H Q ⟨ρ,S,τ,a,d,R,r,hc,q⟩=>⟨ρ,S,τ,by rw[hK];exact R,by rw[hK];exact r,by rw[hc];exact λρ' H' e c=>q ρ' H' e<|by rw[<- hK];exact c⟩
def AG.g0{K:au}(hK:X.K=K)(h:AG X e g):PG X e (tG0 K g):=by
 subst hK;refine PG.imp h λv σ H Q h9=>?_;obtain⟨ρ,S,τ,a,c,d,R,r,va,hc,q⟩:=h9;exact⟨ρ,S,τ,a,R,r,va,by rw[hc];exact q⟩
abbrev ATs (X:Cx)(ifs:List aA)(t:Te):Prop:=PTs X ifs<|tT0 X.K t
def KW:ATs X [] OA:=λpins s σ H Q I ⟨ρ,S,τ,a,c,R,r,hc,q⟩=>VP pins s σ H Q I<|by cases hc;exact q ρ H .refl R
def uy(h:AT X e t):ATs X [e] t:=U_<|h.t0 rfl
def acm{K:au}{H:Hp}(r:SR K ρ H τ σ)(cap:List<|bn):SR K ρ H (nV cap τ) (cap.map<|aa1 σ):=by
 refine⟨by simp[nV],λi a h=>?_⟩;unfold nV at h;rw[aQ]at h;obtain⟨o,d,e⟩:=aY.mp h
 cases o with
 | none=>exact .inl e.symm
 | some j=>
  have e:τ.getD j .unb=a:=e
  cases c:τ[j]? with
  | none=>rw[aK,c]at e;exact .inl e.symm
  | some b=>
   rw[aK,c]at e;have e:b=a:=e;subst e
   rcases r.at j b c with z|⟨v,h1,h2⟩
   ·exact .inl z
   ·exact .inr ⟨v,by rw[aQ,d];show some ((σ[j]?).getD none)=_;rw[h1];rfl,h2⟩
def Rel.Gq{K:au}{H:Hp}{p:ak}(R:Rel K ρ H S)(J:H p=none):p∉ρ:=λf=>by
 obtain⟨n,hn,e⟩:=List.mem_iff_getElem.mp f;have g:n<S.length:=by rw[<- R.len];exact hn
 have:=R.at n p S[n] (by rw[aE hn,e]) (aE g)
 cases c:S[n]with
 | lst xs=>rw[c]at this;obtain⟨d,h,_⟩:=this;rw[J]at h;cases h
 | dct _|nX _|dks _|dcp _=>rw[c]at this;obtain⟨d,h,_⟩:=this;rw[J]at h;cases h
 | dcf _|dkf _=>rw[c]at this;obtain⟨_,d,h,_⟩:=this;rw[J]at h;cases h
 | ins _ _=>rw[c]at this;obtain⟨_,_,h⟩:=this;rw[J]at h;cases h
def Gn(σ:L2.St)(H:Hp)(Q:VK)(h:tE X (mR cap src g t c) σ H Q):tLC cap (tI X src) (tG0 X.K g) (tT0 X.K t) (tE0 X.K c) σ H Q:=by
 obtain⟨ρ,S,τ,R,r,h⟩:=h;refine⟨ρ,S,τ,R,r,jW (j3 h) .refl λs S1 h1 ρ1 H1 J e1 R1 jr D hD=>?_⟩;obtain⟨ys,S2,P,h1⟩:=Jf h1;obtain⟨C,h1⟩:=ko h1;have h1:CI X ρ H Q (.ref S2.length) (S2++[.lst ys]):=h1;obtain⟨eD,RD⟩:=R1.im (u:=.lst []) hD;refine⟨Cq X.K ρ1 H1 D ys s.k (λ_ _=>True) λm i τ S zs=>rD s g t c m i τ S=.ok zs S2,⟨s.k,.of rfl ⟨eD.toExt0,λa u na hu _=>by rw[j7 na];exact hu,λa ha=>.inl ha,R1.Gq hD,kZ⟩ trivial RD (acm ((r.ext e1).ext eD) cap) .nil P rfl⟩,?_⟩;intro i m σ3 H3 hw;refine hw.el λρ3 S3 Y acc zs accV hm B _ R3 r3 j d e=>?_;clear hw
 cases m with
 | zero=>
  left;have d:(if s.fin S3 then Am.R.ok [] S3 else .no)=.ok zs S2:=d
  cases hf:s.fin S3 with
  | false=>rw[hf]at d;cases d
  | true=>
   rw[hf]at d
   cases d
   rw[cI]at e;subst e;refine⟨by rw[show i=s.k by lia];exact jr.stop _ H3 ρ3 B.e0 R3 hf,?_⟩;obtain⟨RT,gt⟩:=R3.take B.hD B.nD j;exact h1 (ρ3++[D]) H3 _ (e1.trans<|B.end hD) RT<|.ref gt
 | succ m=>
  right;refine GU d λx p S4 b S5 hx T O hT hF=>?_;have jg:=jr.go i S3 H3 ρ3 x B.e0 R3 hx;refine⟨jg.1,λv H4 y=>?_⟩;obtain⟨e4,R4,v4⟩:=jg.2 v H4 y;refine⟨ρ3,S3,Y,x,p,S4,R4,r3.ext e4,v4,T,λV H5 σ5 e5 R5 M=>⟨V,S4,p,b,S5,R5,M,O,λZ H6 G R6=>?_⟩⟩;have f:=(e4.trans e5).trans G
  cases b with
  | false=>
   dsimp only;rw[aI bJ];exact⟨m,fN _,.of () (B.stay hD f) trivial R6 (M.ext G) (j.ext f) (hF rfl) e⟩
  | true=>
   dsimp only;rw[aJ rfl];obtain⟨y,S6,ws,U,N,F⟩:=hT rfl;refine⟨Z,S5,p,y,S6,R6,M.ext G,U,λρ7 H7 w W R7 v7=>?_⟩;have L:=B.stay hD<|f.trans W;obtain⟨q,R8⟩:=R7.out (ws:=accV++[w]) L.hD L.nD;have l1:=j.length;refine⟨accV,L.hD,?_,m,fN _,.of () (L.put q) trivial R8 ((M.ext<|G.trans W).mE q) (AVs.mE q<|(j.ext<|f.trans W).append<|.one v7) N ?_⟩
   ·have:(acc++zs).length<=sizeLine:=by rw[e];exact C
    rw[F,bg,bA]at this
    lia
   ·rw[cA,<- e,F];rfl
def v5(hc:X.calm=true)(J:CpScope X scope N cap)(hi:AI X tg iter src)(hg:∀C s₀ H₀ ex,AG (pS X scope N C s₀ H₀ ex) tg g)(U:∀C s₀ H₀ ex,ATs (pS X scope N C s₀ H₀ ex) ifs t)(he:∀C s₀ H₀ ex,AE (pS X scope N C s₀ H₀ ex) elt c)
  (hs:(∀x,foldedSetIterable iter X.env x=pure x)<|>θ):AE X (.ListComp elt [⟨tg,iter,ifs,0⟩] scope pos) (mR cap src g t c):=
 PE.imp (abA hc J hi (g:=tG0 X.K g) (tc:=tT0 X.K t) (te:=tE0 X.K c) (λC s₀ H₀ ex=>(hg C s₀ H₀ ex).g0 rfl) (λC s₀ H₀ ex=>U C s₀ H₀ ex) (λC s₀ H₀ ex=>(he C s₀ H₀ ex).e0 rfl) hs) Gn
def DY{i:Nat}{x:Str}{J:Pos}(hN:X.N.Nodup)(hc:X.calm=true)(Sc:CpScope X scope N cap)(hi:AI X tg iter src)(hg:∀C s₀ H₀ ex,AG (pS X scope N C s₀ H₀ ex) tg g)(ht:∀C s₀ H₀ ex,ATs (pS X scope N C s₀ H₀ ex) ifs t)(he:∀C s₀ H₀ ex,AE (pS X scope N C s₀ H₀ ex) elt c)
  (U:X.N[i]?=some x<|>η) (hx:Loc X.env.scope x:=by first|exact Or.inl rfl|exact Or.inr rfl)
  (hsw:(swapsWith (.ListComp elt [⟨tg,iter,ifs,0⟩] scope pos) (some<|.Name x pos') J.line X.env=pure true)<|>η) (hf:X.fn x=true\/X.env.scope.names.lookup x=some .local<|>γ)
  (hs:(∀x,foldedSetIterable iter X.env x=pure x)<|>θ):AS X (.Assign [.Name x pos'] (.ListComp elt [⟨tg,iter,ifs,0⟩] scope pos) J) (kR (mR cap src g t c)<|kY i):=
 PS.imp (SG hN U hx hc Sc hi (g:=tG0 X.K g) (tc:=tT0 X.K t) (te:=tE0 X.K c) (λC s₀ H₀ ex=>(hg C s₀ H₀ ex).g0 rfl) (λC s₀ H₀ ex=>ht C s₀ H₀ ex) (λC s₀ H₀ ex=>(he C s₀ H₀ ex).e0 rfl) hsw hf hs) λD σ H ⟨ρ,S,τ,R,r,h⟩=>
  Gn σ H _ ⟨ρ,S,τ,R,r,jW (of_post h) .refl λa S1 h1 ρ1 H1 x e1 R1 v1=>h1 ρ1 H1 _ e1 R1<|(r.ext e1).set v1⟩
end
abbrev A.lst? (S:jT):A->Option (ae)
 | .ref n=>jU S n
 | _=>none
abbrev Zp (f:A->ae->jT->R A)(co:Ex)(d:qQ):Ex:=λτ S=>(co τ S).bind λo S1=>opt (o.lst? S1) λ_=>(d τ S1).bind λas S2=>f o as S2
abbrev adP (f:A->ae->jT->R A)(co:Ex):Ex:=λτ S=>(co τ S).bind λo S1=>opt (o.lst? S1) λ_=>f o [] S1
abbrev rM (X:Cx)(f:A->ae->jT->R A):V->List V->Hp->VK->Prop:=λx c H Q=>∃ρ S o as,Rel X.K ρ H S/\AV X.K ρ H o x/\AVs X.K ρ H as c/\(f o as S).post (CI X ρ H Q) (XE X ρ H)
section
variable {X:Cx}{apos cpos:Pos}{o e:aA}{es:List aA}{name:Str}{id:String}{f:A->ae->jT->R A}{co:Ex}{d:qQ}
def lst?_ty{K:au}{H:Hp}{x:A}{v:V}(R:Rel K ρ H S)(h:AV K ρ H x v)(e:x.lst? S=some xs):tyV K "list" v H:=by
 cases h with
 | ref h=>
  obtain⟨c,h1,_⟩:=R.lst h<|kc e;exact .inl ⟨rfl,c,qt.of h1⟩
 | _=>cases e
def GD(slot:Slot "list" name id)(hty:typeOf (.builtin id)=pure (.type "method_descriptor"))(hm:Ja X id<|rM X f)(ho:AE X o co)(ha:AL X (e::es) d)
  (U:attributeBase o name X.env (eval o X.env)=eval o X.env<|>η)
  (hfew:(((backTo cpos<|starEach (e::es) X.env).all (λx=>!x.1) && (backToKw cpos<|keywordEach [] X.env).all (λx=>x.1.isSome)
   && decide ((e::es).length+([]:List Keyword).length+(if ([]:List Keyword).isEmpty then 0 else 1)<30))=true)<|>η)
  (hline:(apos.endLine == cpos.line)=true<|>η) (hs:starEach (e::es) X.env=(false,eval e X.env)::starEach es X.env<|>η) (J:((backTo cpos<|starEach es X.env).any (·.1)=false)<|>η) :
  AE X (.Call (.Attribute o name apos) (e::es) [] cpos) (Zp f co d):=PE.imp (Rf PySem.F.plainAttrs_list slot hty hm ho ha U hfew hline hs J) λσ H Q h9=>by
 room;kcj_m;obtain⟨xs,c,h1⟩:=jV h1;refine⟨lst?_ty R1 v1 c,ρ1,S1,τ,R1,r.ext e1,jW (j3 h1) e1 λas S2 h2 ρ2 H2 g e2 R2 v2=>?_⟩;kpc_g
abbrev Ai (o:A)(as:ae)(S:jT):R A:=match o,as with
 | .ref n,[x]=>opt (jU S n) λxs=>gd (xs.length<sizeLine) (.ok .non<|S.set n<|.lst<|xs++[x])
 | _,_=>.no
def HU:Ja X "list.append" (rM X Ai):=λpins s σ H x j v us Q I rx f h9=>by
 kl_no
 cases vo with
 | @ref p n c=>
  match as,va,h with
  | [],_,h=>exact h.elim
  | _::_::_,_,h=>exact h.elim
  | [y],va,h=>
   obtain⟨w,rfl,hw⟩:=Ow va;gn_on;obtain⟨e,h⟩:=ko h;obtain⟨g,h1,r⟩:=R.lst c<|kc hn;obtain⟨ex,d⟩:=R.put c (kc hn)<|r.append<|.one hw;exact C6 pins s σ H _ _ v us Q I rx f ⟨p,g,w,rfl,rfl,h1,by rw[<- r.length];exact e,h _ _ _ ex d .non⟩
 | _=>exact h.elim
abbrev Cf (o:A)(as:ae)(S:jT):R A:=match o,as with
 | .ref n,[.int i]=>opt (jU S n) λxs=>gd (-(2 ^ 63)<=i/\i<2 ^ 63) (opt (seqIndex? i xs.length) λk=>opt (xs[k]?) λx=>.ok x<|S.set n<|.lst<|xs.eraseIdx k)
 | _,_=>.no
def LX:Ja X "list.pop" (rM X Cf):=λpins s σ H x m v us Q I rx g h9=>by
 kl_no
 cases vo with
 | @ref p n c=>
  match as,va,h with
  | [],_,h=>exact h.elim
  | y::_::_,_,h=>exact(by cases y<;>exact h.elim)
  | [y],va,h=>
   obtain⟨w,rfl,hw⟩:=Ow va
   cases hw with
   | int i=>
    gn_on;obtain⟨hi,h⟩:=ko h;obtain⟨k,e,h⟩:=jV h;obtain⟨y,f,h⟩:=jV h;obtain⟨j,h1,r⟩:=R.lst c<|kc hn;obtain⟨w,hw,vw⟩:=r.get f;obtain⟨ex,d⟩:=R.put c (kc hn)<|r.eraseIdx k;exact SI pins s σ H _ _ v us Q I rx g ⟨p,j,i,k,w,rfl,rfl,h1,hi.1,hi.2,by rw[<- r.length];exact e,hw,h _ _ _ ex d<|vw.ext ex⟩
   | _=>exact h.elim
 | _=>exact h.elim
end
abbrev lZ (N:ar)(m:Sm)(as:ae)(S:jT):R A:=match m (as++List.replicate (N.length-as.length) .unb) S with
 | .rt a d=>.ok a d
 | .nx _ d=>.ok .non d
 | .ex c d=>.ex c d
 | _=>.no
abbrev rP (K:au)(n:Nat)(F:ae->jT->R A):Sp:=λc H Q _=>c.length=n/\∃ρ S as a d,Rel K ρ H S/\AVs K ρ H as c/\F as S=.ok a d/\∀ρ' H' v,Ext ρ ρ' H H'->Rel K ρ' H' d->AV K ρ' H' a v->Q v H'
def WH{K:au}{H:Hp}{as:ae}(r:AVs K ρ H as vs)(N:ar):SR K ρ H (as++List.replicate (N.length-as.length) .unb) (L2.start N vs):=by
 have d:=r.length;refine⟨by unfold L2.start;simp[d],λi a h=>?_⟩;by_cases hi:i<as.length
 ·rw[bE hi]at h;obtain⟨v,hv,c⟩:=r.get h;exact .inr ⟨v,by unfold L2.start;rw[bE<|by simp;lia,aQ,hv];rfl,c⟩
 ·rw[gh (),List.getElem?_replicate]at h;split at h
  ·exact .inl (bz h).symm
  ·cases h
section
variable {P:aj}{w:ah}{K:au}{mg:Str->bb}{base:aq}
def uG{x:Str}{st:aC}{f:ak}{N ps:ar}{k:Nat}{m:Sm}(F:Fun K x qual st f fd)(Sc:FnScope N ps<|j9 st)
  (U:∀(cdv:af) (A:ay) (outer:List Env) (s:az) (H:Hp) (E:XK),Room k (A.deeper<|envOfC qual (j9 st) s.heap.objs.size f cdv)->Wx (Iu qG P w K mg base N qual (j9 st) f cdv A outer s H E).nox (rX st) m) :
  FnOk P w K mg base qG (k+1) f fd ps (rP K ps.length<|lZ N m):=by
 refine F.ok Sc (λj H Q E h=>h.1) λcdv B outer s H j Q E C ⟨L,ρ,S,as,a,J,R,va,d,q⟩=>⟨_,U cdv B outer s H E C,ρ,S,_,R,WH va N,?_⟩;unfold lZ at d
 cases g:m (as++List.replicate (N.length-as.length) .unb) S with
 | rt b S2=>rw[g]at d;cases d;exact q
 | nx τ S2=>rw[g]at d;cases d;exact λρ' H' G e p _=>q ρ' H' _ e p .non
 | bk τ S2=>rw[g]at d;cases d
 | ct τ S2=>rw[g]at d;cases d
 | ex c S2=>rw[g]at d;cases d
 | no=>rw[g]at d;cases d
end
meta abbrev n8 (P:aj)(w:ah)(K:au)(mg:Str->bb)(base:aq)(k:Nat)(x:Str)(ps:ar)(F:ae->jT->R A):Prop:=Kn P w K mg base k x ps<|rP K ps.length F
abbrev eFn (F:ae->jT->R A)(d:qQ):Ex:=λτ S=>(d τ S).bind λas S1=>match F as S1 with
 | .ok a S2=>.ok a S2
 | _=>.no
section
variable {X:Cx}{pos p:Pos}{e:aA}{es:List aA}{x:Str}{ps:ar}{k:Nat}{F:ae->jT->R A}{d:qQ}
def nG(G:n8 X.prog X.w X.K X.mg X.base k x ps F)(hr:Room k X.A)(ha:AL X (e::es) d)(hl:∀τ S as S',d τ S=.ok as S'->as.length=ps.length)(hg:Gl X x<|>η)(U:(x == ("__debug__" : Str))=false<|>δ)
  (hs:starEach (e::es) X.env=(false,eval e X.env)::starEach es X.env<|>η) (J:((backTo pos<|starEach es X.env).any (·.1)=false)<|>η):AE X (.Call (.Name x p) (e::es) [] pos) (eFn F d):=
 PE.imp (ac1 G hr ha hg U hs J) λσ H Q h9=>by
  room;refine⟨ρ,S,τ,R,r,?_⟩;have f:=j3 h
  cases g:d τ S with
  | no=>rw[g]at f;exact f
  | ex c S1=>rw[g]at f;exact f
  | ok as S1=>
   rw[g]at f;intro ρ1 H1 m e1 R1 v1;rw[cI];refine⟨by rw[<- v1.length];exact hl τ S as S1 g,ρ1,S1,as,?_⟩;have f:Am.R.post (match F as S1 with
    | .ok a S2=>.ok a S2
    | _=>.no) (CI X ρ H Q) (XE X ρ H):=f
   cases j:F as S1 with
   | ok a S2=>rw[j]at f;exact⟨a,S2,R1,v1,rfl,λρ2 H2 v e2=>f ρ2 H2 v<|e1.trans e2⟩
   | ex c S2=>rw[j]at f;exact f.elim
   | no=>rw[j]at f;exact f.elim
def ly:∀τ S as S',j5 τ S=.ok as S'->as.length=0:=λτ S as S' h=>by cases h;rfl
def j8{c:Ex}{d:qQ}{n:Nat}(h:∀τ S as S',d τ S=.ok as S'->as.length=n):∀τ S as S',jQ c d τ S=.ok as S'->as.length=n+1:=λτ S as S' e=>by
 unfold jQ at e
 cases hc:c τ S with
 | ok a S1=>
  rw[hc]at e
  cases f:d τ S1 with
  | ok bs S2=>
   have e:R.bind (d τ S1) (λas S2=>.ok (a::as) S2)=.ok as S':=e;rw[f]at e;cases e;rw[bA,h τ S1 bs _ f]
  | ex _ _=>
   have e:R.bind (d τ S1) (λas S2=>.ok (a::as) S2)=.ok as S':=e;rw[f]at e;cases e
  | no=>
   have e:R.bind (d τ S1) (λas S2=>.ok (a::as) S2)=.ok as S':=e;rw[f]at e;cases e
 | ex _ _=>rw[hc]at e;cases e
 | no=>rw[hc]at e;cases e
end
section
variable {X:Cx}{pos:Pos}{a b c d:aA}
abbrev kCh (J:A->A->jT->R A)(U:Ex)(τ:ae)(b k:A)(S:jT):R A:=match k with
 | .bl true=>(U τ S).bind λc d=>J b c d
 | .bl false=>.ok (.bl false) S
 | _=>.no
abbrev eCh (f J:A->A->jT->R A)(ca cb U:Ex):Ex:=λτ S=>(ca τ S).bind λa S1=>(cb τ S1).bind λb S2=>(f a b S2).bind λk S3=>kCh J U τ b k S3
def aah{f J:A->A->jT->R A}{ca cb U:Ex}{H:Hp}{Q:VK}(h:tE X (eCh f J ca cb U) σ H Q):TL (r2 X f) (r2 X J) (tE X ca) (tE X cb) (tE X U) σ H Q:=by
 obtain⟨ρ,S,τ,R,r,h⟩:=h;refine⟨ρ,S,τ,R,r,jW (j3 h) .refl λa S1 h1 ρ1 H1 x e1 R1 v1=>⟨ρ1,S1,τ,R1,r.ext e1,jW (j3 h1) e1 λb S2 h2 ρ2 H2 y e2 R2 v2=>?_⟩⟩;have e:=e1.trans e2;refine⟨ρ2,S2,a,b,R2,v1.ext e2,v2,jW (j3 h2) e λk S3 h3 ρ3 H3 z e3 R3 p=>?_⟩;have d:=e.trans e3
 cases k with
 | bl k=>
  cases GW p
  refine⟨k,rfl,?_⟩
  cases k with
  | true=>
   rw[aJ rfl];exact⟨ρ3,S3,τ,R3,r.ext d,jW (j3 h3) d λc C F j G w g m B=>⟨j,C,b,c,m,v2.ext<|e3.trans g,B,jW F (d.trans g) λ_ _ q=>q.ext<|d.trans g⟩⟩
  | false=>
   rw[aI bJ];exact h3 ρ3 H3 _ d R3<|.bl false
 | _=>exact h3.elim
def abn{f U:A->A->jT->R A}{ca cb cc:Ex}(ho:pR X (compareOp op)<|r2 X f)(J:pR X (compareOp op')<|r2 X U)(ha:AE X a ca)(hb:AE X b cb)(hc:AE X c cc)(hm:lastMarks [op,op'] [b,c]=false<|>ι) :
  AE X (.Compare a [op,op'] [b,c] pos) (eCh f U ca cb cc):=PE.imp (RB ho J ha hb hc hm) λ_ _ _ h=>aah h
abbrev A.flat:A->Bool
 | .non=>true
 | .bl _=>true
 | .int _=>true
 | .str _=>true
 | _=>false
abbrev Xl:A->A->Bool
 | .non,.non=>true
 | .bl a,.bl b=>a == b
 | .bl a,.int b=>(if a then 1 else 0) == b
 | .int a,.bl b=>a == (if b then 1 else 0)
 | .int a,.int b=>a == b
 | .str a,.str b=>a == b
 | _,_=>false
def MF{K:au}{H:Hp}{x:A}{v:V}(h:AV K ρ H x v)(f:x.flat=true):qY v=true:=by cases h<;>first|rfl|cases f
def JX{K:au}{H:Hp}{x y:A}{v:V}(h:AV K ρ H x v)(h':AV K ρ H y u)(f:x.flat=true)(J:y.flat=true):H_ v u=Xl x y:=by
 cases h<;>cases h'<;>first|rfl|(cases f;done)|(cases J;done)
theorem FD{K:au}{H:Hp}{x:A}{v:V}(h:AV K ρ H x v)(f:x.flat=true):∀{ys:ae}{us:List V},AVs K ρ H ys us->ys.all A.flat=true->inV v us=(ys.any λz=>Xl z x)/\us.all qY=true
 | _,_,.nil,_=>⟨rfl,rfl⟩
 | y::ys,u::us,.cons hy t,fs=>by
  rw[iN,b_]at fs;obtain⟨h1,h2⟩:=FD h f t fs.2;refine⟨?_,by rw[iN,MF hy fs.1,h2];rfl⟩;show(H_ u v || inV v us)=_;rw[h1,JX hy h fs.1 f];rfl
abbrev inA (S:jT)(x:A):ae->bj
 | []=>some false
 | z::zs=>(Xg S 12 z x).bind λp=>(inA S x zs).map λq=>p || q
abbrev RK (J:Bool)(x y:A)(S:jT):R A:=match x with
 | .int _=>opt (y.seq S) λys=>opt (inA S x ys) λb=>.ok (.bl<|if J then !b else b) S
 | _=>.no
theorem KP{t:Int}:∀{ys:ae}{b:Bool},inA S (.int t) ys=some b->ys.all A.flat=true/\b=ys.any λz=>Xl z (.int t)
 | [],b,h=>by cases h;exact⟨rfl,rfl⟩
 | z::zs,b,h=>by
  obtain⟨p,e,h⟩:=dX.mp h;obtain⟨q,d,rfl⟩:=aY.mp h;obtain⟨a,rfl⟩:=KP d
  rcases JB e with⟨i,j,rfl,c,rfl⟩|⟨_,_,_,c,_⟩|⟨_,_,_,_,c,_⟩<;>cases c
  exact⟨by rw[iN,a];rfl,rfl⟩
def Hu{J:Bool}{x y:A}{P:A->jT->Prop}{E:Str->jT->Prop}(h:(RK J x y S).post P E):∃t ys,x=.int t/\y.seq S=some ys/\ys.all A.flat=true/\P (.bl<|if J then !(ys.any λz=>Xl z<|.int t)else ys.any λz=>Xl z<|.int t) S:=by
 unfold RK at h;split at h
 ·obtain⟨ys,c,h⟩:=jV h;obtain⟨k,d,h⟩:=jV h;obtain⟨a,rfl⟩:=KP d;exact⟨_,ys,rfl,c,a,h⟩
 ·exact h.elim
def abX(J:X.A.units+64<cLine):pR X (compareOp .In) (r2 X<|RK false):=λpins s σ H x y v u Q I rx ry h9=>by
 z_go;obtain⟨t,ys,rfl,d,fl,h⟩:=Hu h;obtain⟨p,us,rfl,hs,r⟩:=Ig R vb d
 cases va
 obtain⟨e,c⟩:=FD (x:=.int t) (.int t) rfl r fl;exact N3 pins s σ H _ _ v u Q I rx ry ⟨p,us,rfl,hs,rfl,c,by rw[e];exact h _ _ _ .refl R<|.bl _⟩
def V1(J:X.A.units+64<cLine):pR X (compareOp .NotIn) (r2 X<|RK true):=λpins s σ H x y v u Q I rx ry h9=>by
 z_go;obtain⟨t,ys,rfl,d,fl,h⟩:=Hu h;obtain⟨p,us,rfl,hs,r⟩:=Ig R vb d
 cases va
 obtain⟨e,c⟩:=FD (x:=.int t) (.int t) rfl r fl;exact EN pins s σ H _ _ v u Q I rx ry ⟨p,us,rfl,hs,rfl,c,by rw[e];exact h _ _ _ .refl R<|.bl _⟩
abbrev ZY (o:A)(as:ae)(S:jT):R A:=match as with
 | [x]=>opt (o.seq S) λys=>gd (x.flat=true/\ys.all A.flat=true) (opt (ys.findIdx? λz=>Xl z x) λk=>.ok (.int (k:Nat)) S)
 | _=>.no
abbrev Bq (co:Ex)(d:qQ):Ex:=λτ S=>(co τ S).bind λo S1=>opt (o.seq S1) λ_=>(d τ S1).bind λas S2=>ZY o as S2
abbrev A.isTup:A->Bool
 | .tup _=>true
 | _=>false
def F7{K:au}{H:Hp}{x:A}{v:V}(R:Rel K ρ H S)(h:AV K ρ H x v)(e:x.seq S=some xs):∃p vs,v=.ref p/\(if x.isTup=true then n_ K H p vs else qt K H p vs)/\AVs K ρ H xs vs:=by
 cases h with
 | tup h r=>cases bz e;exact⟨_,_,rfl,(n_.of h),r⟩
 | frz h r=>cases bz e;exact⟨_,_,rfl,h.Qq,r⟩
 | ref h=>
  obtain⟨vs,h1,r1⟩:=R.lst h<|kc e;exact⟨_,vs,rfl,qt.of h1,r1⟩
 | _=>cases e
def ZJ{K:au}{H:Hp}{x:A}{v:V}{ys:ae}{us:List V}{k:Nat}(h:AV K ρ H x v)(f:x.flat=true)(r:AVs K ρ H ys us)(fs:ys.all A.flat=true)(e:(ys.findIdx? λz=>Xl z x)=some k) :
  us.all qY=true/\∃z,us[k]?=some z/\H_ z v=true/\∀(m:Nat) (z':V),m<k->us[m]?=some z'->H_ z' v=false:=by
 rw[List.findIdx?_eq_some_iff_getElem]at e;obtain⟨q,h1,h2⟩:=e;have fl:∀m (g:m<ys.length),ys[m].flat=true:=λm g=>eS.mp fs _<|fP g;refine⟨(FD h f r fs).2,?_⟩;obtain⟨z,B,C⟩:=r.get<|aE q;refine⟨z,B,by rw[JX C h (fl k q) f];exact h1,λm z' g p=>?_⟩;have c:m<ys.length:=()
 obtain⟨F,d,j⟩:=r.get<|aE c;rw[p]at d;cases d;rw[JX j h (fl m c) f];have:=h2 m g;simpa using this
def Fc{e:aA}{apos cpos:Pos}{co:Ex}{d:qQ}(ho:AE X o co)(ha:AL X (e::es) d)
  (hbase:attributeBase o "index" X.env (eval o X.env)=eval o X.env<|>η)
  (hfew:(((backTo cpos<|starEach (e::es) X.env).all (λx=>!x.1) && (backToKw cpos<|keywordEach [] X.env).all (λx=>x.1.isSome)
   && decide ((e::es).length+([]:List Keyword).length+(if ([]:List Keyword).isEmpty then 0 else 1)<30))=true)<|>η)
  (hline:(apos.endLine == cpos.line)=true<|>η) (hs:starEach (e::es) X.env=(false,eval e X.env)::starEach es X.env<|>η) (U:((backTo cpos<|starEach es X.env).any (·.1)=false)<|>η) :
  AE X (.Call (.Attribute o "index" apos) (e::es) [] cpos) (Bq co d):=PE.imp (Z_ ho ha hbase hfew hline hs U) λσ H Q h9=>by
 room;kcj_m;obtain⟨xs,G,h1⟩:=jV h1;obtain⟨p,g,hv,C,_⟩:=F7 R1 v1 G;refine⟨x.isTup,p,g,hv,C,ρ1,S1,τ,R1,r.ext e1,jW (j3 h1) e1 λas S2 h2 ρ2 H2 M e2 R2 v2=>?_⟩;unfold ZY at h2
 match as,v2,h2 with
 | [],_,h2=>exact h2.elim
 | _::_::_,_,h2=>exact h2.elim
 | [y],v2,h2=>
  obtain⟨w,rfl,hw⟩:=Ow v2;obtain⟨ys,F,h2⟩:=jV h2;obtain⟨⟨f1,f2⟩,h2⟩:=ko h2;obtain⟨k,q,h2⟩:=jV h2;obtain⟨J,us,f,c,B⟩:=F7 R2 (v1.ext e2) F;obtain⟨K,z,L,j,m⟩:=ZJ hw f1 B f2 q;exact⟨J,w,us,k,z,f,rfl,c,MF hw f1,K,L,j,m,h2 _ _ _ (e1.trans e2) R2<|.int _⟩
abbrev Fq (o:A)(as:ae)(S:jT):R A:=match o,as with
 | .ref n,[.ref m]=>opt (jU S n) λxs=>opt (jU S m) λys=>gd (xs.length+ys.length<=sizeLine) (.ok .non<|S.set n<|.lst<|xs++ys)
 | _,_=>.no
def RJ:Ja X "list.extend" (rM X Fq):=λpins s σ H x C v us Q I rx k h9=>by
 kl_no
 cases vo with
 | @ref p n c=>
  match as,va,h with
  | [],_,h=>exact h.elim
  | y::_::_,_,h=>exact(by cases y<;>exact h.elim)
  | [y],va,h=>
   obtain⟨w,rfl,hw⟩:=Ow va
   cases hw with
   | @ref q m g=>
    gn_on;obtain⟨ys,f,h⟩:=jV h;obtain⟨j,h⟩:=ko h;obtain⟨B,h1,r⟩:=R.lst c<|kc hn;obtain⟨zs,h2,d⟩:=R.lst g<|kc f;obtain⟨ex,e⟩:=R.put c (kc hn)<|r.append d;exact Ov pins s σ H _ _ v us Q I rx k ⟨p,q,B,zs,rfl,rfl,h1,h2,by rw[<- r.length,<- d.length];exact j,h _ _ _ ex e .non⟩
   | _=>exact h.elim
 | _=>exact h.elim
end
abbrev kj (S:jT)(n:Nat):Option (List<|ag×A):=match S[n]? with
 | some (.dct xs)=>some xs
 | _=>none
def mL{n:Nat}(h:kj S n=some xs):S[n]?=some (.dct xs):=by
 unfold kj at h;split at h
 ·rename_i e;cases h;exact e
 ·cases h
def tB{S:jT}{n:Nat}(h:S[n]?=some (.dct xs)):kj S n=some xs:=by
 unfold kj;rw[h]
abbrev lg (kvs:List<|ag×A)(k:ag):Option A:=(kvs.find? λkv=>decide<|kv.1=k).map (·.2)
abbrev putD (kvs:List<|ag×A)(k:ag)(v:A):List (ag×A):=
 if (lg kvs k).isSome=true then kvs.map (λkv=>if kv.1=k then(kv.1,v)else kv)else kvs++[(k,v)]
theorem FJ:∀{a b:ag},a.map (Sum.inl:Int->Key)=b.map Sum.inl->a=b
 | [],[],_=>rfl
 | [],_::_,e=>by simp at e
 | _::_,[],e=>by simp at e
 | x::xs,y::ys,e=>by
  rw[bH,bH]at e
  injection e with e1 e2
  injection e1 with e1
  rw[e1,FJ e2]
def Af(ns:ag):(ns.map (Sum.inl:Int->Key)).map kV=ns.map V.int:=by rw[bB];rfl
section
variable {K:au}{ρ:ba}{H:Hp}
def NR{p:ag×A}{r:List<|ag×A}{k:ag}(e:p.1=k):lg (p::r) k=some p.2:=by simp[lg,cF,e]
def Np{p:ag×A}{r:List<|ag×A}{k:ag}(e:¬p.1=k):lg (p::r) k=lg r k:=by simp[lg,cF,e]
theorem DV.look:∀{kvs:List<|ag×A}{ks:List<|List Key×V}(k:ag),DV K ρ H kvs ks->(lg kvs k).isSome=(pY ks<|k.map Sum.inl).isSome/\∀x,lg kvs k=some x->∃v,pY ks (k.map Sum.inl)=some v/\AV K ρ H x v
 | [],[],k,_=>⟨rfl,λx h=>nomatch h⟩
 | p::r,q::r',k,⟨⟨e,a⟩,t⟩=>by
  by_cases c:p.1=k
  ·have d:q.1=k.map Sum.inl:=by rw[e,c]
   rw[NR c,vD d];exact⟨rfl,λx h=>by cases h;exact⟨_,rfl,a⟩⟩
  ·have d:¬q.1=k.map Sum.inl:=λz=>c<|FJ<|e.symm.trans z;rw[Np c,u9 d];exact DV.look k t
theorem DV.repl{x:A}{v:V}(h:AV K ρ H x v)(k:ag):∀{kvs:List<|ag×A}{ks:List<|List Key×V},DV K ρ H kvs ks->DV K ρ H (kvs.map λkv=>if kv.1=k then(kv.1,x)else kv) (ks.map λkv=>if kv.1=k.map Sum.inl then(kv.1,v)else kv)
 | [],[],_=>trivial
 | p::r,q::r',⟨⟨e,a⟩,t⟩=>by
  refine⟨?_,DV.repl h k t⟩;dsimp only;by_cases c:p.1=k
  ·rw[aJ c,aJ<|by rw[e,c]];exact⟨e,h⟩
  ·rw[aI c,aI λz=>c<|FJ<|e.symm.trans z];exact⟨e,a⟩
theorem DV.snoc{x:A}{v:V}(h:AV K ρ H x v)(k:ag):∀{kvs:List<|ag×A}{ks:List<|List Key×V},DV K ρ H kvs ks->DV K ρ H (kvs++[(k,x)]) (ks++[(k.map Sum.inl,v)])
 | [],[],_=>⟨⟨rfl,h⟩,trivial⟩
 | p::r,q::r',⟨a,t⟩=>⟨a,DV.snoc h k t⟩
def DV.put{x:A}{v:V}(h:AV K ρ H x v)(k:ag){ks:List<|List Key×V}(d:DV K ρ H kvs ks):DV K ρ H (putD kvs k x) (putK ks (k.map Sum.inl) v):=by
 unfold putD putK;rw[yJ,<- (d.look k).1];by_cases c:(lg kvs k).isSome=true
 ·rw[aJ c,aJ c];exact DV.repl h k d
 ·rw[aI c,aI c];exact DV.snoc h k d
def DV.length:∀{kvs:List<|ag×A}{ks:List<|List Key×V},DV K ρ H kvs ks->kvs.length=ks.length
 | [],[],_=>rfl
 | _::_,_::_,⟨_,t⟩=>dY (·+1) t.length
def Rel.dct{n:Nat}{a:ak}(R:Rel K ρ H S)(J:ρ[n]?=some a)(hS:S[n]?=some (.dct xs)):∃vs,H a=some (.dT vs)/\DV K ρ H xs vs:=R.at n a _ J hS
def Rel.abC{S:jT}{p:ak}(R:Rel K ρ H S)(J:H p=none)(r:DV K ρ H xs vs):Ext ρ (ρ++[p]) H (upd H p<|.dT vs)/\Rel K (ρ++[p]) (upd H p<|.dT vs) (S++[.dct xs])/\(ρ++[p])[S.length]?=some p:=by
 have ex:Ext ρ (ρ++[p]) H (upd H p<|.dT vs):=⟨⟨eV _ _,λa u _ h=>by rw[j7<|kF h J];exact h⟩,λa u h _=>by rw[j7<|kF h J];exact h,λa h=>by
  rcases br.mp h with z|z
  ·exact .inl z
  ·have e:a=p:=by simpa using z
   rw[e];exact .inr J⟩
 have g:p∉ρ:=R.Gq J;have c:(ρ++[p])[S.length]?=some p:=by rw[<- R.len];simp
 refine⟨ex,⟨by simp[R.len],?_,?_⟩,c⟩
 ·rw[cO];refine⟨R.nd,by simp,λa j b k e=>?_⟩;have:b=p:=by simpa using k
  exact g<|by rw[<- this,<- e];exact j
 ·intro n a o h1 h2;by_cases hn:n<S.length
  ·rw[bE<|by rw[R.len];exact hn]at h1;rw[bE hn]at h2;have na:a≠p:=λz=>g (by rw[<- z];exact aX h1);have:=R.at n a o h1 h2
   cases o with
   | lst ys=>obtain⟨d,e,q⟩:=this;exact⟨d,by rw[j7 na];exact e,q.ext ex⟩
   | dct _|nX _|dks _|dcp _=>obtain⟨d,e,q⟩:=this;exact⟨d,by rw[j7 na];exact e,q.ext ex⟩
   | dcf _|dkf _=>obtain⟨f,d,e,q⟩:=this;exact⟨f,d,by rw[j7 na];exact e,q.ext ex⟩
   | ins _ _=>obtain⟨f,m,e⟩:=this;exact⟨f,m,by rw[j7 na];exact e⟩
  ·have e:n=S.length:=by
    have:=(aF.mp h2).1;simp at this;omega
   subst e;rw[c]at h1
   cases h1
   simp at h2;subst h2;exact⟨vs,kZ,r.ext ex⟩
def Rel.putD{S:jT}{n:Nat}{a:ak}(R:Rel K ρ H S)(J:ρ[n]?=some a)(hS:S[n]?=some (.dct xs))(r:DV K ρ H ys ws):Ext ρ ρ H (upd H a<|.dT ws)/\Rel K ρ (upd H a<|.dT ws) (S.set n<|.dct ys):=by
 obtain⟨k,e,_⟩:=R.at n a _ J hS;have ex:Ext ρ ρ H (upd H a<|.dT ws):=⟨⟨eT _,λb u i h=>by
  have:b≠a:=by
   intro z;subst z;rw[e]at h;cases h;exact i
  rw[j7 this];exact h⟩,λb u h n=>by
  rw[j7 λz=>n<|by rw[z];exact aX J];exact h,λ_ h=>.inl h⟩
 refine⟨ex,by rw[cE];exact R.len,R.nd,λm b o h1 h2=>?_⟩;by_cases f:m=n
 ·subst f;rw[J]at h1;cases h1;rw[bO (aF.mp hS).1]at h2
  cases h2
  exact⟨ws,kZ,r.ext ex⟩
 ·rw[bM<|di f]at h2;have nb:b≠a:=λz=>by
   subst z;obtain⟨p,e1⟩:=aF.mp J;obtain⟨B,e2⟩:=aF.mp h1;exact f<|(cZ R.nd).mp<|e2.trans e1.symm
  have:=R.at m b o h1 h2
  cases o with
  | lst ys=>obtain⟨c,d,q⟩:=this;exact⟨c,by rw[j7 nb];exact d,q.ext ex⟩
  | dct _|nX _|dks _|dcp _=>obtain⟨c,d,q⟩:=this;exact⟨c,by rw[j7 nb];exact d,q.ext ex⟩
  | dcf _|dkf _=>obtain⟨g,c,d,q⟩:=this;exact⟨g,c,by rw[j7 nb];exact d,q.ext ex⟩
  | ins _ _=>obtain⟨g,j,d⟩:=this;exact⟨g,j,by rw[j7 nb];exact d⟩
end
section
variable {X:Cx}{pos:Pos}{a b:aA}
def Ao{H:Hp}{p q:ak}{n:Nat}{ns:ag}(R:Rel X.K ρ H S)(U:ρ[n]?=some p)(hn:kj S n=some kvs)(J:H q=some (.tup vs))(r:AVs X.K ρ H xs vs)(hi:A.ints xs=some ns) :
  ∃ks,H p=some (.dT ks)/\DV X.K ρ H kvs ks/\H q=some (.tup<|(ns.map (Sum.inl:Int->Key)).map kV)/\t8 H p (.ref q) (pY ks<|ns.map Sum.inl):=by
 obtain⟨ks,e,d⟩:=R.dct U<|mL hn;have z:=wC r hi;subst z;rw[<- Af]at J;exact⟨ks,e,d,J,t8.t e J⟩
abbrev zZ (x y:A)(S:jT):R A:=match x,y with
 | .ref n,.tup xs=>opt (kj S n) λc=>opt (A.ints xs) λd=>opt (lg c d) λv=>.ok v S
 | _,_=>.no
def abw(U:X.A.units+64<cLine):UY X (r2 X zZ):=λf c pins s σ H x y v u Q I rx ry ⟨ρ,S,a,b,R,va,vb,h⟩ hs=>by
 cases va with
 | @ref p n m=>
  cases vb with
  | @tup q xs J B r=>
   obtain⟨k,hn,h⟩:=jV h;obtain⟨j,hi,h⟩:=jV h;obtain⟨z,C,h⟩:=jV h;obtain⟨ks,e,d,F,g⟩:=Ao R m hn B r hi;obtain⟨w,hw,G⟩:=(d.look j).2 z C;rw[hw]at g;exact AD (by omega) f c pins s σ H _ _ v u Q I rx ry ⟨p,w,rfl,g,h _ _ _ .refl R G⟩ hs
  | _=>exact h.elim
 | _=>exact h.elim
def Eg(J:X.A.units+64<cLine){ca cb:Ex}(U:AE X a ca)(hb:AE X b cb)(hs:wj b<|>μ):AE X (.Subscript a b pos) (j6 zZ ca cb):=PE.imp (G7 (abw J) U hb hs) λσ H Q h=>sC h
abbrev Iz (J:Bool)(x y:A)(S:jT):R A:=match x,y with
 | .tup xs,.ref n=>opt (kj S n) λc=>opt (A.ints xs) λd=>.ok (.bl<|if J then !(lg c d).isSome else(lg c d).isSome) S
 | _,_=>.no
def adg(J:X.A.units+64<cLine):pR X (compareOp .In) (r2 X<|Iz false):=λpins s σ H x y v u Q I rx ry h9=>by
 z_go
 cases va with
 | @tup q xs B m r=>
  cases vb with
  | @ref p n j=>
   obtain⟨f,hn,h⟩:=jV h;obtain⟨c,hi,h⟩:=jV h;obtain⟨ks,e,d,k,g⟩:=Ao R j hn m r hi;exact Zk () pins s σ H _ _ v u Q I rx ry ⟨p,_,rfl,g,by rw[<- (d.look c).1];exact h _ _ _ .refl R<|.bl _⟩
  | _=>exact h.elim
 | _=>exact h.elim
def Rl(J:X.A.units+64<cLine):pR X (compareOp .NotIn) (r2 X<|Iz true):=λpins s σ H x y v u Q I rx ry h9=>by
 z_go
 cases va with
 | @tup q xs B m r=>
  cases vb with
  | @ref p n j=>
   obtain⟨f,hn,h⟩:=jV h;obtain⟨c,hi,h⟩:=jV h;obtain⟨ks,e,d,k,g⟩:=Ao R j hn m r hi;exact N6 (by omega) pins s σ H _ _ v u Q I rx ry ⟨p,_,rfl,g,by rw[<- (d.look c).1];exact h _ _ _ .refl R<|.bl _⟩
  | _=>exact h.elim
 | _=>exact h.elim
abbrev yu (o i v:A)(S:jT):R Unit:=match o,i with
 | .ref n,.tup xs=>opt (kj S n) λc=>opt (A.ints xs) λd=>gd (c.length<sizeLine) (.ok Unit.unit<|S.set n<|.dct<|putD c d v)
 | _,_=>.no
abbrev aeI (X:Cx):Ol:=λo i v H Q=>∃ρ S e d c,Rel X.K ρ H S/\AV X.K ρ H e o/\AV X.K ρ H d i/\AV X.K ρ H c v/\(yu e d c S).post (λ_ f=>∀ρ' H',Ext ρ ρ' H H'->Rel X.K ρ' H' f->Q H') (XE X ρ H)
def Vy(U:X.A.units+64<cLine):Oj X (aeI X):=λpins s σ H o i v J iv u Q I k K G h9=>by
 obtain⟨ρ,S,M,N,O,R,h1,h2,h3,h⟩:=h9
 cases h1 with
 | @ref p n f=>
  cases h2 with
  | @tup q xs L C r=>
   obtain⟨B,hn,h⟩:=jV h;obtain⟨m,hi,h⟩:=jV h;obtain⟨F,h⟩:=ko h;obtain⟨ks,e,d,c,g⟩:=Ao R f hn C r hi;obtain⟨ex,j⟩:=R.putD f (mL hn)<|d.put h3 m;exact set_dict () pins s σ H _ _ v J iv u Q I k K G ⟨p,_,rfl,G9.t e c<|by rw[<- d.length];exact F,h _ _ ex j⟩
  | _=>exact h.elim
 | _=>exact h.elim
abbrev Co (co J:Ex):Tg:=λa τ S=>(co τ S).bind λo S1=>(J τ S1).bind λi S2=>(yu o i a S2).bind λ_ S3=>.ok τ S3
def ue(U:X.A.units+64<cLine){co J:Ex}(ho:AE X o co)(hi:AE X i J)
  (ha:(∀v,assign (.Subscript o i pos) X.env v=(do
   let ov <- holding [v] (eval o X.env)
   let iv <- holding [v,ov] (eval i X.env)
   standAt pos
   holding [v,ov,iv] (setItem ov iv v)
   release [v,ov,iv] []))<|>θ):AG X (.Subscript o i pos) (Co co J):=PG.imp (ID ho hi (Vy U) ha) λv σ H Q h9=>by
 obtain⟨ρ,S,τ,a,R,r,va,h⟩:=h9;kj_on;ksr_p;exact h3 ρ3 H3 σ ((e1.trans e2).trans e3) R3<|r.ext<|(e1.trans e2).trans e3
abbrev vG:Ex:=λ_ S=>.ok (.ref S.length)<|S++[.dct []]
def sj:AE X (.Dict [] [] pos) vG:=PE.imp Qc λσ H Q ⟨ρ,S,τ,R,r,h⟩ p d=>by
 obtain⟨ex,c,e⟩:=R.abC (xs:=[]) (vs:=[]) d trivial;exact h _ _ _ ex c<|.ref e
abbrev dct? (a:A)(S:jT):Option Unit:=match a with
 | .ref n=>(kj S n).map λ_=>Unit.unit
 | _=>none
abbrev WB (f:A->ae->jT->R A)(co:Ex)(d:qQ):Ex:=λτ S=>(co τ S).bind λx S1=>opt (dct? x S1) λ_=>(d τ S1).bind λas S2=>f x as S2
def dct?_ty{K:au}{H:Hp}{x:A}{v:V}(R:Rel K ρ H S)(a:AV K ρ H x v)(e:dct? x S=some u):tyV K "dict" v H:=by
 cases a with
 | @ref p n h=>
  obtain⟨xs,d,_⟩:=aY.mp e;obtain⟨c,h1,_⟩:=R.dct h<|mL d;exact .inr<|.inr<|.inl ⟨rfl,.inr ⟨c,h1⟩⟩
 | _=>cases e
def O8{e:aA}{id:String}{apos cpos:Pos}{f:A->ae->jT->R A}{co:Ex}{d:qQ}(slot:Slot "dict" name id)(hty:typeOf (.builtin id)=pure (.type "method_descriptor"))(hm:Ja X id<|rM X f)(ho:AE X o co)(ha:AL X (e::es) d)
  (U:attributeBase o name X.env (eval o X.env)=eval o X.env<|>η)
  (hfew:(((backTo cpos<|starEach (e::es) X.env).all (λx=>!x.1) && (backToKw cpos<|keywordEach [] X.env).all (λx=>x.1.isSome)
   && decide ((e::es).length+([]:List Keyword).length+(if ([]:List Keyword).isEmpty then 0 else 1)<30))=true)<|>η)
  (hline:(apos.endLine == cpos.line)=true<|>η) (hs:starEach (e::es) X.env=(false,eval e X.env)::starEach es X.env<|>η) (J:((backTo cpos<|starEach es X.env).any (·.1)=false)<|>η) :
  AE X (.Call (.Attribute o name apos) (e::es) [] cpos) (WB f co d):=PE.imp (Rf gW slot hty hm ho ha U hfew hline hs J) λσ H Q h9=>by
 room;kcj_m;obtain⟨xs,c,h1⟩:=jV h1;refine⟨dct?_ty R1 v1 c,ρ1,S1,τ,R1,r.ext e1,jW (j3 h1) e1 λas S2 h2 ρ2 H2 g e2 R2 v2=>?_⟩;kpc_g
abbrev Sk (o:A)(as:ae)(S:jT):R A:=match o,as with
 | .ref n,[.tup xs,y]=>opt (kj S n) λc=>opt (A.ints xs) λk=>.ok ((lg c k).getD y) S
 | _,_=>.no
def Yx(U:X.A.units+64<cLine):Ja X "dict.get" (rM X Sk):=λpins s σ H x L v us Q I rx B h9=>by
 kl_no
 cases vo with
 | @ref p n f=>
  match as,va,h with
  | [],_,h=>exact h.elim
  | [z],_,h=>exact(by cases z<;>exact h.elim)
  | z::_::_::_,_,h=>exact(by cases z<;>exact h.elim)
  | [z,y],va,h=>
   obtain⟨M,K,rfl,C,k⟩:=UJ va
   cases C with
   | @tup q xs N j g=>
    obtain⟨d,hn,h⟩:=jV h;obtain⟨c,hi,h⟩:=jV h;have z:=wC g hi;subst z;obtain⟨ks,h1,G⟩:=R.dct f<|mL hn;refine VU (by omega) pins s σ H _ _ v us Q I rx B ⟨p,q,c.map Sum.inl,ks,K,rfl,rfl,h1,by rw[Af];exact j,h _ _ _ .refl R ?_⟩;obtain⟨e,m⟩:=G.look c
    cases e1:lg d c with
    | none=>
     rw[e1]at e
     cases e2:pY ks (c.map Sum.inl)with
     | none=>exact k
     | some _=>rw[e2]at e;cases e
    | some F=>
     obtain⟨v1,e2,J⟩:=m F e1;rw[e2];exact J
   | _=>exact h.elim
 | _=>exact h.elim
end
section
variable {a b:aA}
theorem Xy{K:au}{H:Hp}:∀{kvs:List<|ag×A}{ks:List<|List Key×V}{i:Nat}{p:ag×A},DV K ρ H kvs ks->kvs[i]?=some p->∃q,ks[i]?=some q/\q.1=p.1.map Sum.inl/\AV K ρ H p.2 q.2
 | [],[],_,_,_,h=>by simp at h
 | a::kvs,b::ks,0,p,⟨z,_⟩,h=>by
  have:a=p:=by simpa using h
  subst this;exact⟨b,rfl,z⟩
 | a::kvs,b::ks,i+1,p,⟨_,t⟩,h=>Xy (kvs:=kvs) (ks:=ks) (i:=i) t<|by simpa using h
end
abbrev aev (F:ae->jT->R A)(d:qQ):Ex:=λτ S=>(d τ S).bind λas S1=>F as S1
abbrev VD:List (Str ⊕ Ex)->ae->jT->R Unit
 | [],_,S=>.ok Unit.unit S
 | .inl _::ps,τ,S=>VD ps τ S
 | .inr e::ps,τ,S=>(e τ S).bind λv S1=>match v with
  | .int i=>gd (i.natAbs.log2<64) (VD ps τ S1)
  | _=>.no
abbrev aax (c:Str)(ps:List<|Str ⊕ Ex):Sm:=λτ S=>.of (VD ps τ S) λ_ S1=>.ex c S1
abbrev XM (i:Nat):RS->RS
 | .nx τ S=>.nx (τ.set i .unb) S
 | .bk τ S=>.bk (τ.set i .unb) S
 | .ct τ S=>.ct (τ.set i .unb) S
 | .rt a S=>.rt a S
 | _=>.no
abbrev ac6 (i n:Nat)(cs:ar)(c d:Sm):Sm:=λτ S=>match c τ S with
 | .ex x S1=>if x∈cs then XM i (d ((List.replicate n .unb).set i<|.exn x) S1)else .no
 | r=>r
abbrev adL (f:Str->bj)(c:Ex):Ex:=λτ S=>(c τ S).bind λv S1=>match v with
 | .exn x=>opt (f x) λb=>.ok (.bl b) S1
 | _=>.no
abbrev tbX (tb:List<|Str×Bool):Str->bj:=λx=>tb.lookup x
abbrev acY (F:ae->jT->R A)(d:qQ):Ex:=λτ S=>match d τ S with
 | .ok as S1=>F as S1
 | _=>.no
section
variable {d:qQ}
abbrev abx (t:Te)(c d:Sm):Sm:=λτ S=>match t τ S with
 | .ok true S1=>c τ S1
 | .ok false S1=>d τ S1
 | _=>.no
end
abbrev Yh (i:Nat)(cs:ar)(c d:Sm):Sm:=λτ S=>match c τ S with
 | .ex x S1=>if x∈cs then XM i (d (τ.set i<|.exn x) S1)else .no
 | r=>r
abbrev sNo:Sm:=λ_ _=>.no
def Tz{X:Cx}{st:aC}:AS X st sNo:=PS.imp QH λD σ H ⟨ρ,S,τ,R,r,h⟩=>h.elim
def Ob{K:au}{H:Hp}{a:ak}{ns:ag}{F:ae->jT->R A}(J:Vu H)(hS:qt K H a<|ns.map V.int)(h:∃S',F [.frz<|ns.map .int] []=.ok (.bl true) S'):rP K 1 F [.ref a] H (λv _=>v=.bl true) λ_ _ _=>False:=by
 obtain⟨S',h⟩:=h;have fz:Fz K H a (ns.map V.int):=by
  rcases hS with(h|⟨o,h⟩)|h
  ·rcases J a with z|⟨c,xs,z⟩
   ·rw[h]at z;cases z
   ·rw[h]at z;cases z
  ·exact .inl ⟨o,h⟩
  ·exact .inr h
 exact⟨rfl,[],[],_,_,S',⟨rfl,dO,λn a o h=>by simp at h⟩,.cons (.frz fz<|qh ns) .nil,h,λρ' H' v _ _ hv=>GW hv⟩
section
variable {P:aj}{w:ah}{K:au}{mg:Str->bb}{base:aq}{f:ak}{fd:FuncData}{ps:ar}{k n:Nat}
def PD(h:n=ps.length):FnOk P w K mg base qG k f fd ps (rP K n λ_ _=>.no):=
 ⟨λ_ _ _ _ z=>z.1.trans h,λ_ _ _ _ _ _ _ _ _ _ _ _ _ z=>by obtain⟨_,_,_,_,_,_,_,_,e,_⟩:=z;cases e⟩
end
def NI{P:ax->Prop}(h:∀a0,P [a0]):∀us:ax,us.length=1->P us
 | [_],_=>h _
def D9{P:ax->Prop}(h:∀a0 a1,P [a0,a1]):∀us:ax,us.length=2->P us
 | [_,_],_=>h _ _
def HS{n:Nat}{us:ax}(h:us.length=n+1):∃a t,us=a::t/\t.length=n:=by
 cases us with
 | nil=>simp at h
 | cons a t=>exact⟨a,t,rfl,by simpa using h⟩
def us3{P:ax->Prop}(h:∀a0 a1 a2,P [a0,a1,a2]):∀us:ax,us.length=3->P us:=λus e=>by
 obtain⟨a0,t0,rfl,e0⟩:=HS e;obtain⟨a1,c,rfl,e1⟩:=HS e0;obtain⟨a2,d,rfl,e2⟩:=HS e1
 cases dW.mp e2
 exact h _ _ _
def us5{P:ax->Prop}(h:∀a0 a1 a2 a3 a4,P [a0,a1,a2,a3,a4]):∀us:ax,us.length=5->P us:=λus e=>by
 obtain⟨a0,t0,rfl,e0⟩:=HS e;obtain⟨a1,d,rfl,e1⟩:=HS e0;obtain⟨a2,f,rfl,e2⟩:=HS e1;obtain⟨a3,j,rfl,e3⟩:=HS e2;obtain⟨a4,g,rfl,c⟩:=HS e3
 cases dW.mp c
 exact h _ _ _ _ _
end Am
namespace Am
open PySem L2
section
variable {α β:Type}{a b:A}{S S1:jT}{τ:ae}{x:α}
@[simp]def R.oq {f:α->jT->R β}:(R.ok x S).bind f=f x S:=rfl
@[simp]def R.Mx {f:α->jT->R β}{c:Str}:(R.ex c S:R α).bind f=.ex c S:=rfl
@[simp]def R.oX {f:α->jT->R β}:(R.ok x S).ye f=f x S:=rfl
@[simp]def RS.of_ok {f:α->jT->RS}:RS.of (R.ok x S) f=f x S:=rfl
@[simp]def RS.Xn {f:α->jT->RS}{c:Str}:RS.of (R.ex c S:R α) f=.ex c S:=rfl
@[simp]def kg {f:β->R α}{y:β}:opt (some y) f=f y:=rfl
@[simp]def LC {r:R α}:gd True r=r:=aJ trivial
theorem nS{c:Prop}[Decidable c]{r:R α}(h:c):gd c r=r:=aJ h
@[simp]def oF {i:Nat}:jR i τ S=bif (τ.getD i .unb).qF then .no else .ok (τ.getD i .unb) S:=by unfold jR;cases(τ.getD i .unb).qF<;>rfl
@[simp]def My {xs:ae}:A.qF (.tup xs)=false:=rfl
@[simp]def LF {xs:ae}:A.qF (.frz xs)=false:=rfl
@[simp]def J5 {i:Int}:A.qF (.int i)=false:=rfl
@[simp]def SA {i:Bool}:A.qF (.bl i)=false:=rfl
@[simp]def MQ {i:Str}:A.qF (.str i)=false:=rfl
@[simp]def Ln {i:Nat}:A.qF (.ref i)=false:=rfl
@[simp]def Mm:A.qF .non=false:=rfl
@[simp]def KO {i j:Int}:A.qF (.rng i j)=false:=rfl
@[simp]def KU {c:Str}:A.qF (.exn c)=false:=rfl
@[simp]def Xx:eC a τ S=.ok a S:=rfl
abbrev acX (f:A->A->jT->R A)(cb:Ex)(τ:ae)(a:A)(S:jT):R A:=(cb τ S).bind<|f a
@[simp]def Lb {f:A->A->jT->R A}{cb:Ex}:acX f cb τ a S=(cb τ S).bind (f a):=rfl
@[simp]def Lg {f:A->A->jT->R A}{ca cb:Ex}:j6 f ca cb τ S=(ca τ S).bind (acX f cb τ):=rfl
@[simp]def Rg {f:A->jT->R A}{ca:Ex}:Pc f ca τ S=(ca τ S).bind f:=rfl
@[simp]def LU {c:Ex}:zW c τ S=(c τ S).bind λa S1=>opt (a.Z1 S1) λb=>.ok b S1:=rfl
abbrev aB (a:A)(S:jT):R Bool:=match a with
 | .bl b=>.ok b S
 | _=>.no
@[simp]def X7 {b:Bool}:aB (.bl b) S=.ok b S:=rfl
@[simp]def Pp {c:Ex}:uf c τ S=(c τ S).bind aB:=rfl
@[simp]def LR {c:Te}:VN c τ S=(c τ S).bind λb S1=>.ok (!b) S1:=rfl
abbrev Zu (d:Te)(τ:ae)(b:Bool)(S:jT):R Bool:=match b with|true=>d τ S|false=>.ok false S
abbrev kOr (d:Te)(τ:ae)(b:Bool)(S:jT):R Bool:=match b with|true=>.ok true S|false=>d τ S
@[simp]def Q0 {d:Te}:Zu d τ true S=d τ S:=rfl
@[simp]def Uh {d:Te}:Zu d τ false S=.ok false S:=rfl
@[simp]def Xr {d:Te}:kOr d τ true S=.ok true S:=rfl
@[simp]def Yc {d:Te}:kOr d τ false S=d τ S:=rfl
@[simp]def MO {c d:Te}:HM c d τ S=(c τ S).bind (Zu d τ):=rfl
@[simp]def Tt {c d:Te}:bOr c d τ S=(c τ S).bind (kOr d τ):=rfl
@[simp]def Lv:OA τ S=.ok true S:=rfl
abbrev O0 (d:Ex)(τ:ae)(a:A)(S:jT):R A:=match a with | .bl true=>d τ S | .bl false=>.ok (.bl false) S|_=>.no
abbrev Zf (d:Ex)(τ:ae)(a:A)(S:jT):R A:=match a with | .bl true=>.ok (.bl true) S | .bl false=>d τ S|_=>.no
@[simp]def Ng {d:Ex}:O0 d τ (.bl true) S=d τ S:=rfl
@[simp]def LN {d:Ex}:O0 d τ (.bl false) S=.ok (.bl false) S:=rfl
@[simp]def PM {d:Ex}:Zf d τ (.bl true) S=.ok (.bl true) S:=rfl
@[simp]def SM {d:Ex}:Zf d τ (.bl false) S=d τ S:=rfl
@[simp]def Lm {c d:Ex}:GF c d τ S=(c τ S).bind (O0 d τ):=by
 unfold GF
 cases c τ S with
 | ok a S1=>cases a<;>first|rfl|(rename_i b;cases b<;>rfl)
 | _=>rfl
@[simp]def RV {c d:Ex}:eOr c d τ S=(c τ S).bind (Zf d τ):=by
 unfold eOr
 cases c τ S with
 | ok a S1=>cases a<;>first|rfl|(rename_i b;cases b<;>rfl)
 | _=>rfl
abbrev Ye (a:A)(S:jT):R A:=match a with | .bl b=>.ok (.bl !b) S|_=>.no
@[simp]def HJ {b:Bool}:Ye (.bl b) S=.ok (.bl !b) S:=rfl
@[simp]def J6 {c:Ex}:W5 c τ S=(c τ S).bind Ye:=rfl
abbrev aa3 (c d:Ex)(τ:ae)(b:Bool)(S:jT):R A:=match b with|true=>c τ S|false=>d τ S
@[simp]def Rx {c d:Ex}:aa3 c d τ true S=c τ S:=rfl
@[simp]def Uq {c d:Ex}:aa3 c d τ false S=d τ S:=rfl
@[simp]def UP {t:Te}{c d:Ex}:eIf t c d τ S=(t τ S).bind (aa3 c d τ):=rfl
@[simp]def MJ:j5 τ S=.ok [] S:=rfl
abbrev JJ (a:A)(as:ae)(S:jT):R (ae):=.ok (a::as) S
abbrev XT (d:qQ)(τ:ae)(a:A)(S:jT):R (ae):=(d τ S).bind<|JJ a
@[simp]def CO {as:ae}:JJ a as S=.ok (a::as) S:=rfl
@[simp]def GS {d:qQ}:XT d τ a S=(d τ S).bind (JJ a):=rfl
@[simp]def GN {c:Ex}{d:qQ}:jQ c d τ S=(c τ S).bind (XT d τ):=rfl
@[simp]def K8 {d:qQ}:wJ d τ S=(d τ S).bind λas S1=>gd (as.length<=sizeLine) (.ok (.tup as) S1):=rfl
@[simp]def ME {d:qQ}:uF d τ S=(d τ S).bind newL:=rfl
theorem lK{as:ae}(h:as.length<=16777216):newL as S=.ok (.ref S.length) (S++[.lst as]):=nS<|by rw[dR];exact h
@[simp]def Hi {f:ae->jT->R A}{d:qQ}:kG f d τ S=(d τ S).bind f:=rfl
abbrev okR (r:R A):R A:=match r with
 | .ok a S=>.ok a S
 | _=>.no
@[simp]def UQ:okR (.ok a S)=.ok a S:=rfl
abbrev kFn (f:ae->jT->R A)(as:ae)(S:jT):R A:=okR<|f as S
@[simp]def Rk {f:ae->jT->R A}{as:ae}:kFn f as S=okR (f as S):=rfl
@[simp]def Ut {f:ae->jT->R A}{d:qQ}:eFn f d τ S=(d τ S).bind (kFn f):=rfl
@[simp]def Xq {g:A->jT->R A}:f1 g [a] S=g a S:=rfl
@[simp]def YB {g:A->A->jT->R A}:f2 g [a,b] S=g a b S:=rfl
abbrev Zb (h:Pt)(τ:ae)(a:A)(l:bi)(S:jT):R A:=(h τ S).bind<|Tf a l
abbrev kSl (l h:Pt)(τ:ae)(a:A)(S:jT):R A:=(l τ S).bind<|Zb h τ a
@[simp]def L4 {h:Pt}{l:bi}:Zb h τ a l S=(h τ S).bind (Tf a l):=rfl
@[simp]def Qz {l h:Pt}:kSl l h τ a S=(l τ S).bind (Zb h τ a):=rfl
@[simp]def Qi {c:Ex}{l h:Pt}:eSl c l h τ S=(c τ S).bind (kSl l h τ):=rfl
@[simp]def Ge:LM τ S=.ok none S:=rfl
abbrev aPt (a:A)(S:jT):R (bi):=match a with
 | .int i=>.ok (some i) S
 | _=>.no
@[simp]def J9 {i:Int}:aPt (.int i) S=.ok (some i) S:=rfl
@[simp]def GI {c:Ex}:LP c τ S=(c τ S).bind aPt:=rfl
abbrev Zo (f:A->ae->jT->R A)(d:qQ)(τ:ae)(o:A)(S:jT)(_:ae):R A:=(d τ S).bind<|f o
abbrev kMe (f:A->ae->jT->R A)(d:qQ)(τ:ae)(o:A)(S:jT):R A:=opt (o.lst? S)<|Zo f d τ o S
@[simp]def LY {f:A->ae->jT->R A}{d:qQ}{xs:ae}:Zo f d τ a S xs=(d τ S).bind (f a):=rfl
@[simp]def TQ {f:A->ae->jT->R A}{d:qQ}:kMe f d τ a S=opt (a.lst? S) (Zo f d τ a S):=rfl
@[simp]def Q9 {f:A->ae->jT->R A}{c:Ex}{d:qQ}:Zp f c d τ S=(c τ S).bind (kMe f d τ):=rfl
@[simp]def M0 {f:A->ae->jT->R A}{c:Ex}:adP f c τ S=(c τ S).bind λo S1=>opt (o.lst? S1) λ_=>f o [] S1:=rfl
@[simp]def lst?_ref {n:Nat}:A.lst? S (.ref n)=jU S n:=rfl
abbrev RS.seq (r:RS)(d:Sm):RS:=match r with
 | .nx τ S=>d τ S
 | r=>r
@[simp]def RS.Up {d:Sm}:RS.seq (.nx τ S) d=d τ S:=rfl
@[simp]def RS.OY {d:Sm}:RS.seq (.rt a S) d=.rt a S:=rfl
@[simp]def RS.Q_ {d:Sm}{c:Str}:RS.seq (.ex c S) d=.ex c S:=rfl
@[simp]def RS.Q8 {d:Sm}:RS.seq (.bk τ S) d=.bk τ S:=rfl
@[simp]def RS.TJ {d:Sm}:RS.seq (.ct τ S) d=.ct τ S:=rfl
@[simp]def M_ {c d:Sm}:kD c d τ S=RS.seq (c τ S) d:=by unfold kD RS.seq;cases c τ S<;>rfl
@[simp]def KS:rR τ S=.nx τ S:=rfl
@[simp]def C8:ZR τ S=.bk τ S:=rfl
@[simp]def G0:ade τ S=.ct τ S:=rfl
@[simp]def HD {e:Ex}:pI e τ S=RS.of (e τ S) λ_ S1=>.nx τ S1:=rfl
@[simp]def ML {e:Ex}:mS e τ S=RS.of (e τ S) .rt:=rfl
@[simp]def G4:abY τ S=.rt .non S:=rfl
abbrev kIf (c d:Sm)(τ:ae)(b:Bool)(S:jT):RS:=match b with|true=>c τ S|false=>d τ S
@[simp]def Yy {c d:Sm}:kIf c d τ true S=c τ S:=rfl
@[simp]def XD {c d:Sm}:kIf c d τ false S=d τ S:=rfl
@[simp]def UO {t:Te}{c d:Sm}:zY t c d τ S=RS.of (t τ S) (kIf c d τ):=rfl
abbrev abD (g:Tg)(τ:ae)(a:A)(S:jT):RS:=RS.of (g a τ S) .nx
@[simp]def Kg {g:Tg}:abD g τ a S=RS.of (g a τ S) .nx:=rfl
@[simp]def MC {e:Ex}{g:Tg}:kR e g τ S=RS.of (e τ S) (abD g τ):=rfl
@[simp]def aej {i:Nat}:kY i a τ S=.ok (τ.set i a) S:=rfl
abbrev aat (a o:A)(τ:ae)(i:A)(S:jT):R (ae):=(F5 o i a S).bind λ_ S3=>.ok τ S3
abbrev kSb (J:Ex)(τ:ae)(a o:A)(S:jT):R (ae):=(J τ S).bind<|aat a o τ
@[simp]def KJ {o i:A}:aat a o τ i S=(F5 o i a S).bind λ_ S3=>.ok τ S3:=rfl
@[simp]def Se {J:Ex}{o:A}:kSb J τ a o S=(J τ S).bind (aat a o τ):=rfl
@[simp]def Uy {co J:Ex}:gSb co J a τ S=(co τ S).bind (kSb J τ a):=rfl
@[simp]def UA {n:Nat}{gs:UX}{xs:ae}:Iw n gs (.tup xs) τ S=gd (xs.length=n) (gs xs τ S):=rfl
@[simp]def QJ:JK [] τ S=.ok τ S:=rfl
@[simp]def P1 {g:Tg}{gs:UX}{as:ae}:yM g gs (a::as) τ S=(g a τ S).bind (gs as):=rfl
abbrev sPr (i j:Nat)(τ:ae)(as:ae)(S:jT):RS:=match as with
 | [a,b]=>.nx ((τ.set i a).set j b) S
 | _=>.no
@[simp]def Rc {i j:Nat}:sPr i j τ [a,b] S=.nx ((τ.set i a).set j b) S:=rfl
@[simp]def LI {i j:Nat}{c:qQ}:adJ i j c τ S=RS.of (c τ S) (sPr i j τ):=rfl
abbrev Ph (i:Nat)(τ:ae)(c:A)(S:jT):RS:=.nx (τ.set i c) S
abbrev abv (i:Nat)(f:A->A->jT->R A)(τ:ae)(b:A)(S:jT):RS:=.of (f (τ.getD i .unb) b S)<|Ph i τ
@[simp]def GL {i:Nat}:Ph i τ a S=.nx (τ.set i a) S:=rfl
@[simp]def Kv {i:Nat}{f:A->A->jT->R A}:abv i f τ a S=.of (f (τ.getD i .unb) a S) (Ph i τ):=rfl
@[simp]def Lh {i:Nat}{f:A->A->jT->R A}{e:Ex}:abG i f e τ S=bif (τ.getD i .unb).qF then .no else .of (e τ S) (abv i f τ):=by
 unfold abG;cases(τ.getD i .unb).qF<;>rfl
abbrev kS5 (o i:A)(τ:ae)(z:A)(S:jT):RS:=.of (F5 o i z S) λ_ c=>.nx τ c
abbrev kS4 (f:A->A->jT->R A)(o i x:A)(τ:ae)(y:A)(S:jT):RS:=.of (f x y S)<|kS5 o i τ
abbrev kS3 (J:Ex)(f:A->A->jT->R A)(o i:A)(τ:ae)(x:A)(S:jT):RS:=.of (J τ S)<|kS4 f o i x τ
abbrev kS2 (J:Ex)(f:A->A->jT->R A)(o:A)(τ:ae)(i:A)(S:jT):RS:=.of (Wm o i S)<|kS3 J f o i τ
abbrev kS1 (J U:Ex)(f:A->A->jT->R A)(τ:ae)(o:A)(S:jT):RS:=.of (J τ S)<|kS2 U f o τ
@[simp]def QD {o i:A}:kS5 o i τ a S=.of (F5 o i a S) λ_ S6=>.nx τ S6:=rfl
@[simp]def Rr {f:A->A->jT->R A}{o i x:A}:kS4 f o i x τ a S=.of (f x a S) (kS5 o i τ):=rfl
@[simp]def Uo {J:Ex}{f:A->A->jT->R A}{o i:A}:kS3 J f o i τ a S=.of (J τ S) (kS4 f o i a τ):=rfl
@[simp]def Sf {J:Ex}{f:A->A->jT->R A}{o:A}:kS2 J f o τ a S=.of (Wm o a S) (kS3 J f o a τ):=rfl
@[simp]def Q4 {J U:Ex}{f:A->A->jT->R A}:kS1 J U f τ a S=.of (J τ S) (kS2 U f a τ):=rfl
@[simp]def Hy {co J U:Ex}{f:A->A->jT->R A}:acV co J U f τ S=RS.of (co τ S) (kS1 J U f τ):=rfl
abbrev RS.end (r:RS):R A:=match r with
 | .rt a d=>.ok a d
 | .nx _ d=>.ok .non d
 | .ex c d=>.ex c d
 | _=>.no
@[simp]def RS.Pf:RS.end (.rt a S)=.ok a S:=rfl
@[simp]def RS.RX:RS.end (.nx τ S)=.ok .non S:=rfl
@[simp]def RS.Uu {c:Str}:RS.end (.ex c S)=.ex c S:=rfl
theorem yw {N:ar}{m:Sm}{as:ae}:lZ N m as S=RS.end (m (as++List.replicate (N.length-as.length) .unb) S):=by
 unfold lZ RS.end;cases m (as++List.replicate (N.length-as.length) .unb) S<;>rfl
@[simp]def Pn {i j:Int}:mF (.int i) (.int j) S=.ok (.int<|i+j) S:=rfl
@[simp]def Qp {i j:Int}:aSub (.int i) (.int j) S=.ok (.int<|i-j) S:=rfl
@[simp]def SE {i j:Int}:aeT (.int i) (.int j) S=.ok (.int<|i+j) S:=rfl
theorem P5{i j:Int}(h:-18446744073709551616<i)(h':i<18446744073709551616):Cy (.int i) (.int j) S=.ok (.int<|i * j) S:=nS<|by unfold GO;simp;left;exact⟨by omega,by omega⟩
def mul_r{i j:Int}(h:-18446744073709551616<j)(h':j<18446744073709551616):Cy (.int i) (.int j) S=.ok (.int<|i * j) S:=nS<|by unfold GO;simp;right;exact⟨(),()⟩
def OU{i j:Int}(h:0<j)(h':j<1073741824):Mj (.int i) (.int j) S=.ok (.int<|i / j) S:=nS ⟨h,()⟩
def HB{i j:Int}(h:0<j):EV (.int i) (.int j) S=.ok (.int<|i % j) S:=nS h
@[simp]def XW {i j:Int}:aLt (.int i) (.int j) S=.ok (.bl<|decide<|i<j) S:=rfl
@[simp]def Xv {i j:Int}:aLe (.int i) (.int j) S=.ok (.bl<|decide<|i<=j) S:=rfl
@[simp]def XI {i j:Int}:Ib (.int i) (.int j) S=.ok (.bl<|decide<|j<i) S:=rfl
@[simp]def YD {i j:Int}:aGe (.int i) (.int j) S=.ok (.bl<|decide<|j<=i) S:=rfl
@[simp]def XA {i j:Bool}:Xj false (.bl i) (.bl j) S=.ok (.bl<|i == j) S:=rfl
@[simp]def SS {i j:Bool}:Xj true (.bl i) (.bl j) S=.ok (.bl<|i != j) S:=rfl
@[simp]def O5 {i:Int}:Cv (.int i) S=.ok (.int<|-i) S:=rfl
@[simp]def SY {xs:ae}:q_ (.tup xs) S=.ok (.int xs.length) S:=rfl
@[simp]def Pg {xs:ae}:q_ (.frz xs) S=.ok (.int xs.length) S:=rfl
@[simp]def UE {n:Nat}:q_ (.ref n) S=opt (jU S n) λxs=>.ok (.int xs.length) S:=rfl
@[simp]def PV {i:Int}:YK (.int i) S=.ok (.int<|if i<0 then -i else i) S:=rfl
@[simp]def M8 {i j:Int}:abP (.int i) (.int j) S=.ok (.int<|if j>i then j else i) S:=rfl
@[simp]def Mk {i j:Int}:acw (.int i) (.int j) S=.ok (.int<|if j<i then j else i) S:=rfl
@[simp]def Mt {i:Int}:Gr (.int i) S=.ok (.int i) S:=rfl
@[simp]def MI {i:Bool}:Gr (.bl i) S=.ok (.int<|if i then 1 else 0) S:=rfl
@[simp]def C3 {i j:Int}:Ax (.int i) (.int j) S=.ok (.rng i j) S:=rfl
@[simp]def Xm {xs:ae}{i:Int}:tu (.tup xs) (.int i) S=opt (sQ xs i) λx=>.ok x S:=rfl
@[simp]def Yq {xs:ae}{i:Int}:tu (.frz xs) (.int i) S=opt (sQ xs i) λx=>.ok x S:=rfl
@[simp]def X5 {n:Nat}{i:Int}:tu (.ref n) (.int i) S=opt (jU S n) λxs=>opt (sQ xs i) λx=>.ok x S:=rfl
@[simp]def Si {n:Nat}{k:Int}:F5 (.ref n) (.int k) a S=opt (jU S n) λxs=>opt (FY xs.length k) λj=>.ok Unit.unit (S.set n<|.lst<|xs.set j a):=rfl
@[simp]def TY {n:Nat}{i:Int}:Wm (.ref n) (.int i) S=opt (jU S n) λxs=>gd (0<=i) (opt (xs[i.toNat]?) λx=>.ok x S):=rfl
theorem Ox{i j:Int}(h:BB i j):zL (.rng i j) S=.ok (.ref S.length) (S++[.lst<|(mh i j).map .int]):=nS h
def Jc{i j:Int}(h:BB i j):sJ (.rng i j) S=.ok (.tup<|(mh i j).map .int) S:=nS h
@[simp]def LD {xs:ae}:zL (.tup xs) S=.ok (.ref S.length) (S++[.lst xs]):=rfl
@[simp]def MU {xs:ae}:zL (.frz xs) S=.ok (.ref S.length) (S++[.lst xs]):=rfl
@[simp]def LJ {n:Nat}:zL (.ref n) S=opt (jU S n) λxs=>.ok (.ref S.length) (S++[.lst xs]):=rfl
@[simp]def GH {xs:ae}:sJ (.tup xs) S=.ok (.tup xs) S:=rfl
@[simp]def Gk {n:Nat}:sJ (.ref n) S=opt (jU S n) λxs=>.ok (.tup xs) S:=rfl
@[simp]def SX {xs:ae}:NC (.tup xs) S=.ok (.tup xs.reverse) S:=rfl
@[simp]def SN {n:Nat}:NC (.ref n) S=opt (jU S n) λxs=>.ok (.ref S.length) (S++[.lst xs.reverse]):=rfl
@[simp]def Xp {n:Nat}{l u:bi}:Tf (.ref n) l u S=opt (jU S n) λxs=>.ok (.ref S.length) (S++[.lst<|BG xs l u]):=rfl
@[simp]def A8 {n:Nat}:Ai (.ref n) [a] S=opt (jU S n) λxs=>gd (xs.length<sizeLine) (.ok .non<|S.set n<|.lst<|xs++[a]):=rfl
@[simp]def Sj {b:Bool}:A.Z1 (.bl b) S=some b:=rfl
@[simp]def Mr {i:Int}:A.Z1 (.int i) S=some (i != 0):=rfl
theorem IF{o:O}:(S++[o])[S.length]?=some o:=by simp
@[simp]def ki {xs:ae}:jU (S++[.lst xs]) S.length=some xs:=xR IF
theorem k_{o:O}{n:Nat}(h:jU S n=some xs):jU (S++[o]) n=some xs:=by
 have h':=kc h;exact xR<|by rw[bE (aF.mp h').1];exact h'
def pF{n:Nat}(h:jU S n=some xs):n<S.length:=(aF.mp<|kc h).1
def qR{n:Nat}(h:n<S.length):jU (S.set n<|.lst ys) n=some ys:=xR<|bO h
def oM{n:Nat}(h:n≠m):jU (S.set n<|.lst ys) m=jU S m:=by unfold jU;rw[bM h]
def JP{xs:ae}{i:Int}{k:Nat}{x:A}(h:i=k)(J:xs[k]?=some x):sQ xs i=some x:=by rw[h];exact Vp J
def FA{n:Nat}{i:Int}{k:Nat}(h:i=k)(J:k<n):FY n i=some k:=by
 subst h;unfold FY;rw[aJ (),aJ ()];simp
end
structure Kp (b:Nat->Prop)(S S':jT):Prop where
 len:S.length<=S'.length
 obj:∀(n:Nat) (o:O),¬b n->S[n]?=some o->S'[n]?=some o
meta abbrev nt:=Kp λ_=>False
def Kp.lst{b:Nat->Prop}(h:Kp b S S')(n:Nat)(xs:ae)(J:¬b n)(e:jU S n=some xs):jU S' n=some xs:=xR<|h.obj n _ J<|kc e
def Kp.dct{b:Nat->Prop}(h:Kp b S S')(n:Nat)(xs:List<|ag×A)(J:¬b n)(e:kj S n=some xs):kj S' n=some xs:=tB<|h.obj n _ J<|mL e
def Kp.refl{b:Nat->Prop}:Kp b S S:=⟨aO _,λ_ _ _ h=>h⟩
def Kp.trans{b:Nat->Prop}(h:Kp b S S1)(h':Kp b S1 S2):Kp b S S2:=⟨bD h.len h'.len,λn xs c e=>h'.obj n xs c<|h.obj n xs c e⟩
def wV{S:jT}{n:Nat}(e:S[n]?=some o):n<S.length:=(aF.mp e).1
def Kp.lay{b:Nat->Prop}{o:O}(h:Kp b S S1):Kp b S (S1++[o]):=⟨bD h.len<|by simp,λn xs c e=>by
 have:=h.obj n xs c e;rw[bE<|wV this];exact this⟩
def Kp.yW{b:Nat->Prop}{S S1:jT}(h:Kp b S S1)(J:b m\/S.length<=m):Kp b S (S1.set m o):=⟨by rw[cE];exact h.len,λn xs c e=>by
 have:m≠n:=λz=>by
  subst z
  rcases J with z|z
  ·exact c z
  ·exact absurd (wV e) ()
 rw[bM this];exact h.obj n xs c e⟩
def Kp.set{b:Nat->Prop}{S S1:jT}(h:Kp b S S1)(J:b m\/S.length<=m):Kp b S (S1.set m<|.lst ys):=h.yW J
def Kp.mono{b c:Nat->Prop}{S:jT}(h:Kp b S S1)(J:∀n,n<S.length->b n->c n):Kp c S S1:=⟨h.len,λn xs hc e=>h.obj n xs (λz=>hc<|J n (wV e) z) e⟩
def Kp.of0{b:Nat->Prop}(h:nt S S1):Kp b S S1:=h.mono λ_ _ z=>z.elim
def Kp.old{b c:Nat->Prop}{S:jT}(h:Kp b S S1)(h':Kp c S1 S2)(hc:∀n,n<S.length->¬b n->¬c n):Kp b S S2:=⟨bD h.len h'.len,λn xs d e=>h'.obj n xs (hc n (wV e) d)<|h.obj n xs d e⟩
theorem B8{t:Te}{c:Sm}(Inv:ae->jT->Prop)(U:ae->jT->Nat)(J:RS->Prop)
  (h:∀τ S,Inv τ S->(∃S1,t τ S=.ok false S1/\J (.nx τ S1))\/(∃S1,t τ S=.ok true S1/\((∃τ' S',c τ S1=.nx τ' S'/\Inv τ' S'/\U τ' S'<U τ S)\/(∃a S',c τ S1=.rt a S'/\J (.rt a S'))))) :
  ∀n τ S,Inv τ S->U τ S<n->J (pC t c n τ S)
 | 0,_,_,_,hn=>absurd hn (d8 _)
 | n+1,τ,S,hi,hn=>by
  unfold pC
  rcases h τ S hi with⟨S1,e,q⟩|⟨S1,e,⟨τ',S',e2,d,f⟩|⟨a,S',e2,q⟩⟩
  ·rw[e];exact q
  ·rw[e];show J (match c τ S1 with
    | .nx τ' S'=>pC t c n τ' S'
    | .ct τ' S'=>pC t c n τ' S'
    | .bk τ' S'=>.nx τ' S'
    | r=>r)
   rw[e2];exact B8 Inv U J h n τ' S' d ()
  ·rw[e];show J (match c τ S1 with
    | .nx τ' S'=>pC t c n τ' S'
    | .ct τ' S'=>pC t c n τ' S'
    | .bk τ' S'=>.nx τ' S'
    | r=>r)
   rw[e2];exact q
theorem Er{s:Src}{g:Tg}{c:Sm}(Inv:Nat->ae->jT->Prop)(J:RS->Prop)
  (step:∀i τ S,i<s.k->Inv i τ S->∃x τ1 S1,s.get i S=some x/\g x τ S=.ok τ1 S1/\((∃τ' S',c τ1 S1=.nx τ' S'/\Inv (i+1) τ' S')\/(∃a S',c τ1 S1=.rt a S'/\J (.rt a S'))))
  (fin:∀τ S,Inv s.k τ S->s.fin S=true/\J (.nx τ S)):∀k i τ S,k+i=s.k->Inv i τ S->J (r8 s g c k i τ S)
 | 0,i,τ,S,hk,hi=>by
  have:i=s.k:=()
  subst this;obtain⟨hf,q⟩:=fin τ S hi;unfold r8;rw[aJ hf];exact q
 | k+1,i,τ,S,hk,hi=>by
  obtain⟨x,τ1,S1,f,hg,h⟩:=step i τ S () hi;unfold r8;rw[f];show J (RS.of (g x τ S) λτ1 S1=>match c τ1 S1 with
   | .nx τ' S'=>r8 s g c k (i+1) τ' S'
   | .ct τ' S'=>r8 s g c k (i+1) τ' S'
   | .bk τ' S'=>.nx τ' S'
   | r=>r)
  rw[hg];show J (match c τ1 S1 with
   | .nx τ' S'=>r8 s g c k (i+1) τ' S'
   | .ct τ' S'=>r8 s g c k (i+1) τ' S'
   | .bk τ' S'=>.nx τ' S'
   | r=>r)
  rcases h with⟨τ',S',e,d⟩|⟨a,S',e,q⟩
  ·rw[e];exact Er Inv J step fin k (i+1) τ' S' () d
  ·rw[e];exact q
def FU{lo hi:Int}{c:Sm}{src:Ic}{τ:ae}(hs:src τ S=.ok (uU lo hi) S1)(Inv:Nat->ae->jT->Prop)(J:RS->Prop)(h0:Inv 0 τ S1)
  (step:∀(i:Nat) τ S,(i:Int)<hi-lo->Inv i τ S->(∃τ' S',c (τ.set j<|.int<|lo+i) S=.nx τ' S'/\Inv (i+1) τ' S')\/(∃a S',c (τ.set j<|.int<|lo+i) S=.rt a S'/\J (.rt a S')))
  (fin:∀τ S,Inv (hi-lo).toNat τ S->J (.nx τ S)):J (mw src (kY j) c τ S):=by
 unfold mw;rw[hs];refine Er (s:=uU lo hi) Inv J (λi τ S d h=>?_) (λτ S h=>⟨rfl,fin τ S h⟩) _ 0 τ S1 rfl h0;have d:i<(hi-lo).toNat:=d;exact⟨.int<|lo+i,_,S,aJ d,rfl,step i τ S (by omega) h⟩
def vZ{xs:ae}{g:Tg}{c:Sm}{src:Ic}(hs:src τ S=.ok (pQ xs) S1)(Inv:Nat->ae->jT->Prop)(J:RS->Prop)(h0:Inv 0 τ S1)
  (step:∀(i:Nat) x τ S,xs[i]?=some x->Inv i τ S->∃τ1 S1,g x τ S=.ok τ1 S1/\((∃τ' S',c τ1 S1=.nx τ' S'/\Inv (i+1) τ' S')\/(∃a S',c τ1 S1=.rt a S'/\J (.rt a S'))))
  (fin:∀τ S,Inv xs.length τ S->J (.nx τ S)):J (mw src g c τ S):=by
 unfold mw;rw[hs];refine Er (s:=pQ xs) Inv J (λi τ S d h=>?_) (λτ S h=>⟨rfl,fin τ S h⟩) _ 0 τ S1 rfl h0;have d:i<xs.length:=d;obtain⟨τ1,S1,e,q⟩:=step i xs[i] τ S (aE d) h;exact⟨xs[i],τ1,S1,aE d,e,q⟩
def rY{n:Nat}{xs:ae}{g:Tg}{c:Sm}{src:Ic}(hs:src τ S=.ok (nY n xs.length) S1)(Inv:Nat->ae->jT->Prop)(J:RS->Prop)(h0:Inv 0 τ S1)(U:∀i τ S,Inv i τ S->jU S n=some xs)
  (step:∀(i:Nat) x τ S,xs[i]?=some x->Inv i τ S->∃τ1 S1,g x τ S=.ok τ1 S1/\((∃τ' S',c τ1 S1=.nx τ' S'/\Inv (i+1) τ' S')\/(∃a S',c τ1 S1=.rt a S'/\J (.rt a S'))))
  (fin:∀τ S,Inv xs.length τ S->J (.nx τ S)):J (mw src g c τ S):=by
 unfold mw;rw[hs];refine Er (s:=nY n xs.length) Inv J (λi τ S d h=>?_) (λτ S h=>⟨?_,fin τ S h⟩) _ 0 τ S1 rfl h0
 ·have d:i<xs.length:=d;obtain⟨τ1,S1,e,q⟩:=step i xs[i] τ S (aE d) h;exact⟨xs[i],τ1,S1,by show(jU S n).bind _=_;rw[U i τ S h];exact aE d,e,q⟩
 ·show(match jU S n with
   | some ys=>decide (ys.length<=xs.length)
   | none=>false)=true
  rw[U _ τ S h];exact a_<|aO _
@[simp]def Bu {c:Ex}{τ:ae}{S S1:jT}{j:Int}(h:c τ S=.ok (.int j) S1)(J:bnd j):yl c τ S=.ok (uU 0 j) S1:=by
 unfold yl;rw[h];exact nS J
def xP{c d:Ex}{i j:Int}(h:c τ S=.ok (.int i) S1)(h':d τ S1=.ok (.int j) S2)(U:bnd i)(J:bnd j):qI c d τ S=.ok (uU i j) S2:=by
 unfold qI;rw[h];show(d τ S1).bind _=_;rw[h'];exact nS ⟨U,J⟩
def Z2{c:Ex}(h:c τ S=.ok (.tup xs) S1):pV c τ S=.ok (pQ xs) S1:=by unfold pV;rw[h];rfl
def qy{c:Ex}{n:Nat}{xs:ae}(h:c τ S=.ok (.ref n) S1)(J:jU S1 n=some xs):pV c τ S=.ok (nY n xs.length) S1:=by
 unfold pV;rw[h];show opt (jU S1 n) _=_;rw[J];rfl
theorem yr{s:Src}{g:Tg}{t:Te}{e:Ex}{P:jT->Prop}{T:ae->Prop}(it:Nat->A)(p:Nat->Bool)(f:Nat->A)
  (J:∀i S,i<s.k->P S->s.get i S=some (it i)) (U:∀S,P S->s.fin S=true)
  (step:∀i τ S,i<s.k->T τ->P S->∃τ1 S1 S2,g (it i) τ S=.ok τ1 S1/\t τ1 S1=.ok (p i) S2/\T τ1/\(p i=false->P S2)/\(p i=true->∃S3,e τ1 S2=.ok (f i) S3/\P S3)) :
  ∀k i τ S,k+i=s.k->T τ->P S->∃S',rD s g t e k i τ S=.ok (((List.range' i k).filter p).map f) S'/\P S'
 | 0,i,τ,S,hk,hT,hP=>⟨S,by unfold rD;rw[aJ<|U S hP];rfl,hP⟩
 | k+1,i,τ,S,hk,hT,hP=>by
  obtain⟨τ1,S1,S2,hg,B,c,q,d⟩:=step i τ S (by omega) hT hP;unfold rD;rw[J i S (by omega) hP,kg,hg,R.oX,B,R.oX,iI,bZ]
  cases m:p i with
  | false=>
   obtain⟨S',h1,h2⟩:=yr it p f J U step k (i+1) τ1 S2 (by omega) c<|q m;exact⟨S',by simpa using h1,h2⟩
  | true=>
   obtain⟨S3,C,j⟩:=d m;obtain⟨S',h1,h2⟩:=yr it p f J U step k (i+1) τ1 S3 (by omega) c j;refine⟨S',?_,h2⟩
   skip
   rw[C,R.oX,h1];rfl
def Di{s:Src}{src:Ic}{t:Te}{e:Ex}{S1:jT}(hs:src τ S=.ok s S1)(it:Nat->A)(p:Nat->Bool)(f:Nat->A)(J:∀i,i<s.k->s.get i S1=some (it i))(U:s.fin S1=true)
  (ht:∀i,i<s.k->t (it i::nV cap τ) S1=.ok (p i) S1) (he:∀i,i<s.k->p i=true->e (it i::nV cap τ) S1=.ok (f i) S1) (hl:s.k<=16777216) :
  mR (none::cap) src (kY 0) t e τ S=.ok (.ref S1.length) (S1++[.lst<|((List.range s.k).filter p).map f]):=by
 unfold mR;rw[hs,R.oq];obtain⟨m,h1,h2⟩:=yr (s:=s) (g:=kY 0) (t:=t) (e:=e) (P:=λS=>S=S1) (T:=λc=>∃y,c=y::nV cap τ) it p f (λi S hi h=>by subst h;exact J i hi) (λS h=>by subst h;exact U)
  (λi c S hi ⟨y,j⟩ h=>by
   subst h j;exact⟨it i::nV cap τ,S,S,rfl,ht i hi,⟨_,rfl⟩,λ_=>rfl,λd=>⟨S,he i hi d,rfl⟩⟩) s.k 0 (nV (none::cap) τ) S1 rfl ⟨_,rfl⟩ rfl
 subst h2;rw[h1,R.oX,gq];refine lK ?_;rw[aG];refine bD (cC _ _) ?_;rw[List.length_range'];exact hl
def p6{α β:Type}(xs:List α)(p:α->Bool)(f:α->β):∀(d:α) ,(((List.range xs.length).filter λi=>p<|xs.getD i d).map λi=>f<|xs.getD i d)=(xs.filter p).map f:=by
 intro d
 induction xs with
 | nil=>rfl
 | cons x xs g=>
  rw[bA,List.range_succ_eq_map,bZ,bZ];have e:((List.filter (λi=>p<|(x::xs).getD i d)<|List.map Nat.succ<|List.range xs.length).map λi=>f<|(x::xs).getD i d)=(xs.filter p).map f:=by
   rw[jJ,bB];rw[<- g];rfl
  show List.map _ (if p x=true then _ else _)=List.map f (if p x=true then _ else _);by_cases c:p x=true
  ·rw[aJ c,aJ c,bH,bH,e];rfl
  ·rw[aI c,aI c,e]
def yE{lo hi:Int}{src:Ic}{t:Te}{e:Ex}{S1:jT}(hs:src τ S=.ok (uU lo hi) S1)(p:Int->Bool)(f:Int->A)
  (J:∀k,lo<=k->k<hi->t (.int k::nV cap τ) S1=.ok (p k) S1) (U:∀k,lo<=k->k<hi->p k=true->e (.int k::nV cap τ) S1=.ok (f k) S1) (hl:(hi-lo).toNat<=16777216) :
  mR (none::cap) src (kY 0) t e τ S=.ok (.ref S1.length) (S1++[.lst<|((mh lo hi).filter p).map f]):=by
 rw[Di hs (λi=>.int<|lo+i) (λi=>p<|lo+i) (λi=>f<|lo+i) (λi c=>aJ c) rfl (λi c=>J _ () (by have:i<(hi-lo).toNat:=c;lia)) (λi c=>U _ () (by have:i<(hi-lo).toNat:=c;lia)) hl];unfold mh;rw[jJ,bB];rfl
@[simp]def PJ {cap:List<|bn}{τ:ae}:nV (none::cap) τ=.unb::nV cap τ:=rfl
@[simp]def OZ {cap:List<|bn}{τ:ae}{j:Nat}:nV (some j::cap) τ=τ.getD j .unb::nV cap τ:=rfl
@[simp]def HC {τ:ae}:nV [] τ=[]:=rfl
theorem Dm{x:A}:sQ (x::xs) 0=some x:=JP (k:=0) rfl rfl
def M5{x:A}:sQ (x::y::xs) 1=some y:=JP (k:=1) rfl rfl
def KR{ns:ag}{i:Int}{k:Nat}{x:Int}(h:i=k)(J:ns[k]?=some x):sQ (ns.map A.int) i=some (.int x):=JP h<|by rw[aQ,J];rfl
def rm{j:Int}(h:-4611686018427387904<=j)(h':j<4611686018427387904):bnd j:=⟨(),()⟩
def F8{i j:Int}(h1:-1000000<=i)(h2:i<=1000000)(h3:-1000000<=j)(J:j<=1000000)(U:j-i<=1000):BB i j:=⟨⟨(),(),(),()⟩,()⟩
theorem ints_map:∀(ns:ag),A.ints (ns.map .int)=some ns
 | []=>rfl
 | n::ns=>by show(A.ints<|ns.map .int).map (n::·)=_;rw[ints_map ns];rfl
@[simp]def YC {S:jT}{x y:Bool}:yN false (.bl x) (.bl y) S=.ok (.bl<|x == y) S:=rfl
@[simp]def Xu {S:jT}{x y:Bool}:yN true (.bl x) (.bl y) S=.ok (.bl<|!(x == y)) S:=rfl
@[simp]def Yg {S:jT}{x y:Int}:yN false (.int x) (.int y) S=.ok (.bl<|x == y) S:=rfl
@[simp]def Yn {S:jT}{x y:Int}:yN true (.int x) (.int y) S=.ok (.bl<|!(x == y)) S:=rfl
@[simp]def Mf {S:jT}:Xj false .non .non S=.ok (.bl true) S:=rfl
@[simp]def Mq {S:jT}{xs:ae}:Xj false (.tup xs) .non S=.ok (.bl false) S:=rfl
@[simp]def Kc {S:jT}{n:Nat}:Xj false (.ref n) .non S=.ok (.bl false) S:=rfl
@[simp]def HN {S:jT}:Xj true .non .non S=.ok (.bl false) S:=rfl
@[simp]def Gf {S:jT}{xs:ae}:Xj true (.tup xs) .non S=.ok (.bl true) S:=rfl
@[simp]def G1 {S:jT}{n:Nat}:Xj true (.ref n) .non S=.ok (.bl true) S:=rfl
@[simp]def Lj {S:jT}{x:A}{c:String}:OE x (.ty c) S=opt (x.kd S) λk=>opt (Gx k c) λb=>.ok (.bl b) S:=rfl
@[simp]def Yu {S:jT}{b:Bool}:A.kd (.bl b) S=some .bl:=rfl
@[simp]def Sv {S:jT}{b:Int}:A.kd (.int b) S=some .int:=rfl
@[simp]def Qm {S:jT}{b:ae}:A.kd (.tup b) S=some .tup:=rfl
@[simp]def QG {S:jT}:A.kd .non S=some .non:=rfl
@[simp]def Uz {S:jT}{b:Str}:A.kd (.str b) S=some .str:=rfl
@[simp]def QV {S:jT}{n:Nat}:A.kd (.ref n) S=(jU S n).map λ_=>.lst:=rfl
@[simp]def O4 {S:jT}:newL [] S=.ok (.ref S.length) (S++[.lst []]):=lK<|by simp
@[simp]def OO {S:jT}{x0:A}:newL [x0] S=.ok (.ref S.length) (S++[.lst [x0]]):=lK<|by simp
@[simp]def OX {S:jT}{x0 x1:A}:newL [x0,x1] S=.ok (.ref S.length) (S++[.lst [x0,x1]]):=lK<|by simp
@[simp]def TZ {S:jT}{x0 x1 x2:A}:newL [x0,x1,x2] S=.ok (.ref S.length) (S++[.lst [x0,x1,x2]]):=lK<|by simp
@[simp]def Pd {S:jT}{x0 x1 x2 x3:A}:newL [x0,x1,x2,x3] S=.ok (.ref S.length) (S++[.lst [x0,x1,x2,x3]]):=lK<|by simp
@[simp]def RC {S:jT}{x0 x1 x2 x3 x4:A}:newL [x0,x1,x2,x3,x4] S=.ok (.ref S.length) (S++[.lst [x0,x1,x2,x3,x4]]):=lK<|by simp
@[simp]def P8 {S:jT}{x0 x1 x2 x3 x4 x5:A}:newL [x0,x1,x2,x3,x4,x5] S=.ok (.ref S.length) (S++[.lst [x0,x1,x2,x3,x4,x5]]):=lK<|by simp
@[simp]def RW {S:jT}{x0 x1 x2 x3 x4 x5 x6:A}:newL [x0,x1,x2,x3,x4,x5,x6] S=.ok (.ref S.length) (S++[.lst [x0,x1,x2,x3,x4,x5,x6]]):=lK<|by simp
@[simp]def PK {S:jT}{x0 x1 x2 x3 x4 x5 x6 x7:A}:newL [x0,x1,x2,x3,x4,x5,x6,x7] S=.ok (.ref S.length) (S++[.lst [x0,x1,x2,x3,x4,x5,x6,x7]]):=lK<|by simp
@[simp]def Qd {S:jT}{x0 x1 x2 x3 x4 x5 x6 x7 x8:A}:newL [x0,x1,x2,x3,x4,x5,x6,x7,x8] S=.ok (.ref S.length) (S++[.lst [x0,x1,x2,x3,x4,x5,x6,x7,x8]]):=lK<|by simp
@[simp]def LA {S:jT}{x0 x1 x2 x3 x4 x5 x6 x7 x8 x9:A}:newL [x0,x1,x2,x3,x4,x5,x6,x7,x8,x9] S=.ok (.ref S.length) (S++[.lst [x0,x1,x2,x3,x4,x5,x6,x7,x8,x9]]):=lK<|by simp
theorem vA{α:Type}{n:Nat}{r:R α}(h:n<=16777216):gd (n<=sizeLine) r=r:=nS<|by rw[dR];exact h
def uE{α:Type}{n:Nat}{r:R α}(h:n<16777216):gd (n<sizeLine) r=r:=nS<|by rw[dR];exact h
def Xi {x:A}{xs:ae}:(x::xs).getD 0 .unb=x:=rfl
def Yl {x:A}{xs:ae}{n:Nat}:(x::xs).getD (n+1) .unb=xs.getD n .unb:=rfl
def aco {x y:A}{xs:ae}:(x::xs).set 0 y=y::xs:=rfl
def sets {x y:A}{xs:ae}{n:Nat}:(x::xs).set (n+1) y=x::xs.set n y:=rfl
def rep0 {x:A}:List.replicate 0 x=[]:=rfl
def reps {x:A}{n:Nat}:List.replicate (n+1) x=x::List.replicate n x:=rfl
def abV {x:A}{xs ys:ae}:(x::xs)++ys=x::(xs++ys):=rfl
def abN {ys:ae}:[]++ys=ys:=rfl
def acD{S:jT}{n:Nat}{xs ys:ae}(h:jU S n=some xs)(h':jU S m=some ys)(J:xs.length+ys.length<=16777216):mF (.ref n) (.ref m) S=.ok (.ref S.length) (S++[.lst<|xs++ys]):=by
 show opt (jU S n) _=_;rw[h,kg,h',kg];exact nS<|by rw[dR];exact J
abbrev uV (x:A)(S:jT):R A:=bif x.qF then .no else .ok x S
def TX {xs:ae}{S:jT}:uV (.tup xs) S=.ok (.tup xs) S:=rfl
def Ss {xs:ae}{S:jT}:uV (.frz xs) S=.ok (.frz xs) S:=rfl
def TU {i:Int}{S:jT}:uV (.int i) S=.ok (.int i) S:=rfl
def XC {b:Bool}{S:jT}:uV (.bl b) S=.ok (.bl b) S:=rfl
def Th {s:Str}{S:jT}:uV (.str s) S=.ok (.str s) S:=rfl
def Rq {n:Nat}{S:jT}:uV (.ref n) S=.ok (.ref n) S:=rfl
def UK  {S:jT}:uV (.non) S=.ok (.non) S:=rfl
def Ui {i j:Int}{S:jT}:uV (.rng i j) S=.ok (.rng i j) S:=rfl
def O3 {s:Str}{S:jT}:uV (.exn s) S=.ok (.exn s) S:=rfl
def eV0 {x0:A}{xs:ae}{S:jT}:jR 0 (x0::xs) S=uV x0 S:=oF
def eV1 {x0 x1:A}{xs:ae}{S:jT}:jR 1 (x0::x1::xs) S=uV x1 S:=oF
def eV2 {x0 x1 x2:A}{xs:ae}{S:jT}:jR 2 (x0::x1::x2::xs) S=uV x2 S:=oF
def eV3 {x0 x1 x2 x3:A}{xs:ae}{S:jT}:jR 3 (x0::x1::x2::x3::xs) S=uV x3 S:=oF
def eV4 {x0 x1 x2 x3 x4:A}{xs:ae}{S:jT}:jR 4 (x0::x1::x2::x3::x4::xs) S=uV x4 S:=oF
def eV5 {x0 x1 x2 x3 x4 x5:A}{xs:ae}{S:jT}:jR 5 (x0::x1::x2::x3::x4::x5::xs) S=uV x5 S:=oF
def eV6 {x0 x1 x2 x3 x4 x5 x6:A}{xs:ae}{S:jT}:jR 6 (x0::x1::x2::x3::x4::x5::x6::xs) S=uV x6 S:=oF
def eV7 {x0 x1 x2 x3 x4 x5 x6 x7:A}{xs:ae}{S:jT}:jR 7 (x0::x1::x2::x3::x4::x5::x6::x7::xs) S=uV x7 S:=oF
def eV8 {x0 x1 x2 x3 x4 x5 x6 x7 x8:A}{xs:ae}{S:jT}:jR 8 (x0::x1::x2::x3::x4::x5::x6::x7::x8::xs) S=uV x8 S:=oF
def gN0 {a x0:A}{xs:ae}{S:jT}:kY 0 a (x0::xs) S=.ok (a::xs) S:=rfl
def gN1 {a x0 x1:A}{xs:ae}{S:jT}:kY 1 a (x0::x1::xs) S=.ok (x0::a::xs) S:=rfl
def gN2 {a x0 x1 x2:A}{xs:ae}{S:jT}:kY 2 a (x0::x1::x2::xs) S=.ok (x0::x1::a::xs) S:=rfl
def gN3 {a x0 x1 x2 x3:A}{xs:ae}{S:jT}:kY 3 a (x0::x1::x2::x3::xs) S=.ok (x0::x1::x2::a::xs) S:=rfl
def gN4 {a x0 x1 x2 x3 x4:A}{xs:ae}{S:jT}:kY 4 a (x0::x1::x2::x3::x4::xs) S=.ok (x0::x1::x2::x3::a::xs) S:=rfl
def gN5 {a x0 x1 x2 x3 x4 x5:A}{xs:ae}{S:jT}:kY 5 a (x0::x1::x2::x3::x4::x5::xs) S=.ok (x0::x1::x2::x3::x4::a::xs) S:=rfl
def gN6 {a x0 x1 x2 x3 x4 x5 x6:A}{xs:ae}{S:jT}:kY 6 a (x0::x1::x2::x3::x4::x5::x6::xs) S=.ok (x0::x1::x2::x3::x4::x5::a::xs) S:=rfl
def gN7 {a x0 x1 x2 x3 x4 x5 x6 x7:A}{xs:ae}{S:jT}:kY 7 a (x0::x1::x2::x3::x4::x5::x6::x7::xs) S=.ok (x0::x1::x2::x3::x4::x5::x6::a::xs) S:=rfl
def gN8 {a x0 x1 x2 x3 x4 x5 x6 x7 x8:A}{xs:ae}{S:jT}:kY 8 a (x0::x1::x2::x3::x4::x5::x6::x7::x8::xs) S=.ok (x0::x1::x2::x3::x4::x5::x6::x7::a::xs) S:=rfl
def kL:type_of% (anI @R.oq<|anI @R.Mx<|anI @R.oX<|anI @RS.of_ok<|anI @RS.Xn<|anI @kg<|anI @LC<|anI @eV0<|anI @eV1<|anI @eV2<|anI @eV3<|anI @eV4<|anI @eV5<|anI @eV6<|anI @eV7<|anI @eV8<|anI @TX<|anI @Ss<|anI @TU<|anI @XC<|anI @Th<|anI @Rq<|anI @UK<|anI @Ui<|anI @O3<|anI @My<|anI @LF<|anI @J5<|anI @SA<|anI @MQ<|anI @Ln<|anI @Mm<|anI @KO<|anI @KU<|anI @Xx<|anI @Lg<|anI @Rg<|anI @LU<|anI @X7<|anI @Pp<|anI @LR<|anI @MO<|anI @Tt<|anI @Lv<|anI @Ng<|anI @LN<|anI @PM<|anI @SM<|anI @Lm<|anI @RV<|anI @HJ<|anI @J6<|anI @UP<|anI @MJ<|anI @GN<|anI @K8<|anI @ME<|anI @Hi<|anI @UQ<|anI @Ut<|anI @Xq<|anI @YB<|anI @Qi<|anI @Ge<|anI @J9<|anI @GI<|anI @Q9<|anI @M0<|anI @lst?_ref<|anI @RS.Up<|anI @RS.OY<|anI @RS.Q_<|anI @RS.Q8<|anI @RS.TJ<|anI @M_<|anI @KS<|anI @C8<|anI @G0<|anI @HD<|anI @ML<|anI @G4<|anI @UO<|anI @MC<|anI @gN0<|anI @gN1<|anI @gN2<|anI @gN3<|anI @gN4<|anI @gN5<|anI @gN6<|anI @gN7<|anI @gN8<|anI @Uy<|anI @UA<|anI @QJ<|anI @P1<|anI @Rc<|anI @LI<|anI @Lh<|anI @Hy<|anI @RS.Pf<|anI @RS.RX<|anI @RS.Uu<|anI @Pn<|anI @Qp<|anI @SE<|anI @XW<|anI @Xv<|anI @XI<|anI @YD<|anI @XA<|anI @SS<|anI @O5<|anI @SY<|anI @Pg<|anI @UE<|anI @PV<|anI @M8<|anI @Mk<|anI @Mt<|anI @MI<|anI @C3<|anI @Xm<|anI @Yq<|anI @X5<|anI @Si<|anI @TY<|anI @LD<|anI @MU<|anI @LJ<|anI @GH<|anI @Gk<|anI @SX<|anI @SN<|anI @Xp<|anI @A8<|anI @Sj<|anI @Mr<|anI @ki<|anI @PJ<|anI @OZ<|anI @HC<|anI @YC<|anI @Xu<|anI @Yg<|anI @Yn<|anI @Mf<|anI @Mq<|anI @Kc<|anI @HN<|anI @Gf<|anI @G1<|anI @Lj<|anI @Yu<|anI @Sv<|anI @Qm<|anI @QG<|anI @Uz<|anI @QV<|anI @O4<|anI @OO<|anI @OX<|anI @TZ<|anI @Pd<|anI @RC<|anI @P8<|anI @RW<|anI @PK<|anI @Qd<|anI @LA<|anI @Xi<|anI @Yl<|anI @aco<|anI @sets<|anI @rep0<|anI @reps<|anI @abV<|anI @abN<|anI @yw<|anI @Lb<|anI @Q0<|anI @Uh<|anI @Xr<|anI @Yc<|anI @Rx<|anI @Uq<|anI @CO<|anI @GS<|anI @Rk<|anI @L4<|anI @Qz<|anI @LY<|anI @TQ<|anI @Yy<|anI @XD<|anI @Kg<|anI @KJ<|anI @Se<|anI @GL<|anI @Kv<|anI @Q4<|anI @Sf<|anI @Uo<|anI @Rr<|@QD):=anI @R.oq<|anI @R.Mx<|anI @R.oX<|anI @RS.of_ok<|anI @RS.Xn<|anI @kg<|anI @LC<|anI @eV0<|anI @eV1<|anI @eV2<|anI @eV3<|anI @eV4<|anI @eV5<|anI @eV6<|anI @eV7<|anI @eV8<|anI @TX<|anI @Ss<|anI @TU<|anI @XC<|anI @Th<|anI @Rq<|anI @UK<|anI @Ui<|anI @O3<|anI @My<|anI @LF<|anI @J5<|anI @SA<|anI @MQ<|anI @Ln<|anI @Mm<|anI @KO<|anI @KU<|anI @Xx<|anI @Lg<|anI @Rg<|anI @LU<|anI @X7<|anI @Pp<|anI @LR<|anI @MO<|anI @Tt<|anI @Lv<|anI @Ng<|anI @LN<|anI @PM<|anI @SM<|anI @Lm<|anI @RV<|anI @HJ<|anI @J6<|anI @UP<|anI @MJ<|anI @GN<|anI @K8<|anI @ME<|anI @Hi<|anI @UQ<|anI @Ut<|anI @Xq<|anI @YB<|anI @Qi<|anI @Ge<|anI @J9<|anI @GI<|anI @Q9<|anI @M0<|anI @lst?_ref<|anI @RS.Up<|anI @RS.OY<|anI @RS.Q_<|anI @RS.Q8<|anI @RS.TJ<|anI @M_<|anI @KS<|anI @C8<|anI @G0<|anI @HD<|anI @ML<|anI @G4<|anI @UO<|anI @MC<|anI @gN0<|anI @gN1<|anI @gN2<|anI @gN3<|anI @gN4<|anI @gN5<|anI @gN6<|anI @gN7<|anI @gN8<|anI @Uy<|anI @UA<|anI @QJ<|anI @P1<|anI @Rc<|anI @LI<|anI @Lh<|anI @Hy<|anI @RS.Pf<|anI @RS.RX<|anI @RS.Uu<|anI @Pn<|anI @Qp<|anI @SE<|anI @XW<|anI @Xv<|anI @XI<|anI @YD<|anI @XA<|anI @SS<|anI @O5<|anI @SY<|anI @Pg<|anI @UE<|anI @PV<|anI @M8<|anI @Mk<|anI @Mt<|anI @MI<|anI @C3<|anI @Xm<|anI @Yq<|anI @X5<|anI @Si<|anI @TY<|anI @LD<|anI @MU<|anI @LJ<|anI @GH<|anI @Gk<|anI @SX<|anI @SN<|anI @Xp<|anI @A8<|anI @Sj<|anI @Mr<|anI @ki<|anI @PJ<|anI @OZ<|anI @HC<|anI @YC<|anI @Xu<|anI @Yg<|anI @Yn<|anI @Mf<|anI @Mq<|anI @Kc<|anI @HN<|anI @Gf<|anI @G1<|anI @Lj<|anI @Yu<|anI @Sv<|anI @Qm<|anI @QG<|anI @Uz<|anI @QV<|anI @O4<|anI @OO<|anI @OX<|anI @TZ<|anI @Pd<|anI @RC<|anI @P8<|anI @RW<|anI @PK<|anI @Qd<|anI @LA<|anI @Xi<|anI @Yl<|anI @aco<|anI @sets<|anI @rep0<|anI @reps<|anI @abV<|anI @abN<|anI @yw<|anI @Lb<|anI @Q0<|anI @Uh<|anI @Xr<|anI @Yc<|anI @Rx<|anI @Uq<|anI @CO<|anI @GS<|anI @Rk<|anI @L4<|anI @Qz<|anI @LY<|anI @TQ<|anI @Yy<|anI @XD<|anI @Kg<|anI @KJ<|anI @Se<|anI @GL<|anI @Kv<|anI @Q4<|anI @Sf<|anI @Uo<|anI @Rr<|@QD
def bools:(∀b:Bool,cond false b b=b)/\(∀(α:Type) (x y:α),cond false x y=y)/\(∀(α:Type) (x y:α),cond true x y=x):=⟨λ_=>rfl,λ_ _ _=>rfl,λ_ _ _=>rfl⟩
def mY:(∀(x:Str) (xs:ar),(x::xs).length=xs.length+1)/\([]:ar).length=0/\(∀(x:A) (xs:ae),(x::xs).length=xs.length+1)/\([]:ae).length=0:=⟨λ_ _=>rfl,rfl,λ_ _=>rfl,rfl⟩
section
variable {τ:ae}{S:jT}
def Mv {f:ae->jT->R A}{d:qQ}:aev f d τ S=(d τ S).bind f:=rfl
abbrev kRz (c:Str):Unit->jT->RS:=λ_ S1=>.ex c S1
def Sd {c:Str}{u:Unit}:kRz c u S=.ex c S:=rfl
def C5 {c:Str}{ps:List<|Str ⊕ Ex}:aax c ps τ S=RS.of (VD ps τ S) (kRz c):=rfl
def Kh:VD [] τ S=.ok Unit.unit S:=rfl
def LW {x:Str}{ps:List<|Str ⊕ Ex}:VD (.inl x::ps) τ S=VD ps τ S:=rfl
abbrev kFs (ps:List<|Str ⊕ Ex)(τ:ae):A->jT->R Unit:=λv S1=>match v with
 | .int i=>gd (i.natAbs.log2<64) (VD ps τ S1)
 | _=>.no
def KN {e:Ex}{ps:List<|Str ⊕ Ex}:VD (.inr e::ps) τ S=(e τ S).bind (kFs ps τ):=rfl
abbrev RS.try (i n:Nat)(cs:ar)(d:Sm):RS->RS
 | .ex x S1=>if x∈cs then XM i (d ((List.replicate n .unb).set i<|.exn x) S1)else .no
 | r=>r
def Lx {i n:Nat}{cs:ar}{c d:Sm}:ac6 i n cs c d τ S=RS.try i n cs d (c τ S):=by
 unfold ac6 RS.try;cases c τ S<;>rfl
def RE {i n:Nat}{cs:ar}{d:Sm}:RS.try i n cs d (.nx τ S)=.nx τ S:=rfl
def Pq {i n:Nat}{cs:ar}{d:Sm}{a:A}:RS.try i n cs d (.rt a S)=.rt a S:=rfl
def PL {i n:Nat}{x:Str}{cs:ar}{d:Sm}:RS.try i n (x::cs) d (.ex x S)=XM i (d ((List.replicate n .unb).set i<|.exn x) S):=aJ<|.head _
def RN {i:Nat}{a:A}:XM i (.rt a S)=.rt a S:=rfl
def Sa {i:Nat}:XM i (.nx τ S)=.nx (τ.set i .unb) S:=rfl
abbrev abf (f:Str->bj):A->jT->R A:=λv S1=>match v with
 | .exn x=>opt (f x) λb=>.ok (.bl b) S1
 | _=>.no
def MP {f:Str->bj}{c:Ex}:adL f c τ S=(c τ S).bind (abf f):=rfl
def QL {x:Str}{b:Bool}{tb:List<|Str×Bool}:abf (tbX ((x,b)::tb)) (.exn x) S=.ok (.bl b) S:=by
 show opt (List.lookup x ((x,b)::tb)) _=_;rw[gA,cg];rfl
abbrev R.QY {α β:Type}(r:R α)(f:α->jT->R β):R β:=match r with
 | .ok a S=>f a S
 | _=>.no
def Hj {α β:Type}{a:α}{f:α->jT->R β}:R.QY (.ok a S) f=f a S:=rfl
def Ni {f:ae->jT->R A}{d:qQ}:acY f d τ S=R.QY (d τ S) f:=by unfold acY R.QY;cases d τ S<;>rfl
abbrev RS.ofK {α:Type}(r:R α)(f:α->jT->RS):RS:=match r with
 | .ok a S=>f a S
 | _=>.no
def Ua {α:Type}{a:α}{f:α->jT->RS}:RS.ofK (.ok a S) f=f a S:=rfl
def MV {t:Te}{c d:Sm}:abx t c d τ S=RS.ofK (t τ S) (kIf c d τ):=by
 unfold abx RS.ofK
 cases t τ S with
 | ok b S1=>cases b<;>rfl
 | ex _ _=>rfl
 | no=>rfl
abbrev RS.Qk (i:Nat)(cs:ar)(d:Sm)(τ:ae):RS->RS
 | .ex x S1=>if x∈cs then XM i (d (τ.set i<|.exn x) S1)else .no
 | r=>r
def GB {i:Nat}{cs:ar}{c d:Sm}:Yh i cs c d τ S=RS.Qk i cs d τ (c τ S):=by
 unfold Yh RS.Qk;cases c τ S<;>rfl
def M6 {i:Nat}{cs:ar}{d:Sm}{J:ae}:RS.Qk i cs d τ (.nx J S)=.nx J S:=rfl
def MZ {i:Nat}{cs:ar}{d:Sm}{a:A}:RS.Qk i cs d τ (.rt a S)=.rt a S:=rfl
def KL {i:Nat}{x:Str}{cs:ar}{d:Sm}:RS.Qk i (x::cs) d τ (.ex x S)=XM i (d (τ.set i<|.exn x) S):=aJ<|.head _
def Gy:A.OI []=some []:=rfl
def CY {b:Bool}{xs:ae}:A.OI (.bl b::xs)=(A.OI xs).map (b::·):=rfl
end
def qu:type_of% (anI @Mv<|anI @C5<|anI @Sd<|anI @Kh<|anI @LW<|anI @KN<|anI @Lx<|anI @RE<|anI @Pq<|anI @PL<|anI @RN<|anI @Sa<|anI @MP<|anI @QL<|anI @Gy<|anI @CY<|anI @Hj<|anI @Ni<|anI @Ua<|anI @MV<|anI @GB<|anI @M6<|anI @MZ<|anI @KL<|trivial):=anI @Mv<|anI @C5<|anI @Sd<|anI @Kh<|anI @LW<|anI @KN<|anI @Lx<|anI @RE<|anI @Pq<|anI @PL<|anI @RN<|anI @Sa<|anI @MP<|anI @QL<|anI @Gy<|anI @CY<|anI @Hj<|anI @Ni<|anI @Ua<|anI @MV<|anI @GB<|anI @M6<|anI @MZ<|anI @KL<|trivial
end Am
namespace Am
open PySem PySem.Spec PyProof.Rows L2
abbrev Df (K:au)(x:Str)(st:aC):Prop:=∃(f:ak) (fd:FuncData),PySem.W.nsIn K mainGlobals x=some (some<|.ref f)/\Fun K x x st f fd
inductive En (P:aj) (w:ah) (K:au) (mg:Str->bb) (base:aq):Prop
 | mk (h:aq) (X:K.In h) (G:h.Ns mainGlobals mg)
section
variable {P:aj}{w:ah}{K:au}{mg:Str->bb}{base:aq}{x:Str}{st:aC}{ps:ar}{k:Nat}{F:ae->jT->R A}
def En.at(E:En P w K mg base){f:ak}(h:PySem.W.nsIn K mainGlobals x=some (some<|.ref f)):mg x=some (.ref f):=by
 obtain⟨_,X,G⟩:=E;exact jx X G h
def Df.of{f:ak}{kV J ct:af}(a:PySem.W.nsIn K mainGlobals x=some (some<|.ref f))(l:K.lookup f=some ⟨oc,od,.func<|PySem.W.fnOf x x (v_ st) (rX st) (j9 st) .none kV doc J an cdv ct,osl⟩)(c:PySem.W.codeIn K cdv x=true)(k:PySem.W.keepIn K (.ref f)=true):Df K x st:=⟨f,_,a,Y7 l c k⟩
meta abbrev Bi (x:Str)(st:aC)(ps:ar):Prop:=∀us:ax,us.length=ps.length->∀(kV c f:af) (e:Option ak) (d ct:af),bindArgs (PySem.W.fnOf x x (v_ st) (rX st) (j9 st) .none kV c f e d ct) ⟨us,[]⟩=pure (ps.zip us)
def Df.get(d:Df K x st)(E:En P w K mg base)(b:Bi x st ps):∃f fd,Fun K x x st f fd/\mg x=some (.ref f)/\PySem.W.keepIn K (.ref f)=true/\Binds K fd ps []:=by
 obtain⟨f,fd,a,F⟩:=d;exact⟨f,fd,F,E.at a,F.kp,F.binds λkV c g j e ct us k=>b us k kV c g j e ct⟩
def Df.kA(d:Df K x st)(E:En P w K mg base)(h:∀{f fd},Fun K x x st f fd->FnOk P w K mg base qG k f fd ps (rP K ps.length F))(b:Bi x st ps):n8 P w K mg base k x ps F:=by
 obtain⟨f,fd,a,c,e,g⟩:=d.get E b;exact⟨f,fd,h a,c,e,g⟩
def Df.rA(d:Df K x st)(E:En P w K mg base)(h:∀{f fd},Fun K x x st f fd->mg x=some (.ref f)->PySem.W.keepIn K (.ref f)=true->Binds K fd ps []->FnOk P w K mg base qG k f fd ps (rP K ps.length F))(b:Bi x st ps):n8 P w K mg base k x ps F:=by
 obtain⟨f,fd,a,c,e,g⟩:=d.get E b;exact⟨f,fd,h a c e g,c,e,g⟩
end
section
variable {X:Cx}{pos p:Pos}{e1 e2 e3:aA}{x p1 p2 p3:Str}{k K0:Nat}{F:ae->jT->R A}{c1 c2 c3:Ex}
def Nf(G:n8 X.prog X.w X.K X.mg X.base k x [p1] F)(hr:Room K0 X.A)(h1:AE X e1 c1)(hk:k<=K0<|>δ)(hg:Gl X x<|>η)(J:(x == ("__debug__" : Str))=false<|>δ)(U:starEach [e1] X.env=(false,eval e1 X.env)::starEach [] X.env<|>η)(hp:((backTo pos<|starEach [] X.env).any (·.1)=false)<|>η):AE X (.Call (.Name x p) [e1] [] pos) (eFn F<|jQ c1 j5):=nG G (hr.mono hk) (jS h1 jZ U) (j8 ly) hg J U hp
def zT(G:n8 X.prog X.w X.K X.mg X.base k x [p1,p2] F)(hr:Room K0 X.A)(h1:AE X e1 c1)(h2:AE X e2 c2)(hk:k<=K0<|>δ)(hg:Gl X x<|>η)(J:(x == ("__debug__" : Str))=false<|>δ)(U:starEach [e1,e2] X.env=(false,eval e1 X.env)::starEach [e2] X.env<|>η)(s2:starEach [e2] X.env=(false,eval e2 X.env)::starEach [] X.env<|>η)(hp:((backTo pos<|starEach [e2] X.env).any (·.1)=false)<|>η):AE X (.Call (.Name x p) [e1,e2] [] pos) (eFn F<|jQ c1<|jQ c2 j5):=nG G (hr.mono hk) (jS h1 (jS h2 jZ s2) U) (j8<|j8 ly) hg J U hp
def UW(G:n8 X.prog X.w X.K X.mg X.base k x [p1,p2,p3] F)(hr:Room K0 X.A)(h1:AE X e1 c1)(h2:AE X e2 c2)(h3:AE X e3 c3)(hk:k<=K0<|>δ)(hg:Gl X x<|>η)(J:(x == ("__debug__" : Str))=false<|>δ)(U:starEach [e1,e2,e3] X.env=(false,eval e1 X.env)::starEach [e2,e3] X.env<|>η)(s2:starEach [e2,e3] X.env=(false,eval e2 X.env)::starEach [e3] X.env<|>η)(s3:starEach [e3] X.env=(false,eval e3 X.env)::starEach [] X.env<|>η)(hp:((backTo pos<|starEach [e2,e3] X.env).any (·.1)=false)<|>η):AE X (.Call (.Name x p) [e1,e2,e3] [] pos) (eFn F<|jQ c1<|jQ c2<|jQ c3 j5):=nG G (hr.mono hk) (jS h1 (jS h2 (jS h3 jZ s3) s2) U) (j8<|j8<|j8 ly) hg J U hp
def uH{N P:ar}{J:Scope}(a:J.kind=.function)(b:J.isCoroutine=false)(c:J.isGenerator=false)(h:N.Nodup/\N.take P.length=P/\(∀x∈P,J.names.lookup x=some .local\/J.names.lookup x=some .cell)/\∀y∈J.names,y.2≠.free):FnScope N P J:=⟨a,b,c,h.1,h.2.1,h.2.2.1,h.2.2.2⟩
end
abbrev kQ (S:jT)(n:Nat):Option (List<|Int×A):=match S[n]? with
 | some (.nX xs)=>some xs
 | _=>none
def mK{n:Nat}(h:kQ S n=some xs):S[n]?=some (.nX xs):=by
 unfold kQ at h;split at h
 ·rename_i e;cases h;exact e
 ·cases h
def rV{S:jT}{n:Nat}(h:S[n]?=some (.nX xs)):kQ S n=some xs:=by
 unfold kQ;rw[h]
abbrev l_ (kvs:List<|Int×A)(k:Int):Option A:=(kvs.find? λkv=>decide<|kv.1=k).map (·.2)
abbrev sZ (kvs:List<|Int×A)(k:Int)(v:A):List (Int×A):=
 if (l_ kvs k).isSome=true then kvs.map (λkv=>if kv.1=k then(kv.1,v)else kv)else kvs++[(k,v)]
section
variable {K:au}{ρ:ba}{H:Hp}
def Of{p:Int×A}{r:List<|Int×A}{k:Int}(e:p.1=k):l_ (p::r) k=some p.2:=by simp[l_,cF,e]
def ND{p:Int×A}{r:List<|Int×A}{k:Int}(e:¬p.1=k):l_ (p::r) k=l_ r k:=by simp[l_,cF,e]
def acZ{a b:Int}(e:(Sum.inl a:Key)=Sum.inl b):a=b:=by injection e
theorem DI.look:∀{kvs:List<|Int×A}{ks:List<|Key×V}(k:Int),DI K ρ H kvs ks->(l_ kvs k).isSome=(pY ks (Sum.inl k:Key)).isSome/\∀x,l_ kvs k=some x->∃v,pY ks (Sum.inl k:Key)=some v/\AV K ρ H x v
 | [],[],k,_=>⟨rfl,λx h=>nomatch h⟩
 | p::r,q::r',k,⟨⟨e,a⟩,t⟩=>by
  by_cases c:p.1=k
  ·have d:q.1=(Sum.inl k:Key):=by rw[e,c]
   rw[Of c,vD d];exact⟨rfl,λx h=>by cases h;exact⟨_,rfl,a⟩⟩
  ·have d:¬q.1=(Sum.inl k:Key):=λz=>c<|acZ<|e.symm.trans z;rw[ND c,u9 d];exact DI.look k t
theorem DI.repl{x:A}{v:V}(h:AV K ρ H x v)(k:Int):∀{kvs:List<|Int×A}{ks:List<|Key×V},DI K ρ H kvs ks->DI K ρ H (kvs.map λkv=>if kv.1=k then(kv.1,x)else kv) (ks.map λkv=>if kv.1=(Sum.inl k:Key)then(kv.1,v)else kv)
 | [],[],_=>trivial
 | p::r,q::r',⟨⟨e,a⟩,t⟩=>by
  refine⟨?_,DI.repl h k t⟩;dsimp only;by_cases c:p.1=k
  ·rw[aJ c,aJ<|by rw[e,c]];exact⟨e,h⟩
  ·rw[aI c,aI λz=>c<|acZ<|e.symm.trans z];exact⟨e,a⟩
theorem DI.snoc{x:A}{v:V}(h:AV K ρ H x v)(k:Int):∀{kvs:List<|Int×A}{ks:List<|Key×V},DI K ρ H kvs ks->DI K ρ H (kvs++[(k,x)]) (ks++[(Sum.inl k,v)])
 | [],[],_=>⟨⟨rfl,h⟩,trivial⟩
 | p::r,q::r',⟨a,t⟩=>⟨a,DI.snoc h k t⟩
def DI.put{x:A}{v:V}(h:AV K ρ H x v)(k:Int){ks:List<|Key×V}(d:DI K ρ H kvs ks):DI K ρ H (sZ kvs k x) (putK ks (Sum.inl k:Key) v):=by
 unfold sZ putK;rw[yJ,<- (d.look k).1];by_cases c:(l_ kvs k).isSome=true
 ·rw[aJ c,aJ c];exact DI.repl h k d
 ·rw[aI c,aI c];exact DI.snoc h k d
def DI.length:∀{kvs:List<|Int×A}{ks:List<|Key×V},DI K ρ H kvs ks->kvs.length=ks.length
 | [],[],_=>rfl
 | _::_,_::_,⟨_,t⟩=>dY (·+1) t.length
theorem DI.keys:∀{kvs:List<|Int×A}{ks:List<|Key×V},DI K ρ H kvs ks->ks.map (·.1)=kvs.map λkv=>(Sum.inl kv.1:Key)
 | [],[],_=>rfl
 | _::_,_::_,⟨⟨e,_⟩,t⟩=>by rw[bH,bH,e,DI.keys t]
def Rel.nX{n:Nat}{a:ak}(R:Rel K ρ H S)(J:ρ[n]?=some a)(hS:S[n]?=some (.nX xs)):∃vs,H a=some (.dK vs)/\DI K ρ H xs vs:=R.at n a _ J hS
def Rel.aby{S:jT}{p:ak}(R:Rel K ρ H S)(J:H p=none)(r:DI K ρ H xs vs):Ext ρ (ρ++[p]) H (upd H p<|.dK vs)/\Rel K (ρ++[p]) (upd H p<|.dK vs) (S++[.nX xs])/\(ρ++[p])[S.length]?=some p:=by
 have ex:Ext ρ (ρ++[p]) H (upd H p<|.dK vs):=⟨⟨eV _ _,λa u _ h=>by rw[j7<|kF h J];exact h⟩,λa u h _=>by rw[j7<|kF h J];exact h,λa h=>by
  rcases br.mp h with z|z
  ·exact .inl z
  ·have e:a=p:=by simpa using z
   rw[e];exact .inr J⟩
 have g:p∉ρ:=R.Gq J;have c:(ρ++[p])[S.length]?=some p:=by rw[<- R.len];simp
 refine⟨ex,⟨by simp[R.len],?_,?_⟩,c⟩
 ·rw[cO];refine⟨R.nd,by simp,λa j b k e=>?_⟩;have:b=p:=by simpa using k
  exact g<|by rw[<- this,<- e];exact j
 ·intro n a o h1 h2;by_cases hn:n<S.length
  ·rw[bE<|by rw[R.len];exact hn]at h1;rw[bE hn]at h2;have na:a≠p:=λz=>g (by rw[<- z];exact aX h1);have:=R.at n a o h1 h2
   cases o with
   | lst ys=>obtain⟨d,e,q⟩:=this;exact⟨d,by rw[j7 na];exact e,q.ext ex⟩
   | dct _|nX _|dks _|dcp _=>obtain⟨d,e,q⟩:=this;exact⟨d,by rw[j7 na];exact e,q.ext ex⟩
   | dcf _|dkf _=>obtain⟨f,d,e,q⟩:=this;exact⟨f,d,by rw[j7 na];exact e,q.ext ex⟩
   | ins _ _=>obtain⟨f,m,e⟩:=this;exact⟨f,m,by rw[j7 na];exact e⟩
  ·have e:n=S.length:=by
    have:=(aF.mp h2).1;simp at this
    lia
   subst e;rw[c]at h1
   cases h1
   simp at h2;subst h2;exact⟨vs,kZ,r.ext ex⟩
def Rel.sZ{S:jT}{n:Nat}{a:ak}(R:Rel K ρ H S)(J:ρ[n]?=some a)(hS:S[n]?=some (.nX xs))(r:DI K ρ H ys ws):Ext ρ ρ H (upd H a<|.dK ws)/\Rel K ρ (upd H a<|.dK ws) (S.set n<|.nX ys):=by
 obtain⟨k,e,_⟩:=R.at n a _ J hS;have ex:Ext ρ ρ H (upd H a<|.dK ws):=⟨⟨eT _,λb u i h=>by
  have:b≠a:=by
   intro z;subst z;rw[e]at h;cases h;exact i
  rw[j7 this];exact h⟩,λb u h n=>by
  rw[j7 λz=>n<|by rw[z];exact aX J];exact h,λ_ h=>.inl h⟩
 refine⟨ex,by rw[cE];exact R.len,R.nd,λm b o h1 h2=>?_⟩;by_cases f:m=n
 ·subst f;rw[J]at h1;cases h1;rw[bO (aF.mp hS).1]at h2
  cases h2
  exact⟨ws,kZ,r.ext ex⟩
 ·rw[bM<|di f]at h2;have nb:b≠a:=λz=>by
   subst z;obtain⟨p,e1⟩:=aF.mp J;obtain⟨B,e2⟩:=aF.mp h1;exact f<|(cZ R.nd).mp<|e2.trans e1.symm
  have:=R.at m b o h1 h2
  cases o with
  | lst ys=>obtain⟨c,d,q⟩:=this;exact⟨c,by rw[j7 nb];exact d,q.ext ex⟩
  | dct _|nX _|dks _|dcp _=>obtain⟨c,d,q⟩:=this;exact⟨c,by rw[j7 nb];exact d,q.ext ex⟩
  | dcf _|dkf _=>obtain⟨g,c,d,q⟩:=this;exact⟨g,c,by rw[j7 nb];exact d,q.ext ex⟩
  | ins _ _=>obtain⟨g,j,d⟩:=this;exact⟨g,j,by rw[j7 nb];exact d⟩
end
section
variable {X:Cx}{pos:Pos}{a b:aA}
abbrev B6 (x y:A)(S:jT):R A:=match x,y with
 | .ref n,.int k=>opt (kQ S n) λc=>opt (l_ c k) λv=>.ok v S
 | _,_=>.no
def NG{x:A}{P:A->jT->Prop}{E:Str->jT->Prop}(h:(B6 x y S).post P E):∃n k kvs v,x=.ref n/\y=.int k/\kQ S n=some kvs/\l_ kvs k=some v/\P v S:=by
 unfold B6 at h;split at h
 ·obtain⟨kvs,h1,h⟩:=jV h;obtain⟨v,h2,h⟩:=jV h;exact⟨_,_,kvs,v,rfl,rfl,h1,h2,h⟩
 ·exact h.elim
def acA(J:X.A.units+64<cLine):UY X (r2 X B6):=λf c pins s σ H x y v u Q I rx ry ⟨ρ,S,a,b,R,va,vb,h⟩ hs=>by
 obtain⟨n,k,j,z,q,B,hn,C,hP⟩:=NG h;subst q B
 cases vb
 cases va with
 | @ref p _ m=>
  obtain⟨ks,e,d⟩:=R.nX m<|mK hn;obtain⟨w,hw,F⟩:=(d.look k).2 z C;have g:t8 H p (kV<|Sum.inl k) (pY ks<|Sum.inl k):=t8.k e;rw[hw]at g;exact AD () f c pins s σ H _ _ v u Q I rx ry ⟨p,w,rfl,g,hP _ _ _ .refl R F⟩ hs
def P9(J:X.A.units+64<cLine){ca cb:Ex}(U:AE X a ca)(hb:AE X b cb)(hs:wj b<|>μ):AE X (.Subscript a b pos) (j6 B6 ca cb):=PE.imp (G7 (acA J) U hb hs) λσ H Q h=>sC h
abbrev Dg (o i v:A)(S:jT):R Unit:=match o,i with
 | .ref n,.int k=>opt (kQ S n) λc=>gd (c.length<sizeLine) (.ok Unit.unit<|S.set n<|.nX<|sZ c k v)
 | _,_=>.no
def Jh{x v:A}{S:jT}{P:Unit->jT->Prop}{E:Str->jT->Prop}(h:(Dg x y v S).post P E):∃n k kvs,x=.ref n/\y=.int k/\kQ S n=some kvs/\kvs.length<sizeLine/\P Unit.unit (S.set n<|.nX<|sZ kvs k v):=by
 unfold Dg at h;split at h
 ·obtain⟨kvs,h1,h⟩:=jV h;obtain⟨h2,h⟩:=ko h;exact⟨_,_,kvs,rfl,rfl,h1,h2,h⟩
 ·exact h.elim
abbrev adW (X:Cx):Ol:=λo i v H Q=>∃ρ S e d c,Rel X.K ρ H S/\AV X.K ρ H e o/\AV X.K ρ H d i/\AV X.K ρ H c v/\(Dg e d c S).post (λ_ f=>∀ρ' H',Ext ρ ρ' H H'->Rel X.K ρ' H' f->Q H') (XE X ρ H)
def V2(U:X.A.units+64<cLine):Oj X (adW X):=λpins s σ H o i v F iv u Q I g G B h9=>by
 obtain⟨ρ,S,J,K,L,R,h1,h2,h3,h⟩:=h9;obtain⟨n,k,j,m,C,hn,q,hP⟩:=Jh h;subst m C
 cases h2
 cases h1 with
 | @ref p _ c=>
  obtain⟨ks,e,d⟩:=R.nX c<|mK hn;obtain⟨ex,f⟩:=R.sZ c (mK hn)<|d.put h3 k;exact set_dict (by omega) pins s σ H _ _ v F iv u Q I g G B ⟨p,_,rfl,G9.k (k:=Sum.inl k) e<|by rw[<- d.length];exact q,hP _ _ ex f⟩
abbrev Ga (co J:Ex):Tg:=λa τ S=>(co τ S).bind λo S1=>(J τ S1).bind λi S2=>(Dg o i a S2).bind λ_ S3=>.ok τ S3
def Ae(U:X.A.units+64<cLine){co J:Ex}(ho:AE X o co)(hi:AE X i J)
  (ha:(∀v,assign (.Subscript o i pos) X.env v=(do
   let ov <- holding [v] (eval o X.env)
   let iv <- holding [v,ov] (eval i X.env)
   standAt pos
   holding [v,ov,iv] (setItem ov iv v)
   release [v,ov,iv] []))<|>θ):AG X (.Subscript o i pos) (Ga co J):=PG.imp (ID ho hi (V2 U) ha) λv σ H Q h9=>by
 obtain⟨ρ,S,τ,a,R,r,va,h⟩:=h9;kj_on;ksr_p;exact h3 ρ3 H3 σ ((e1.trans e2).trans e3) R3<|r.ext<|(e1.trans e2).trans e3
abbrev uK:Ex:=λ_ S=>.ok (.ref S.length)<|S++[.nX []]
def vE:AE X (.Dict [] [] pos) uK:=PE.imp P7 λσ H Q ⟨ρ,S,τ,R,r,h⟩ p d=>by
 obtain⟨ex,c,e⟩:=R.aby (xs:=[]) (vs:=[]) d trivial;exact h _ _ _ ex c<|.ref e
abbrev dk? (a:A)(S:jT):Option Unit:=match a with
 | .ref n=>(kQ S n).map λ_=>Unit.unit
 | _=>none
abbrev GP (f:A->ae->jT->R A)(co:Ex)(d:qQ):Ex:=λτ S=>(co τ S).bind λx S1=>opt (dk? x S1) λ_=>(d τ S1).bind λas S2=>f x as S2
def dk?_ty{K:au}{H:Hp}{x:A}{v:V}(R:Rel K ρ H S)(a:AV K ρ H x v)(e:dk? x S=some u):tyV K "dict" v H:=by
 cases a with
 | @ref p n h=>
  obtain⟨xs,d,_⟩:=aY.mp e;obtain⟨c,h1,_⟩:=R.nX h<|mK d;exact .inr<|.inr<|.inl ⟨rfl,.inl ⟨c,h1⟩⟩
 | _=>cases e
theorem Ea{e:aA}{id:String}{apos cpos:Pos}{f:A->ae->jT->R A}{co:Ex}{d:qQ}(slot:Slot "dict" name id)(hty:typeOf (.builtin id)=pure (.type "method_descriptor"))(hm:Ja X id<|rM X f)(ho:AE X o co)(ha:AL X (e::es) d)
  (U:attributeBase o name X.env (eval o X.env)=eval o X.env<|>η)
  (hfew:(((backTo cpos<|starEach (e::es) X.env).all (λx=>!x.1) && (backToKw cpos<|keywordEach [] X.env).all (λx=>x.1.isSome)
   && decide ((e::es).length+([]:List Keyword).length+(if ([]:List Keyword).isEmpty then 0 else 1)<30))=true)<|>η)
  (hline:(apos.endLine == cpos.line)=true<|>η) (hs:starEach (e::es) X.env=(false,eval e X.env)::starEach es X.env<|>η) (J:((backTo cpos<|starEach es X.env).any (·.1)=false)<|>η) :
  AE X (.Call (.Attribute o name apos) (e::es) [] cpos) (GP f co d):=PE.imp (Rf gW slot hty hm ho ha U hfew hline hs J) λσ H Q h9=>by
 room;kcj_m;obtain⟨xs,c,h1⟩:=jV h1;refine⟨dk?_ty R1 v1 c,ρ1,S1,τ,R1,r.ext e1,jW (j3 h1) e1 λas S2 h2 ρ2 H2 g e2 R2 v2=>?_⟩;kpc_g
abbrev wQ (o:A)(as:ae)(S:jT):R A:=match o,as with
 | .ref n,[.int k,y]=>opt (kQ S n) λc=>.ok ((l_ c k).getD y) S
 | _,_=>.no
def JD{x:A}{P:A->jT->Prop}{E:Str->jT->Prop}(h:(wQ x as S).post P E):∃n k y kvs,x=.ref n/\as=[.int k,y]/\kQ S n=some kvs/\P ((l_ kvs k).getD y) S:=by
 unfold wQ at h;split at h
 ·obtain⟨kvs,h1,h⟩:=jV h;exact⟨_,_,_,kvs,rfl,rfl,h1,h⟩
 ·exact h.elim
def Fl(U:X.A.units+64<cLine):Ja X "dict.get" (rM X wQ):=λpins s σ H x K v us Q I rx q h9=>by
 kl_no;obtain⟨n,k,y,c,C,has,hn,hP⟩:=JD h;subst C has;obtain⟨M,P,rfl,B,g⟩:=UJ va
 cases B
 cases vo with
 | @ref p _ f=>
  obtain⟨ks,h1,G⟩:=R.nX f (mK hn)
  cases rx
  obtain⟨O,L,rfl,r1,r2⟩:=vals2 q;refine IQ (by omega) I (t8.k (k:=Sum.inl k) h1) r1 r2 λN s' j e=>⟨_,H,j,e,hP _ _ _ .refl R ?_⟩;obtain⟨d,m⟩:=G.look k
  cases e1:l_ c k with
  | none=>
   rw[e1]at d
   cases e2:pY ks (Sum.inl k:Key)with
   | none=>exact g
   | some _=>rw[e2]at d;cases d
  | some F=>
   obtain⟨v1,e2,J⟩:=m F e1;rw[e2];exact J
end
end Am
namespace L2
open PySem PySem.Spec PyProof.Rows
section
variable {P:aj}{w:ah}{A:ay}{E:af->az->Prop}{s:az}{it d:ak}{i ep:Nat}{es:Array DictEntry}{o:Obj}
def SV{Q:bb->az->Prop}(hi:s.heap.IsKeyIter it d i es.size ep)(J:s.heap.get? d=some o)(U:o.data=.dict es ep)(lt:i<es.size)
  (q:∀h',h'.IsKeyIter it d (i+1) es.size ep->Heap.SameBut it s.heap h'->Q (some es[i].key) { s with heap:=h' }):wpAny (model P w) A (pyNext<|.ref it) Q E s:=by
 have ty:=hi.typeIs;obtain⟨p,e,g,c⟩:=id hi;have own:Builtin.Dict_items.ownsTuple "dict_keyiterator" = false:=by decide
 have k:¬((Value.ref d == Value.none)=true):=bJ;have m:¬((i:Int)<0):=by omega
 unfold pyNext;refine aH<|wpAny_attempt<|fM (name:=Str.ofString "__next__") ty c8<|eg c8 ty gI ?_<|gF _;refine aH (aV<|aH<|aH ?_)
 first
  | refine aH (eG ty<|aV<|aH<|jf e c ?_)
  | refine aH<|fH ty<|aV<|aH<|jf e c ?_
 dsimp[own,cG,bF];show wpAny (model P w) _ (if (Value.ref d == Value.none)=true then _ else _) _ _ s;rw[aI k];refine aH<|aV<|aH<|jm J U ?_;rw[aI<|show ¬_ by simp];refine aH<|aV<|aH<|wpAny_dictEpoch J U ?_;rw[aI<|show ¬_ by simp];refine aV ?_;dsimp[m,cG,eL,d9 lt];refine aH ?_
 first
  | refine aH (eG ty<|aV<|aH<|iE ty ?_)
  | refine aH<|fH ty<|aV<|aH<|iE ty ?_
 show wpAny (model P w) _ (setField (.ref it) 1 (rawInt<|(i:Int)+1) >>= _) _ _ s;refine aH (wpAny_setField e c (show _ by simp) ?_);have f:(s.heap.update it<|Obj.mapFields λfs=>fs.setIfInBounds 1<|rawInt<|(i:Int)+1).IsKeyIter it d (i+1) es.size ep:=
  ⟨_,Heap.get?_update_self _ e<|Obj.isFreed_of_fields<|Obj.data_mapFields c _,(Obj.cls_mapFields ..).trans g,by
   rw[Obj.data_mapFields c];simp[rawInt]⟩
 have j:Shared.TypeIs { s with heap:=s.heap.update it<|Obj.mapFields λfs=>fs.setIfInBounds 1<|rawInt<|(i:Int)+1} (.ref it) "dict_keyiterator" := Heap.IsKeyIter.typeIs (s:={ s with heap:=_ }) f;refine aH (dc<|aH<|iE j ?_)
 skip
 exact aV<|aV ⟨_,rfl,aV<|q _ f<|Heap.SameBut.update ..⟩
def Ls{Q:bb->az->Prop}(hh:A.handled=none)(hi:s.heap.IsKeyIter it d i es.size ep)(J:s.heap.get? d=some o)(U:o.data=.dict es ep)(ge:es.size<=i)
  (q:∀h',Heap.ExtBut it s.heap h'->Q none { s with heap:=h' }):wpAny (model P w) A (pyNext<|.ref it) Q E s:=by
 have ty:=hi.typeIs;obtain⟨k,e,g,c⟩:=id hi;have own:Builtin.Dict_items.ownsTuple "dict_keyiterator" = false:=by decide
 have f:¬((Value.ref d == Value.none)=true):=bJ;have j:¬((i:Int)<0):=by omega
 unfold pyNext;refine aH<|wpAny_attempt<|fM (name:=Str.ofString "__next__") ty c8<|eg c8 ty gI ?_<|gF _;refine aH (aV<|aH<|aH ?_)
 first
  | refine aH (eG ty<|aV<|aH<|jf e c ?_)
  | refine aH<|fH ty<|aV<|aH<|jf e c ?_
 dsimp[own,cG,bF];show wpAny (model P w) _ (if (Value.ref d == Value.none)=true then _ else _) _ _ s;rw[aI f];refine aH<|aV<|aH<|jm J U ?_;rw[aI<|show ¬_ by simp];refine aH<|aV<|aH<|wpAny_dictEpoch J U ?_;rw[aI<|show ¬_ by simp];refine aV ?_;dsimp[j,cG,eL,iz ge];refine aH ?_
 first
  | refine aH (eG ty<|aV ?_)
  | refine aH<|fH ty<|aV ?_
 show wpAny (model P w) _ (setField (.ref it) 0 .none >>= _) _ _ s;refine aH (wpAny_setField e c (show _ by simp) ?_)
 skip
 refine aH ?_;dsimp[newExc,newTuple];refine aH (cu (aH (m:=firstArgMember _ _)<|wpAny_of_eq (a:=Value.none) (by first|rfl|(dsimp[firstArgMember];rfl))<|cu ?_<|by size_fits)<|by size_fits);dsimp[raiseNew];have hn:A.in1.handled=none:=hh;refine aH<|wpAny_handled<|?_;rw[hn];refine aH<|aV<|wpAny_throw<|?_;refine aH<|wpAny_isInstance (b:=true) (T := "StopIteration") ⟨_,bC _ rfl,rfl⟩ isSubtype_stop<|aV<|q _<|((Heap.SameBut.update ..).extBut.push _).push _
def Cd{Q:af->az->Prop}(ty:s.TypeIs (.ref d) "dict")(hs:(d == sysModules)=false)(J:s.heap.get? d=some o)(U:o.data=.dict es ep)
  (q:Q (.ref s.heap.objs.size) { s with heap:=s.heap.push { cls:=.type "dict_keyiterator",data:=.fields #[.ref d,.int 0 0,.int es.size 0,.int ep 0]}}):wpAny (model P w) A (pyIter<|.ref d) Q E s:=by
 refine wpAny_pyIter_slot ty PySem.F.slot_dict_iter<|eg PySem.F.slot_dict_iter ty PySem.F.entry_dict_iter ?_<|PySem.F.args_dict_iter_1 _;delta Builtin.«dict.__iter__»;refine aH ?_;delta Builtin.Dict.dictSlotNone;refine aH (iF ty ?_)
 skip
 refine aV ?_;show wpAny (model P w) _ (Builtin.Dict.showsAll d >>= _) _ _ s;delta Builtin.Dict.showsAll;have nd:¬((d == sysModules)=true):=by rw[hs];exact bJ
 rw[aI nd];refine aH<|aV<|aH<|jm J U<|aH<|wpAny_dictEpoch J U ?_;refine aH<|cu<|aV ⟨_,rfl, "dict_keyiterator",_,⟨_,bC _ rfl,rfl⟩,c8.lookup,?_⟩;simpa[rawInt]using q
end
section
variable {P:aj}{w:ah}
def Oc{A:ay}(U:A.handled=none)(it d:ak)(ne:d≠it){es:Array DictEntry}{o:Obj}(J:o.data=.dict es ep) :
  Walks P w A it [it,d] [it] es.size (λi v=>(es[i]?).map (λe=>e.key)=some v) (λi h=>h.IsKeyIter it d i es.size ep/\h.get? d=some o) where
 sub:=λb j=>by
  rw[aP.mp j];exact aL ..
 frame:=λ_ _ _ st c=>⟨st.1.at λx e=>c it (aL ..) x e,c d (aN _<|aL ..) o st.2⟩
 item:=λi s Q E lt st q=>SV st.1 st.2 J lt λh' g f=>q _ h' s.toks (by rw[d9 lt];rfl) ⟨g,f.extBut d o ne st.2⟩ λb x nb e=>f.extBut b x (λz=>nb<|aP.mpr z) e
 done:=λs Q E st q=>Ls U st.1 st.2 J (aO _) λh' k=>q h' s.toks λb x nb e=>k b x (λz=>nb<|aP.mpr z) e
 self:=λ_ _ _ _ st q=>wpAny_pyIter_keyiter st.1 q
def Wr{d:ak}{es:Array DictEntry}{o:Obj}(hs:(d == sysModules)=false)(hc:o.cls=.type "dict")(J:o.data=.dict es ep) :
  PySem.W.KdlSrc P w "dict" d d es.size (λi v=>(es[i]?).map (λe=>e.key)=some v) (λh=>h.get? d=some o) where
 type:=λ_ c=>⟨o,c,hc⟩
 there:=λ_ c=>⟨bh c,bh c⟩
 keep:=λ_ _ c j=>j d (.inl rfl) o c
 notList:=by decide
 notTuple:=by decide
 hint:=λ_ _ _ _ c f=>PySem.W.kdl_hint_dict ⟨o,c,hc⟩ f
 iter:=λ_ s g c=>⟨_,_,(λ_ _ f=>Cd ⟨o,c,hc⟩ hs c J f),Oc g _ d (bw<|bh c) J,⟨⟨_,bC _ rfl,rfl,rfl⟩,aR _ c⟩⟩
end
section
variable {X:Cx}
def Z9{H:Hp}{s:az}{d:ak}{kvs:List<|List Key×V}(I:Inv X pins σ H s)(U:H d=some (.dT kvs)) :
  ∃(ob:Obj) (es:Array DictEntry) (ep:Nat) (rs:ba),s.heap.get? d=some ob/\ob.cls=.type "dict" /\ ob.data=.dict es ep/\(d == sysModules)=false/\kvs.length<=sizeLine/\rs.length=kvs.length/\es.size=kvs.length /\
   (∀i:Nat,(es[i]?).map (λe:DictEntry=>e.key)=(rs[i]?).map Value.ref)/\∀(i:Nat) r p,rs[i]?=some r->kvs[i]?=some p->H r=some (.tup<|p.1.map kV):=by
 obtain⟨z,m,xs,f,q⟩:=Qo I.hok U;obtain⟨ob,es,ep,C,F,k,g,J,G⟩:=id q;obtain⟨j,B⟩:=kt_at f;have c:es.size=xs.length:=by have:=dY List.length g;simpa using this
 refine⟨ob,es,ep,xs.map λy=>y.2.1,C,F.1,k,m,z,by rw[aG,j],by rw[c,j],λi=>?_,λi r p e1 e2=>?_⟩
 ·rw[<- dJ,g,aQ,aQ,eX,eX]
  cases xs[i]?<;>rfl
 ·obtain⟨y,h1,h2,h3,K⟩:=B i p e2;rw[aQ,h1]at e1
  cases e1
  exact h3
def Eb(hc:X.calm=true):kJ X (.builtin "sorted") (λxs H Q=>∃(d:ak) (kvs:List<|List Key×V) (kss:List<|ag),xs=[.ref d]/\H d=some (.dT kvs)/\kvs.map (λp=>p.1)=kss.map (λks=>ks.map Sum.inl)/\(∀ks∈kss,ks≠[])/\Sx.RO kss.length /\
  ∀(rs:ba) l g,rs.length=kss.length->(∀(i:Nat) (r:ak) (ks:ag),rs[i]?=some r->kss[i]?=some ks->H r=some (.tup<|ks.map V.int))->H l=none->Sx.Cl g 0 kss.length->Sx.So (Sx.NH kss) g 0 kss.length ->
   Q (.ref l) (upd H l<|.lst<|((List.range kss.length).map λi=>rs.getD (g i) 0).map V.ref)):=by
 x_go;obtain⟨d,kvs,kss,rfl,ed,F,B,K,q⟩:=h;kcf_m
 cases rx
 obtain⟨ob,es,ep,rs,Y,Z,J,L,G,k,U,P,M⟩:=Z9 I ed;have f:kvs.length=kss.length:=by have:=dY List.length F;simpa using this
 have C:∀(i:Nat) (r:ak) (ks:ag),rs[i]?=some r->kss[i]?=some ks->H r=some (.tup<|ks.map V.int):=λi r ks e1 e2=>by
  have lt:i<kvs.length:=by rw[f];exact(aF.mp e2).1
  have h1:=M i r kvs[i] e1 (aE lt);have h2:(kvs.map λp=>p.1)[i]?=(kss.map λks=>ks.map Sum.inl)[i]?:=by rw[F]
  rw[aQ,aQ,e2,aE lt]at h2;have h3:kvs[i].1=ks.map Sum.inl:=bz h2;rw[h3,bB]at h1;exact h1
 kln_w;unfold Builtin.«sorted»;refine aH (m:=checkCount "sorted" 1 1 _)<|aV ?_;refine aH (PySem.W.kdu_collect (Wr L Z J) (show X.A.in1.handled=none from I.ok.hd hc) Y (by rw[U];exact G) λh' T acc N c=>?_);have O:acc.toList=rs.map Value.ref:=by
  refine dm λj=>?_;rw[dJ,aQ,<- P j]
  cases e:acc[j]? with
  | some v=>exact(c.2 j v e).symm
  | none=>
   have:acc.size<=j:=Array.getElem?_eq_none_iff.mp e;rw[iz<|by rw[<- c.1];exact this];rfl
 rw[O];exact Du (s:=s) (I.kept (t':=T) N) K (by rw[k,f]) (by rw[k];exact G) (λi r ks e1 e2=>⟨n_.of<|C i r ks e1 e2,B ks<|aX e2⟩) λl g h1 h2 h3=>q rs l g (by rw[k,f]) C h1 h2 h3
end
section
variable {P:aj}{w:ah}{A:ay}{E:af->az->Prop}{s:az}
def NB:typeLookup (.type "list") "keys" = pure none:=am_miss_of_fast<|by kernel_rfl
def CL{a:ak}{o:Obj}{k:Nat}{Q:bb->az->Prop}(hx:s.heap.get? a=some o)(hc:o.cls=.type "list")(U:o.data=.seq xs k)(hd:o.dict=none)(hA:A.handled=none)
  (h:∀h' tk,(∀b ob,s.heap.get? b=some ob->h'.get? b=some ob)->Q none { s with heap:=h',toks:=tk }):wpAny (model P w) A (getAttr? (.ref a) "keys") Q E s:=by
 obtain⟨c,dct,B,C⟩:=o;simp only at hc U hd;subst hc U hd;obtain⟨q,g,d,tk,p⟩:=s;have m:∀j,(⟨q,g,d,j,p⟩:az).TypeIs (.ref a) "list" := λ_=>⟨_,hx,rfl⟩;have f1:=sub_AttributeError;have f3:=gJ.lookup;have f4:=gJ.bind<|.ref a;have f5:=am_list_getattr_none;unfold getAttr? getAttrBy? getAttrBy
 repeat (any_goals (first|assumption|exact m _|((with_reducible show wpAny _ _ (call (Value.builtin "list.__getattribute__") _ _) _ _ _);refine gO gJ (m _) am_entry_list_getattribute (F.args_list_getattribute_2 _ _) (meets_getattribute_miss_list a xs k C "keys" _ NB ⋯ (by size_fits)) ⟨hx,hA,λh' j e f=>?_⟩)|wp_step))
 obtain⟨K,J,G⟩:=f.there
 skip
 unfold getattributeRaised
 repeat (any_goals (first|assumption|wp_step))
 exact h _ _ f.keeps
def wG:entryFor table "dict.update.loop" = some Builtin.«dict.update.loop»:=entryFor_of_tree<|by kernel_rfl
def o6:plainId "dict.update.loop" = true:=by decide +kernel
abbrev Qn (h:aq)(d I:ak)(its:ax)(ps:List<|Int×af):Prop:=∀(i:Nat) (v:af),its[i]?=some v->∃(b:ak) (p:Int×af) (t:Tok),v=.ref b/\b≠d/\b≠I/\ps[i]?=some p/\IsTup h b #[.int p.1 t,p.2]
def Qn.mono{h h':aq}{d:ak}(x:Qn h d I its ps)(k:∀b o,b≠d->b≠I->h.get? b=some o->h'.get? b=some o):Qn h' d I its ps:=λi v hv=>by
 obtain⟨b,p,t,h1,h2,h3,e,o,c,f⟩:=x i v hv;exact⟨b,p,t,h1,h2,h3,e,o,k b o h2 h3 c,f⟩
abbrev stP (ps:List<|Int×af):List (Key×af):=ps.foldl (λacc p=>stored acc (Sum.inl p.1) p.2) []
def O_(ps:List<|Int×af)(i:Nat)(p:Int×af)(h:ps[i]?=some p):stP (ps.take<|i+1)=stored (stP<|ps.take i) (Sum.inl p.1) p.2:=by
 unfold stP;rw[cL,h,dw];rfl
theorem M7:∀(ps:List<|Int×af) (acc:List<|Key×af),(ps.foldl (λacc p=>stored acc (Sum.inl p.1) p.2) acc).length<=acc.length+ps.length
 | [],acc=>aO _
 | p::ps,acc=>by
  have:=M7 ps<|stored acc (Sum.inl p.1) p.2;have h:(stored acc (Sum.inl p.1) p.2).length<=acc.length+1:=by
   unfold stored;split
   ·rw[aG];lia
   ·rw[bg];exact aO _
  rw[cW,bA]
  lia
def Ue{R:Result->az->Prop}{I l d:ak}{St:Nat->aq->Prop}{its:ax}{ps:List<|Int×af}(W:Walks P w A.in1 I [I,l] [I] its.length (λi v=>its[i]?=some v) St)(hdI:d≠I)(hdl:d≠l)(hl:ps.length=its.length)(hz:ps.length<=sizeLine) :
  ∀(k i:Nat) (s:az),its.length-i=k->i<=its.length->St i s.heap->s.heap.DictOf (kN P w) d (stP<|ps.take i)->Qn s.heap d I its ps ->
   (∀h' tk,h'.DictOf (kN P w) d (stP ps)->(∀b o,b≠d->b≠I->s.heap.get? b=some o->h'.get? b=some o)->R (.ok<|.ret .none) { s with heap:=h',toks:=tk }) ->
   codeAny (model P w) A (.builtin "dict.update.loop" ⟨[.ref d,.ref I,rawInt i,.none],[]⟩) R s:=by
 intro k
 induction k with
 | zero=>
  intro i s hk hi g G hP V;have O:i=its.length:=()
  subst O;refine f6 wG ?_;rw[eB o6 _]
  skip
  refine aH (W.done s _ _ g λh' tk j=>?_)
  skip
  refine aH (aV<|aV<|V h' tk ?_ λb o _ h2 e=>j b o (by simpa using h2) e);rw[<- hl,cH]at G;obtain⟨o,es,ep,m,rest⟩:=G;exact⟨o,es,ep,j d o (by simpa using hdI) m,rest⟩
 | succ k ih=>
  intro i s hk hi g G hP V;have F:i<its.length:=()
  refine f6 wG ?_;rw[eB o6 _]
  skip
  refine aH<|W.item i s _ _ F g λv h' tk hv B j=>?_;have T:Qn h' d I its ps:=hP.mono λb o h1 h2 e=>j b o (by simpa using h2) e;obtain⟨b,p,t,rfl,hbd,hbI,hp,o,m,hc,n,hd⟩:=T i v hv;have L:h'.DictOf (kN P w) d (stP<|ps.take i):=by
   obtain⟨o,es,ep,m,rest⟩:=G;exact⟨o,es,ep,j d o (by simpa using hdI) m,rest⟩
  have hT:Shared.TypeIs { s with heap:=h',toks:=tk } (.ref b) "tuple" := ⟨o,m,hc⟩;have f:∀(A:ay) (E:af->az->Prop) (Q:ax->az->Prop),Q [.int p.1 t,p.2] { s with heap:=h',toks:=tk }->wpAny (model P w) A (Builtin.Dict.pairItems<|.ref b) Q E { s with heap:=h',toks:=tk }:=λA E Q q=>by
   unfold Builtin.Dict.pairItems;refine aH<|fS hT ?_;rw[aJ ⋯];refine aH<|wpAny_seqItems m hd<|aV q
  have C:(stP<|ps.take i).length<=sizeLine:=by
   refine bD (M7 (ps.take i) []) ?_;rw[bI,cX]
   lia
  refine aH (dc<|aH<|wpAny_tryCatch<|f _ _ _ ?_)
  skip
  refine dc (wpAny_dictSet_pairs (hsz:=C) (knd:=kN P w) (k:=Sum.inl p.1) (s:={ s with heap:=h',toks:=tk }) (show Value.isInt p.1 (.int p.1 t)=true by simp[Value.isInt]) L λh2 U hs=>?_);refine aV ⟨iP o6 _,?_⟩;have c:∀b o,b≠d->b≠I->s.heap.get? b=some o->h2.get? b=some o:=λb o h3 J e=>by rw[hs.2 b h3];exact j b o (by simpa using J) e
  refine ih (i+1) _ () F (W.frame _ _ _ B λb hb o e=>?_) (by rw[O_ ps i p hp];exact U) (hP.mono c) λh3 K M N=>V h3 K M λb o J Z e=>N b o J Z<|c b o J Z e;have Y:b≠d:=by
   intro z;subst z
   rcases bG.mp hb with z|z
   ·exact hdI z
   ·exact hdl<|by simpa using z
  skip
  rw[hs.2 b Y];exact e
theorem Dl{H:Hp}{X:Cx}(I:Inv X pins σ H s):∀(rs:ba) (ps:List<|Int×V),rs.length=ps.length->(∀(i:Nat) (r:ak) (q:Int×V),rs[i]?=some r->ps[i]?=some q->n_ X.K H r [.int q.1,q.2]) ->
  ∃qs:List<|Int×af,KV ps qs/\∀(i:Nat) (r:ak),rs[i]?=some r->∃q t,qs[i]?=some q/\IsTup s.heap r #[.int q.1 t,q.2]
 | [],[],_,_=>⟨[],.nil,λi r h=>by simp at h⟩
 | [],_::_,h,_=>nomatch h
 | _::_,[],h,_=>nomatch h
 | r::rs,p::ps,hl,hh=>by
  obtain⟨qs,h1,h2⟩:=Dl I rs ps (by simpa using hl) λi r q e1 e2=>hh (i+1) r q (by simpa using e1) (by simpa using e2);obtain⟨its,f,d,_⟩:=I.tuple<|hh 0 r p rfl rfl;obtain⟨j,c,rfl,r1,r2⟩:=vals2 f;obtain⟨t,rfl⟩:∃t,j=Value.int p.1 t:=r1;refine⟨(p.1,c)::qs,.cons ⟨rfl,r2⟩ h1,λi g e=>?_⟩
  cases i with
  | zero=>cases e;exact⟨(p.1,c),t,rfl,d⟩
  | succ i=>exact h2 i g<|by simpa using e
abbrev ptP (ps:List<|Int×V):List (Key×V):=ps.foldl (λacc p=>putK acc (Sum.inl p.1) p.2) []
def abL:∀{ps:List<|Int×V}{qs:List<|Int×af},KV ps qs->∀{as:List<|Key×V}{bs:List<|Key×af},KV as bs->KV (ps.foldl (λacc p=>putK acc (Sum.inl p.1) p.2) as) (qs.foldl (λacc p=>stored acc (Sum.inl p.1) p.2) bs):=by
 intro ps qs h;unfold KV at h
 induction h with
 | nil=>exact λh=>h
 | @cons p q ps qs h t c=>
  intro as bs h2;rw[cW,cW];obtain⟨e,r⟩:=h;rw[e];exact c<|h2.put _ r
theorem MK:∀(ps:List<|Int×V) (acc:List<|Key×V),(ps.foldl (λacc p=>putK acc (Sum.inl p.1) p.2) acc).length<=acc.length+ps.length
 | [],acc=>aO _
 | p::ps,acc=>by
  have:=MK ps<|putK acc (Sum.inl p.1) p.2;have:=qo acc (Sum.inl p.1) p.2;rw[cW,bA]
  lia
end
section
variable {X:Cx}
def Js(hc:X.calm=true):kJ X (.type "dict") (λxs H Q=>∃(p:ak) (rs:ba) (ps:List<|Int×V),xs=[.ref p]/\qt X.K H p (rs.map V.ref)/\rs.length=ps.length /\
  (∀(i:Nat) (r:ak) (q:Int×V),rs[i]?=some r->ps[i]?=some q->n_ X.K H r [.int q.1,q.2])/\∀l,H l=none->Q (.ref l) (upd H l<|.dK<|ptP ps)):=by
 x_go;obtain⟨p,rs,ps,rfl,hq,B,Z,q⟩:=h;kcf_m
 cases rx
 obtain⟨its,rv,pl,hz⟩:=I.list hq;have ei:=wu rv;subst ei;rw[aG]at hz;obtain⟨M,kv,U⟩:=Dl I rs ps B Z;have ql:ps.length=M.length:=kv.length;obtain⟨o,n,P,j,L,hd⟩:=pl;have lp:p<s.heap.objs.size:=bh P;refine callType_codes (Q₁:=λm g=>m=.ref s.heap.objs.size/\g={ s with heap:=s.heap.push { cls:=.type "dict",data:=.dict #[]}}) F.kt_called_dict (F.kt_typeCall_dict_1 _) F.entry_dict_init (kt_code_dict_new _ ⟨rfl,rfl⟩) ?_;rintro m g ⟨rfl,rfl⟩;have c:(s.heap.push { cls:=.type "dict",data:=.dict #[]}).DictOf (kN X.prog X.w) s.heap.objs.size []:=Heap.DictOf.new s.heap;have f:(s.heap.push { cls:=.type "dict",data:=.dict #[]}).get? p=some o:=aR _ P;have J:Shared.TypeIs { s with heap:=s.heap.push { cls:=.type "dict",data:=.dict #[]}} (.ref p) "list" := ⟨o,f,j⟩;refine⟨c.typeIs,F.args_dict_init_2 _ _,?_⟩;unfold Builtin.«dict.__init__»;refine aH ?_;unfold Builtin.Dict.selfAndRest;refine aH (iF c.typeIs ?_)
 skip
 refine aV ?_;show wpAny _ _ (Builtin.Dict.updateFrom "dict.__init__" s.heap.objs.size (.ref p) [] .none) _ _ _;unfold Builtin.Dict.updateFrom;refine aH<|fS J ?_;rw[aJ ⋯];refine aH<|CL f j hd L (show X.A.in1.in1.handled=none from I.ok.hd hc) λh' tk k=>?_;rw[aJ<|by rfl];refine aH<|gr ?_;have C:h'.IsList p (rs.map Value.ref).toArray:=⟨o,k p o f,j,n,hd⟩;refine aH<|gY (s:={ s with heap:=h',toks:=tk }) C ?_;refine aV ⟨iP o6 _,?_⟩;have sz:s.heap.objs.size<h'.objs.size:=bh<|k _ _<|bC _ rfl;have W:Walks X.prog X.w X.A.in1.in1 h'.objs.size [h'.objs.size,p] [h'.objs.size] (rs.map Value.ref).length (λi v=>(rs.map Value.ref)[i]?=some v) (λi h=>h.IsListIter h'.objs.size p i/\h.IsList p (rs.map Value.ref).toArray):=by
  have W:=Walks.list (prog:=X.prog) (w:=X.w) (A:=X.A.in1.in1) (I.ok.hd hc) h'.objs.size p (bw<|bh<|k p o f) (rs.map Value.ref).toArray;rw[aZ]at W;dsimp[d_]at W;exact W
 refine Ue (d:=s.heap.objs.size) (its:=rs.map Value.ref) (ps:=M) W (bw sz) (di<|bw lp) (by rw[aG];lia) () (rs.map Value.ref).length 0 _ () (bL _)
  ⟨⟨_,bC _ rfl,rfl,rfl⟩,C.push _⟩ ?_ (λi v hv=>?_) λh2 G hD hs=>⟨rfl,.ref s.heap.objs.size,_,I.laid (t':=G) (o:=.dK<|ptP ps) (λb ob N=>?_) (aO _) ?_,rfl,q _<|I.hok.fresh<|aO _⟩
 ·obtain⟨o,es,ep,e,rest⟩:=c;exact⟨o,es,ep,aR _<|k _ _ e,rest⟩
 ·rw[aQ]at hv;obtain⟨r,hr,rfl⟩:=aY.mp hv;obtain⟨q,t,h1,Y,h2,h3⟩:=U i r hr;have T:=bh h2;exact⟨r,q,t,rfl,bw T,bw<|ie T sz,h1,Y,aR _<|k _ _<|aR _ h2,h3⟩
 ·have O:=bh N;exact hs b ob (bw O) (bw<|ie O sz) (aR _<|k _ _<|aR _ N)
 ·refine JV (bD (MK ps [])<|by rw[cX];lia) ?_ (abL kv .nil) hD;exact cT.mpr<|di<|bw I.big
abbrev Wq (ns:ag):Sx.Ord where
 lt i j:=decide (ns.getD i 0<ns.getD j 0)
 UB i:=bq (by omega)
 tr i j k h1 h2:=a_ (by have:=bP h1;have:=bP h2;omega)
 neg i j k h:=by
  have:=bP h;by_cases c:ns.getD i 0<ns.getD j 0
  ·exact .inl (a_ c)
  ·exact .inr<|a_<|by omega
theorem KH:∀{vs:ax}{ns:ag},IntsAre vs ns->vs.length=ns.length/\∀i,i<vs.length->∃t,vs.getD i .none=.int (ns.getD i 0) t
 | _,_,.nil=>⟨rfl,λi h=>absurd h<|d8 _⟩
 | _,_,.cons n t h=>by
  obtain⟨h1,h2⟩:=KH h;refine⟨dY (·+1) h1,λi hi=>?_⟩
  cases i with
  | zero=>exact⟨t,rfl⟩
  | succ i=>exact h2 i<|by simpa using hi
theorem Ca{f:Nat->Int}{h:Nat->af}:∀(l:am),(∀i∈l,∃t,h i=.int (f i) t)->Vals (l.map λi=>V.int<|f i) (l.map h)
 | [],_=>.nil
 | i::l,e=>.cons (e i<|aL ..)<|Ca l λj c=>e j<|aN _ c
def Ih{s:az}{H:Hp}{Q:VK}{h':aq}{tk:Nat}{vs:ax}{ns:ag}(J:Inv X pins σ H { s with heap:=h',toks:=tk })(U:Sx.RO ns.length)(hi:IntsAre vs ns)(hz:vs.length<=sizeLine)
  (q:∀l g,H l=none->Sx.Cl g 0 ns.length->Sx.So (Wq ns) g 0 ns.length->Q (.ref l) (upd H l<|.lst<|(List.range ns.length).map λi=>V.int<|ns.getD (g i) 0)) :
  wpAny (model X.prog X.w) X.A.in1 (do
   let l <- newList vs
   let _ <- holding [l] (call (Value.builtin "list.sort") [l] [])
   ret l) (λfin s'=>∃v,fin=Fin.done (Flow.ret v)/\EP X pins σ Q v s') X.xe { s with heap:=h',toks:=tk }:=by
 obtain⟨B,d⟩:=KH hi;refine aH<|jv ?_;have c:(h'.push<|seqObj "list" vs.toArray 0).get? h'.objs.size=some (seqObj "list" vs.toArray 0):=bC _ rfl
 skip
 refine aH (dc<|eg slot_list_sort ⟨_,c,rfl⟩ entry_list_sort (Sx.CK (o:=Wq ns) (kd:=oneType') c hz (by rw[B];exact U) (λh2 Q' k=>?_) (λh2 i j p C G Q' k=>?_) λg hc hs=>⟨_,rfl,?_⟩)<|args_list_sort _)
 ·obtain⟨a,b,r,rfl⟩:∃a b r,vs=a::b::r:=by
   cases vs with
   | nil=>simp at h2
   | cons a vs=>cases vs with
    | nil=>simp at h2
    | cons b r=>exact⟨a,b,r,rfl⟩
  exact wpAny_of_eq (keyKind_ints hi) k
 ·obtain⟨t,e1⟩:=d i p;obtain⟨u,e2⟩:=d j C;show wpAny _ _ (keyLt' oneType' (vs.getD i .none)<|vs.getD j .none) Q' G _;rw[e1,e2,keyLt'_oneType];exact Sx.M1 true k
 ·rw[B]at hc hs ⊢;obtain⟨e,F⟩:=sortedHeap_at (out:=((List.range ns.length).map λi=>vs.getD (g i) .none).toArray) c;have old:∀b f,h'.get? b=some f->(sortedHeap (h'.push<|seqObj "list" vs.toArray 0) h'.objs.size vs ((List.range ns.length).map λi=>vs.getD (g i) .none).toArray).get? b=some f:=λb f m=>by
   rw[sortedHeap_old (bw<|bh m)<|by rw[h_];exact fu<|bh m];exact aR _ m
  refine aV ⟨_,rfl,.ref h'.objs.size,_,J.laid (t':=tk) (o:=.lst<|(List.range ns.length).map λi=>V.int<|ns.getD (g i) 0) old (aO _) ?_,rfl,q _ g (J.hok.fresh<|aO _) hc hs⟩;refine⟨by rw[aG,cJ];omega,(List.range ns.length).map λi=>vs.getD (g i) .none,e,Ca _ λi hi=>d _ (by have:=(hc i (bL _)<|cY.mp hi).2;omega),F⟩
def NV{P:aj}{w:ah}{vs:List<|Key×af}:∀{acc:ax}{ns:ag},vs.map (·.1)=ns.map Sum.inl->acc.length=vs.length->(∀(j:Nat) v,acc[j]?=some v->∃k x,vs[j]?=some (k,x)/\(kN P w).is k v=true)->IntsAre acc ns:=by
 intro acc ns c d h
 induction acc generalizing vs ns with
 | nil=>cases vs with
  | nil=>cases ns with
   | nil=>exact .nil
   | cons=>cases c
  | cons=>cases d
 | cons a acc g=>cases vs with
  | nil=>cases d
  | cons v vs=>cases ns with
   | nil=>cases c
   | cons n ns=>
    rw[bH,bH,List.cons.injEq]at c;obtain⟨k,x,e1,e2⟩:=h 0 a rfl
    cases e1
    obtain⟨e3,f⟩:=c;have e3:k=Sum.inl n:=e3;subst e3;obtain⟨t,rfl⟩:=Value.isInt_shape (k:=n) (v:=a) e2;exact .cons n t<|g f (by simpa using d) λj v e=>h (j+1) v<|by simpa using e
def DO(hc:X.calm=true):kJ X (.builtin "sorted") (λxs H Q=>∃(d:ak) (kvs:List<|Key×V) (ns:ag),xs=[.ref d]/\H d=some (.dK kvs)/\kvs.map (λp=>p.1)=ns.map Sum.inl/\Sx.RO ns.length /\
  ∀l g,H l=none->Sx.Cl g 0 ns.length->Sx.So (Wq ns) g 0 ns.length->Q (.ref l) (upd H l<|.lst<|(List.range ns.length).map λi=>V.int<|ns.getD (g i) 0)):=by
 x_go;obtain⟨d,kvs,ns,rfl,G,F,K,q⟩:=h;kcf_m
 cases rx
 obtain⟨z,hd,k,f,C⟩:=Ky I.hok G;obtain⟨ep,B⟩:=C.dictAt;have J:kvs.length=k.length:=f.length;have L:k.map (·.1)=kvs.map (·.1):=by
  clear F z C B J G;unfold KV at f
  induction f with
  | nil=>rfl
  | cons h _ O=>rw[bH,bH,O,h.1]
 kln_w;unfold Builtin.«sorted»;refine aH (m:=checkCount "sorted" 1 1 _)<|aV ?_;refine aH<|PySem.W.kdu_collect (PySem.W.kdl_dict hd) (show X.A.in1.handled=none from I.ok.hd hc) B () λh' N acc M c=>?_;have al:acc.toList.length=k.length:=by rw[dI];exact c.1
 exact Ih (s:=s) (I.kept (t':=N) M) K (NV (P:=X.prog) (w:=X.w) (L.trans F) al λj v e=>c.2 j v<|by rw[dJ]at e;exact e) () q
end
end L2
namespace Am
open PySem PySem.Spec PyProof.Rows L2
abbrev VY:ae->Option (List<|Int×A)
 | []=>some []
 | .tup [.int k,x]::r=>(VY r).map λps=>(k,x)::ps
 | _=>none
abbrev Wn (ps:List<|Int×A):List (Int×A):=ps.foldl (λacc p=>sZ acc p.1 p.2) []
section
variable {K:au}{ρ:ba}{H:Hp}
def Ly{x:A}(r:AVs K ρ H [x,y] vs):∃v w,vs=[v,w]/\AV K ρ H x v/\AV K ρ H y w:=by
 cases r with
 | cons h t=>cases t with
  | cons h' c=>cases c;exact⟨_,_,rfl,h,h'⟩
def Q5{x:A}(e:VY (x::xs)=some ps):∃k y ps',x=.tup [.int k,y]/\VY xs=some ps'/\ps=(k,y)::ps':=by
 unfold VY at e;split at e
 ·rename_i e2;cases e2
 ·rename_i k y r e2
  cases e2
  obtain⟨ps',h1,h2⟩:=aY.mp e;exact⟨_,_,_,rfl,h1,h2.symm⟩
 ·cases e
def abr:∀{xs:ae}{vs:List V}{ps:List<|Int×A},AVs K ρ H xs vs->VY xs=some ps ->
  ∃(rs:ba) (qs:List<|Int×V),vs=rs.map V.ref/\rs.length=qs.length/\(∀(i:Nat) (r:ak) (q:Int×V),rs[i]?=some r->qs[i]?=some q->n_ K H r [.int q.1,q.2]) /\
   ∀as bs,DI K ρ H as bs->DI K ρ H (ps.foldl (λacc p=>sZ acc p.1 p.2) as) (qs.foldl (λacc p=>putK acc (Sum.inl p.1) p.2) bs):=by
 intro xs
 induction xs with
 | nil=>intro vs ps r e;cases r;cases e;exact⟨[],[],rfl,rfl,λi r q h=>by simp at h,λas bs h=>h⟩
 | cons x xs j=>
  intro vs ps r e;obtain⟨k,y,g,rfl,e1,rfl⟩:=Q5 e
  cases r with
  | cons h t=>
   obtain⟨rs,qs,rfl,f,c,m⟩:=j t e1
   cases h with
   | @tup a _ us h r=>
    obtain⟨v,w,rfl,h1,h2⟩:=Ly r
    cases h1
    refine⟨a::rs,(k,w)::qs,rfl,by rw[bA,bA,f],λi r q e1 e2=>?_,λas bs d=>m _ _<|d.put h2 k⟩
    cases i with
    | zero=>cases e1;cases e2;exact n_.of h
    | succ i=>exact c i r q (by simpa using e1)<|by simpa using e2
end
section
variable {X:Cx}
abbrev EG (x:A)(S:jT):R A:=match x with
 | .ref n=>opt (jU S n) λxs=>opt (VY xs) λps=>.ok (.ref S.length) (S++[.nX<|Wn ps])
 | _=>.no
def Mn(hc:X.calm=true):kJ X (.type "dict") (rN X<|f1 EG):=kJ.imp (Js hc) λvs H Q h0=>by
 kt_k;clear h0
 cases hv with
 | ref k=>
  rename_i p n;gn_on;obtain⟨ps,g,h⟩:=jV h;obtain⟨us,h1,r⟩:=R.lst k<|kc hn;obtain⟨j,e,rfl,d,m,q⟩:=abr r g;refine⟨p,j,e,rfl,qt.of h1,d,m,λl c=>?_⟩;obtain⟨ex,f,d⟩:=R.aby (xs:=Wn ps) (vs:=ptP e) c<|q [] [] trivial;exact h _ _ _ ex f<|.ref d
 | _=>exact h.elim
abbrev BW (x:A)(S:jT):R A:=match x with
 | .ref n=>opt (kQ S n) λc=>.ok (.ref S.length) (S++[.lst<|(sortI<|c.map Prod.fst).map .int])
 | _=>.no
def WX{ns:ag}{g:Nat->Nat}(c:Sx.Cl g 0 ns.length)(J:Sx.So (Wq ns) g 0 ns.length):(List.range ns.length).map (λi=>ns.getD (g i) 0)=sortI ns:=by
 refine Ml ?_ ?_ (yd ns)
 ·refine List.Perm.trans ?_ (sortI_perm ns).symm;have p:=wX (N:=ns.length) (g:=g) (λi hi=>(c i (bL _) hi).2) λi j d e z=>by
   have:=J i j (bL _) d e;rw[z]at this;exact this.UB
  have:=p.map λi=>ns.getD i 0;rw[bB,range_getD]at this;exact this
 ·rw[dG];intro i j hi e d;rw[aG,cJ]at hi e;rw[dD,dD,eW,eW];have:=dQ (J i j (bL _) d e).ge
  lia
def WI(hc:X.calm=true):kJ X (.builtin "sorted") (rN X<|f1 BW):=kJ.imp (DO hc) λm H Q h0=>by
 kt_k;clear h0
 cases hv with
 | ref f=>
  rename_i p n;obtain⟨c,hn,h⟩:=jV h;obtain⟨ks,k,j⟩:=R.nX f<|mK hn;refine⟨p,ks,c.map Prod.fst,rfl,k,by rw[j.keys,bB];rfl,Sx.J3 _,λl g d hc hs=>?_⟩;have e:AVs X.K ρ H ((sortI<|c.map Prod.fst).map .int) ((List.range (c.map Prod.fst).length).map λi=>V.int<|(c.map Prod.fst).getD (g i) 0):=by
   rw[<- WX hc hs,bB];exact Eo λi _=>.int _
  exact nB R e .refl h l d
 | _=>exact h.elim
@[irreducible] noncomputable def big:Nat:=2 ^ 4096
theorem An:big=2 ^ 4096:=by unfold big;rfl
def F0{i:Int}(h:i.natAbs<big):Builtin.Int.intBits i<=2 ^ 20:=by
 rw[An]at h;exact bD (intBits_le h) ⋯
abbrev GY (a b:A)(S:jT):R A:=match a,b with
 | .int i,.int j=>gd (i.natAbs<big/\j.natAbs<big) (.ok (.int<|i * j) S)
 | _,_=>.no
def QI:pR X (binaryOp .Mult) (r2 X GY):=λpins s σ H x y v u Q I rx ry h9=>by
 z_go
 cases va with
 | int i=>cases vb with
  | int j=>
   obtain⟨⟨h1,h2⟩,h⟩:=ko h;obtain⟨t,rfl⟩:∃t,v=Value.int i t:=rx;obtain⟨c,rfl⟩:∃t,u=Value.int j t:=ry;exact mul_int ⟨.int _,H,I.tok _,⟨_,rfl⟩,h _ _ _ .refl R<|.int _⟩<|IntMulOk.of_bits (F0 h1)<|F0 h2
  | _=>exact h.elim
 | _=>exact h.elim
end
def DR:bootBuiltins "dict" = some (.type "dict"):=by decide +kernel
abbrev kA (p:Int×Int):A:=.ktu [.int p.1,.int p.2]
abbrev RH (K:au):af->Option (Int×Int)
 | .ref b=>match K.lookup b with
  | some ⟨.type "tuple",none,.seq its _,_⟩=>match its.toList with
   | [.int i _,.int j _]=>some (i,j)
   | _=>none
  | _=>none
 | _=>none
abbrev IP (K:au):ax->Option (List<|Int×Int)
 | []=>some []
 | v::vs=>(RH K v).bind λp=>(IP K vs).map λps=>p::ps
abbrev klP (K:au)(a:ak):Option (List<|Int×Int):=match K.lookup a with
 | some ⟨.type "list",none,.seq its _,_⟩=>if its.size<=sizeLine then IP K its.toList else none
 | _=>none
def Qv{K:au}{v:af}{p:Int×Int}(h:RH K v=some p):∃b,v=.ref b/\KTp K b [.int p.1,.int p.2]:=by
 unfold RH at h;split at h
 ·rename_i b;refine⟨b,rfl,?_⟩;split at h
  ·rename_i its n c e;split at h
   ·rename_i i t j u e2
    cases h
    refine⟨_,its,n,e,rfl,rfl,rfl,?_,?_⟩
    ·rw[<- dI,e2];show 2<=sizeLine;decide
    ·rw[e2];exact .cons ⟨t,rfl⟩<|.cons ⟨u,rfl⟩ .nil
   ·cases h
  ·cases h
 ·cases h
def N9{K:au}{H:Hp}:∀{vs:ax}{ps:List<|Int×Int},IP K vs=some ps->∃us:List V,Vals us vs/\AVs K ρ H (ps.map kA) us:=by
 intro vs
 induction vs with
 | nil=>intro ps h;cases h;exact⟨[],.nil,.nil⟩
 | cons v vs d=>
  intro ps h;obtain⟨p,h1,h⟩:=dX.mp h;obtain⟨f,h2,rfl⟩:=aY.mp h;obtain⟨us,h3,c⟩:=d h2;obtain⟨b,rfl,e⟩:=Qv h1;exact⟨.ref b::us,.cons rfl h3,.cons (.ktu e<|.cons (.int _)<|.cons (.int _) .nil) c⟩
def ZW{K:au}{H:Hp}{a:ak}{ps:List<|Int×Int}(h:klP K a=some ps):AV K ρ H (.frz<|ps.map kA) (.ref a):=by
 unfold klP at h;split at h
 ·rename_i its n d e;split at h
  ·rename_i c;obtain⟨us,h1,h2⟩:=N9 (ρ:=ρ) (H:=H) h;exact .frz (.inr ⟨_,its,n,e,rfl,rfl,rfl,c,h1⟩) h2
  ·cases h
 ·cases h
def T7{X:Cx}{x:Str}{a:ak}{ps:List<|Int×Int}(J:X.mg x=some (.ref a))(U:klP X.K a=some ps)(hg:Gl X x<|>η)(hd:(x == ("__debug__" : Str))=false<|>δ):AE X (.Name x pos) (eC<|.frz<|ps.map kA):=
 PE.imp (Mc (v:=.ref a) hg J rfl hd) λσ H Q h9=>by
  room;exact h ρ H _ .refl R<|ZW U
section
variable {X:Cx}
abbrev keA (p:ag×A):A:=.tup<|p.1.map .int
abbrev ZQ (n:Nat)(S:jT):R A:=opt (kj S n) λc=>match (c.map Prod.fst).all (λks=>!ks.isEmpty)with
 | true=>.ok (.ref S.length) (S++[.lst<|(mO<|c.map Prod.fst).map λks=>.tup<|ks.map .int])
 | false=>.no
abbrev E_ (x:A)(S:jT):R A:=match x with
 | .ref n=>ZQ n S
 | _=>.no
theorem LS{K:au}{H:Hp}:∀{kvs:List<|ag×A}{ks:List<|List Key×V},DV K ρ H kvs ks->ks.map (λp=>p.1)=(kvs.map Prod.fst).map (λks=>ks.map Sum.inl)
 | [],[],_=>rfl
 | a::kvs,b::ks,⟨z,t⟩=>by
  have:=LS t;show b.1::ks.map _=a.1.map Sum.inl::_;rw[this,z.1]
def VH(hc:X.calm=true):kJ X (.builtin "sorted") (rN X<|f1 E_):=kJ.imp (Eb hc) λJ H Q h0=>by
 kt_k;clear h0
 cases hv with
 | ref m=>
  rename_i p n;obtain⟨c,hn,h⟩:=jV h;obtain⟨ks,G,B⟩:=R.dct m (mL hn)
  cases d:(c.map Prod.fst).all (λks=>!ks.isEmpty)with
  | false=>rw[d]at h;exact h.elim
  | true=>
   rw[d]at h;refine⟨p,ks,c.map Prod.fst,rfl,G,LS B,λk q z=>?_,Sx.J3 _,λe l g F C f hc hs=>?_⟩
   ·have:=eS.mp d k q;rw[z]at this
    cases this
   have j:AVs X.K ρ H ((mO<|c.map Prod.fst).map λks=>.tup<|ks.map .int) (((List.range (c.map Prod.fst).length).map λi=>e.getD (g i) 0).map V.ref):=by
    rw[<- P0 hc hs,bB,bB];refine Eo λi hi=>?_;have lt:=(hc i (bL _)<|cY.mp hi).2;have e1:e[g i]?=some (e.getD (g i) 0):=by rw[aK,aE<|by rw[F];exact lt];rfl
    have e2:(c.map Prod.fst)[g i]?=some ((c.map Prod.fst).getD (g i) []):=by rw[aK,aE lt];rfl
    exact .tup (C _ _ _ e1 e2)<|qh _
   exact nB R j .refl h l f
 | _=>exact h.elim
end
end Am
namespace L2
open PySem PySem.Spec PyProof.Rows
section
variable {P:aj}{w:ah}{A:ay}{s:az}
meta abbrev Ent:=List Key×ak×af
meta abbrev tK (P:aj)(w:ah):=tupleKind<|kN P w
def xT{h h':aq}{ks:List Key}{a:ak}(x:(tK P w).is h ks a)(k:∀o,h.get? a=some o->h'.get? a=some o):(tK P w).is h' ks a:=by
 obtain⟨o,arr,n,h1,h2⟩:=x;exact⟨o,arr,n,k o h1,h2⟩
abbrev UH (P:aj)(w:ah)(h:aq)(d I:ak)(its:ax)(ps:List Ent):Prop:=∀(i:Nat) (v:af),its[i]?=some v->∃(b:ak) (p:Ent),v=.ref b/\b≠d/\b≠I/\ps[i]?=some p/\IsTup h b #[.ref p.2.1,p.2.2]/\p.2.1≠d/\p.2.1≠I/\(tK P w).is h p.1 p.2.1
def UH.mono{h h':aq}{d:ak}(x:UH P w h d I its ps)(k:∀b o,b≠d->b≠I->h.get? b=some o->h'.get? b=some o):UH P w h' d I its ps:=λi v hv=>by
 obtain⟨b,p,h1,h2,h3,g,⟨o,m,j⟩,c,f,h9⟩:=x i v hv;exact⟨b,p,h1,h2,h3,g,⟨o,k b o h2 h3 m,j⟩,c,f,xT h9 λo e=>k _ o c f e⟩
abbrev U0 (ps:List Ent):List Ent:=ps.foldl (λacc p=>storedH acc p.1 p.2.1 p.2.2) []
def F9(ps:List Ent)(i:Nat)(p:Ent)(h:ps[i]?=some p):U0 (ps.take<|i+1)=storedH (U0<|ps.take i) p.1 p.2.1 p.2.2:=by
 unfold U0;rw[cL,h,dw];rfl
def Gi(acc:List Ent)(k:List Key)(a:ak)(v:af):(storedH acc k a v).length<=acc.length+1:=by
 unfold storedH;split
 ·rw[aG];lia
 ·rw[bg];exact aO _
theorem Lf:∀(ps acc:List Ent),(ps.foldl (λacc p=>storedH acc p.1 p.2.1 p.2.2) acc).length<=acc.length+ps.length
 | [],acc=>aO _
 | p::ps,acc=>by
  have:=Lf ps<|storedH acc p.1 p.2.1 p.2.2;have:=Gi acc p.1 p.2.1 p.2.2;rw[cW,bA]
  lia
def I_{acc:List Ent}{k:List Key}{a:ak}{v:af}(h:∀x∈acc,x.2.1≠I)(J:a≠I):∀x∈storedH acc k a v,x.2.1≠I:=λx c=>by
 unfold storedH at c;split at c
 ·obtain⟨y,d,rfl⟩:=aW.mp c;unfold putAt;split
  ·exact h y d
  ·exact h y d
 ·rcases br.mp c with z|z
  ·exact h x z
  ·rw[aP.mp z];exact J
def Od{R:Result->az->Prop}{I l d:ak}{St:Nat->aq->Prop}{its:ax}{ps:List Ent}(hu:A.units+8<cLine)(W:Walks P w A.in1 I [I,l] [I] its.length (λi v=>its[i]?=some v) St)(hdI:d≠I)(hdl:d≠l)(hl:ps.length=its.length)(hz:ps.length<=sizeLine) :
  ∀(k i:Nat) (s:az),its.length-i=k->i<=its.length->St i s.heap->s.heap.DictOfH (tK P w) d (U0<|ps.take i)->(∀x∈U0 (ps.take i),x.2.1≠I)->UH P w s.heap d I its ps ->
   (∀h' tk,h'.DictOfH (tK P w) d (U0 ps)->(∀b o,b≠d->b≠I->s.heap.get? b=some o->h'.get? b=some o)->R (.ok<|.ret .none) { s with heap:=h',toks:=tk }) ->
   codeAny (model P w) A (.builtin "dict.update.loop" ⟨[.ref d,.ref I,rawInt i,.none],[]⟩) R s:=by
 intro k
 induction k with
 | zero=>
  intro i s hk hi m N K hP hR;have Y:i=its.length:=by omega
  subst Y;refine f6 wG ?_;rw[eB o6 _];show wpAny _ A.in1 (pyNext (.ref I) >>= _) _ _ s;refine aH<|W.done s _ _ m λh' tk f=>?_;show wpAny _ A.in1 (Builtin.Dict.addKeywords d [] >>= _) _ _ _;refine aH (aV<|aV<|hR h' tk ?_ λb o _ h2 e=>f b o (by simpa using h2) e);rw[<- hl,cH]at N K;obtain⟨o,es,ep,C,h1,h2,h3,g,B⟩:=N;exact⟨o,es,ep,f d o (by simpa using hdI) C,h1,h2,h3,λx M=>xT (g x M) λo e=>f _ o (by simpa using K x M) e,B⟩
 | succ k ih=>
  intro i s hk hi m N K hP hR;have J:i<its.length:=by omega
  refine f6 wG ?_;rw[eB o6 _];show wpAny _ A.in1 (pyNext (.ref I) >>= _) _ _ s;refine aH<|W.item i s _ _ J m λv h' tk hv F f=>?_;have Z:UH P w h' d I its ps:=hP.mono λb o h1 h2 e=>f b o (by simpa using h2) e;obtain⟨b,p,rfl,hbd,hbI,hp,⟨o,C,hc,n,hd⟩,hkd,hkI,L⟩:=Z i v hv;have T:h'.DictOfH (tK P w) d (U0<|ps.take i):=by
   obtain⟨o,es,ep,C,h1,h2,h3,g,B⟩:=N;exact⟨o,es,ep,f d o (by simpa using hdI) C,h1,h2,h3,λx M=>xT (g x M) λo e=>f _ o (by simpa using K x M) e,B⟩
  have hT:Shared.TypeIs { s with heap:=h',toks:=tk } (.ref b) "tuple" := ⟨o,C,hc⟩;have j:∀(A:ay) (E:af->az->Prop) (Q:ax->az->Prop),Q [.ref p.2.1,p.2.2] { s with heap:=h',toks:=tk }->wpAny (model P w) A (Builtin.Dict.pairItems<|.ref b) Q E { s with heap:=h',toks:=tk }:=λA E Q q=>by
   unfold Builtin.Dict.pairItems;refine aH<|fS hT ?_;rw[aJ ⋯];refine aH<|wpAny_seqItems C hd<|aV q
  have G:(U0<|ps.take i).length<=sizeLine:=by
   refine bD (Lf (ps.take i) []) ?_;rw[bI,cX];omega
  refine aH<|dc<|aH<|wpAny_tryCatch<|j _ _ _ ?_;show wpAny _ _ (holding [Value.ref p.2.1,p.2.2]<|dictSet d (.ref p.2.1) p.2.2) _ _ _;refine dc (wpAny_dictSet_heap (hsz:=G) (knd:=tK P w) (k:=p.1) (s:={ s with heap:=h',toks:=tk }) (show _<cLine from cM (by show A.units+_<=A.units+8;exact Nat.add_le_add_left ⋯ _) hu) L T λh2 hD2 hs=>?_);refine aV ⟨iP o6 _,?_⟩;have c:∀b o,b≠d->b≠I->s.heap.get? b=some o->h2.get? b=some o:=λb o h3 g e=>by rw[hs.2 b h3];exact f b o (by simpa using g) e
  refine ih (i+1) _ (by omega) J (W.frame _ _ _ F λb hb o e=>?_) (by rw[F9 ps i p hp];exact hD2) (by rw[F9 ps i p hp];exact I_ K hkI) (hP.mono c) λh3 O U V=>hR h3 O U λb o g B e=>V b o g B<|c b o g B e;have hne:b≠d:=by
   intro z;subst z
   rcases bG.mp hb with z|z
   ·exact hdI z
   ·exact hdl<|by simpa using z
  show h2.get? b=some o;rw[hs.2 b hne];exact e
theorem Cm{H:Hp}{X:Cx}(I:Inv X pins σ H s):∀(rs:ba) (ps:List<|List Key×ak×V),rs.length=ps.length->(∀(i:Nat) (r:ak) (q:List Key×ak×V),rs[i]?=some r->ps[i]?=some q->n_ X.K H r [.ref q.2.1,q.2.2]/\H q.2.1=some (.tup<|q.1.map kV)) ->
  ∃qs:List Ent,qs.length=ps.length/\(∀H':Hp,(∀b ys,H b=some (.tup ys)->H' b=some (.tup ys))->∀as bs,KT H' as bs->KT H' (ps.foldl (λacc p=>putK acc p.1 p.2.2) as) (qs.foldl (λacc p=>storedH acc p.1 p.2.1 p.2.2) bs))/\∀(i:Nat) (r:ak),rs[i]?=some r->∃q,qs[i]?=some q/\IsTup s.heap r #[.ref q.2.1,q.2.2]/\(tK X.prog X.w).is s.heap q.1 q.2.1
 | [],[],_,_=>⟨[],rfl,λH' _ as bs h=>h,λi r h=>by simp at h⟩
 | [],_::_,h,_=>nomatch h
 | _::_,[],h,_=>nomatch h
 | r::rs,p::ps,hl,hh=>by
  obtain⟨qs,h0,h1,h2⟩:=Cm I rs ps (by simpa using hl) λi r q e1 e2=>hh (i+1) r q (by simpa using e1) (by simpa using e2);obtain⟨hs,f⟩:=hh 0 r p rfl rfl;obtain⟨its,j,g,_⟩:=I.tuple hs;obtain⟨m,d,rfl,r1,r2⟩:=vals2 j
  cases r1
  refine⟨(p.1,p.2.1,d)::qs,by rw[bA,bA,h0],λH' c as bs h=>h1 H' c _ _<|KT.put h p.1 (c _ _ f) r2,λi k e=>?_⟩
  cases i with
  | zero=>cases e;exact⟨(p.1,p.2.1,d),rfl,g,vm I.hok f⟩
  | succ i=>exact h2 i k<|by simpa using e
abbrev ptT (ps:List<|List Key×ak×V):List (List Key×V):=ps.foldl (λacc p=>putK acc p.1 p.2.2) []
theorem LZ:∀(ps:List<|List Key×ak×V) (acc:List<|List Key×V),(ps.foldl (λacc p=>putK acc p.1 p.2.2) acc).length<=acc.length+ps.length
 | [],acc=>aO _
 | p::ps,acc=>by
  have:=LZ ps<|putK acc p.1 p.2.2;have:=qo acc p.1 p.2.2;rw[cW,bA]
  lia
end
section
variable {X:Cx}
def Im(hc:X.calm=true)(hu:X.A.units+16<cLine):kJ X (.type "dict") (λxs H Q=>∃(p:ak) (rs:ba) (ps:List<|List Key×ak×V),xs=[.ref p]/\qt X.K H p (rs.map V.ref)/\rs.length=ps.length /\
  (∀(i:Nat) (r:ak) (q:List Key×ak×V),rs[i]?=some r->ps[i]?=some q->n_ X.K H r [.ref q.2.1,q.2.2]/\H q.2.1=some (.tup<|q.1.map kV))/\∀l,H l=none->Q (.ref l) (upd H l<|.dT<|ptT ps)):=by
 x_go;obtain⟨p,rs,ps,rfl,hq,m,hT,q⟩:=h;kcf_m
 cases rx
 obtain⟨its,rv,pl,hz⟩:=I.list hq;have ei:=wu rv;subst ei;rw[aG]at hz;obtain⟨T,ql,kv,tp⟩:=Cm I rs ps m hT;obtain⟨o,n,ho,j,O,hd⟩:=pl;have lp:p<s.heap.objs.size:=bh ho;refine callType_codes (Q₁:=λk f=>k=.ref s.heap.objs.size/\f={ s with heap:=s.heap.push { cls:=.type "dict",data:=.dict #[]}}) F.kt_called_dict (F.kt_typeCall_dict_1 _) F.entry_dict_init (kt_code_dict_new _ ⟨rfl,rfl⟩) ?_;rintro k f ⟨rfl,rfl⟩;have G:(s.heap.push { cls:=.type "dict",data:=.dict #[]}).DictOf (kN X.prog X.w) s.heap.objs.size []:=Heap.DictOf.new s.heap;have C:(s.heap.push { cls:=.type "dict",data:=.dict #[]}).DictOfH (tK X.prog X.w) s.heap.objs.size []:=⟨_,#[],0,bC _ rfl,⟨rfl,rfl,rfl⟩,rfl,rfl,λ_ z=>absurd z jA,dO⟩;have c:(s.heap.push { cls:=.type "dict",data:=.dict #[]}).get? p=some o:=aR _ ho;have M:Shared.TypeIs { s with heap:=s.heap.push { cls:=.type "dict",data:=.dict #[]}} (.ref p) "list" := ⟨o,c,j⟩;refine⟨G.typeIs,F.args_dict_init_2 _ _,?_⟩;unfold Builtin.«dict.__init__»;refine aH ?_;unfold Builtin.Dict.selfAndRest;refine aH<|iF G.typeIs ?_;show wpAny _ _ (pure (s.heap.objs.size,[Value.ref p])) _ _ _;refine aV ?_;show wpAny _ _ (Builtin.Dict.updateFrom "dict.__init__" s.heap.objs.size (.ref p) [] .none) _ _ _;unfold Builtin.Dict.updateFrom;refine aH<|fS M ?_;rw[aJ ⋯];refine aH<|CL c j hd O (show X.A.in1.in1.handled=none from I.ok.hd hc) λh' tk g=>?_;rw[aJ<|by rfl];refine aH<|gr ?_;have B:h'.IsList p (rs.map Value.ref).toArray:=⟨o,g p o c,j,n,hd⟩;refine aH<|gY (s:={ s with heap:=h',toks:=tk }) B ?_;refine aV ⟨iP o6 _,?_⟩;have sz:s.heap.objs.size<h'.objs.size:=bh<|g _ _<|bC _ rfl;have W:Walks X.prog X.w X.A.in1.in1 h'.objs.size [h'.objs.size,p] [h'.objs.size] (rs.map Value.ref).length (λi v=>(rs.map Value.ref)[i]?=some v) (λi h=>h.IsListIter h'.objs.size p i/\h.IsList p (rs.map Value.ref).toArray):=by
  have W:=Walks.list (prog:=X.prog) (w:=X.w) (A:=X.A.in1.in1) (I.ok.hd hc) h'.objs.size p (bw<|bh<|g p o c) (rs.map Value.ref).toArray;rw[aZ]at W;dsimp[d_]at W;exact W
 refine Od (d:=s.heap.objs.size) (its:=rs.map Value.ref) (ps:=T) (show _+8<cLine from cM (by show X.A.units+_+8<=X.A.units+16;lia) hu) W (bw sz) (di<|bw lp) (by rw[aG];lia) () (rs.map Value.ref).length 0 _ () (bL _)
  ⟨⟨_,bC _ rfl,rfl,rfl⟩,B.push _⟩ ?_ (λ_ z=>absurd z jA) (λi v hv=>?_) λh2 J hD hs=>⟨rfl,.ref s.heap.objs.size,_,I.laid (t':=J) (o:=.dT<|ptT ps) (λb ob Y=>?_) (aO _) ?_,rfl,q _<|I.hok.fresh<|aO _⟩
 ·obtain⟨o,es,ep,e,r1,r2,L,r4,r5⟩:=C;exact⟨o,es,ep,aR _<|g _ _ e,r1,r2,L,λ_ z=>absurd z jA,r5⟩
 ·rw[aQ]at hv;obtain⟨r,hr,rfl⟩:=aY.mp hv;obtain⟨q,h1,⟨o2,h2,h3⟩,h4⟩:=tp i r hr;have lr:=bh h2;have N:=h4;obtain⟨o5,a5,n5,h5,_⟩:=N;have U:=bh h5;exact⟨r,q,rfl,bw lr,bw<|ie lr sz,h1,⟨o2,aR _<|g _ _<|aR _ h2,h3⟩,bw U,bw<|ie U sz,xT h4 λo e=>aR _<|g _ _<|aR _ e⟩
 ·have Z:=bh Y;exact hs b ob (bw Z) (bw<|ie Z sz) (aR _<|g _ _<|aR _ Y)
 ·obtain⟨o,es,ep,r1,r2,L,r4,r5,r6⟩:=hD;refine⟨bD (LZ ps [])<|by rw[cX];lia,cT.mpr<|di<|bw I.big,U0 T,kv _ (λb ys P=>?_) [] [] .nil,o,es,ep,r1,r2,L,r4,r6⟩;have:b≠s.heap.objs.size:=λz=>by rw[z,I.hok.fresh<|aO _]at P;cases P
  rw[j7 this];exact P
end
end L2
namespace Am
open PySem PySem.Spec PyProof.Rows L2
abbrev E1:ae->Option (List<|ag×A)
 | []=>some []
 | .tup [.tup k,x]::r=>(A.ints k).bind λc=>(E1 r).map λps=>(c,x)::ps
 | _=>none
abbrev MW (ps:List<|ag×A):List (ag×A):=ps.foldl (λacc p=>putD acc p.1 p.2) []
section
variable {K:au}{ρ:ba}{H:Hp}
def N8{x:A}(e:E1 (x::xs)=some ps):∃k ns y ps',x=.tup [.tup k,y]/\A.ints k=some ns/\E1 xs=some ps'/\ps=(ns,y)::ps':=by
 unfold E1 at e;split at e
 ·rename_i e2;cases e2
 ·rename_i k y r e2
  cases e2
  obtain⟨ns,h0,e⟩:=dX.mp e;obtain⟨ps',h1,h2⟩:=aY.mp e;exact⟨_,_,_,_,rfl,h0,h1,h2.symm⟩
 ·cases e
def Vq(ns:ag):(ns.map (Sum.inl:Int->Key)).map kV=ns.map V.int:=by rw[bB];rfl
def WC:∀{xs:ae}{vs:List V}{ps:List<|ag×A},AVs K ρ H xs vs->E1 xs=some ps ->
  ∃(rs:ba) (qs:List<|List Key×ak×V),vs=rs.map V.ref/\rs.length=qs.length/\(∀(i:Nat) (r:ak) (q:List Key×ak×V),rs[i]?=some r->qs[i]?=some q->n_ K H r [.ref q.2.1,q.2.2]/\H q.2.1=some (.tup<|q.1.map kV)) /\
   ∀as bs,DV K ρ H as bs->DV K ρ H (ps.foldl (λacc p=>putD acc p.1 p.2) as) (qs.foldl (λacc p=>putK acc p.1 p.2.2) bs):=by
 intro xs
 induction xs with
 | nil=>intro vs ps r e;cases r;cases e;exact⟨[],[],rfl,rfl,λi r q h=>by simp at h,λas bs h=>h⟩
 | cons x xs C=>
  intro vs ps r e;obtain⟨k,f,y,B,rfl,e0,e1,rfl⟩:=N8 e
  cases r with
  | cons h t=>
   obtain⟨rs,qs,rfl,m,j,F⟩:=C t e1
   cases h with
   | @tup a _ us h r=>
    obtain⟨v,w,rfl,h1,h2⟩:=Ly r
    cases h1 with
    | @tup c _ NI g r1=>
     have e2:=wC r1 e0;subst e2;refine⟨a::rs,(f.map Sum.inl,c,w)::qs,rfl,by rw[bA,bA,m],λi r q e1 e2=>?_,λas bs d=>F _ _<|d.put h2 f⟩
     cases i with
     | zero=>cases e1;cases e2;exact⟨n_.of h,by rw[Vq];exact g⟩
     | succ i=>exact j i r q (by simpa using e1)<|by simpa using e2
end
section
variable {X:Cx}
abbrev JF (x:A)(S:jT):R A:=match x with
 | .ref n=>opt (jU S n) λxs=>opt (E1 xs) λps=>.ok (.ref S.length) (S++[.dct<|MW ps])
 | _=>.no
def VE(hc:X.calm=true)(J:X.A.units+64<cLine):kJ X (.type "dict") (rN X<|f1 JF):=kJ.imp (Im hc ()) λvs H Q h0=>by
 kt_k;clear h0
 cases hv with
 | ref k=>
  rename_i p n;gn_on;obtain⟨ps,g,h⟩:=jV h;obtain⟨us,h1,r⟩:=R.lst k<|kc hn;obtain⟨j,e,rfl,d,m,q⟩:=WC r g;refine⟨p,j,e,rfl,qt.of h1,d,m,λl c=>?_⟩;obtain⟨ex,f,d⟩:=R.abC (xs:=MW ps) (vs:=ptT e) c<|q [] [] trivial;exact h _ _ _ ex f<|.ref d
 | _=>exact h.elim
end
end Am
namespace L2
open PySem PySem.Spec PyProof.Rows
section
variable {H:Hp}{a:ak}{xs:List (Oe×ak×af)}
end
end L2
namespace Am
open PySem PySem.Spec PyProof.Rows L2
abbrev IT {α:Type}(x:ag×α):List (ag×α)->List (ag×α)
 | []=>[x]
 | y::ys=>if HT.lexLt y.1 x.1=true then y::IT x ys else x::y::ys
abbrev B7 {α:Type}:List (ag×α)->List (ag×α)
 | []=>[]
 | x::xs=>IT x<|B7 xs
section
variable {α:Type}
theorem DH(x:ag×α):∀ys:List<|ag×α,(IT x ys).Perm (x::ys)
 | []=>eF _
 | y::ys=>by
  unfold IT;by_cases h:HT.lexLt y.1 x.1=true
  ·rw[aJ h];exact((DH x ys).cons y).trans (List.Perm.swap x y ys)
  ·rw[aI h]
theorem xN:∀xs:List<|ag×α,(B7 xs).Perm xs
 | []=>eF _
 | x::xs=>(DH x<|B7 xs).trans<|(xN xs).cons x
theorem HW(x:ag×α):∀ys:List<|ag×α,(IT x ys).map Prod.fst=EJ x.1 (ys.map Prod.fst)
 | []=>rfl
 | y::ys=>by
  unfold IT;rw[bH];unfold EJ;by_cases h:HT.lexLt y.1 x.1=true
  ·rw[aJ h,aJ h,bH,HW]
  ·rw[aI h,aI h];rfl
theorem CN:∀xs:List<|ag×α,(B7 xs).map Prod.fst=mO (xs.map Prod.fst)
 | []=>rfl
 | x::xs=>by
  show(IT x<|B7 xs).map Prod.fst=EJ x.1 (mO<|xs.map Prod.fst);rw[HW,CN]
theorem E2:∀{l:List<|ag×α},(l.map Prod.fst).Nodup->∀a∈l,∀b∈l,a.1=b.1->a=b
 | [],_,_,h,_,_,_=>nomatch h
 | x::l,nd,a,ha,b,hb,e=>by
  obtain⟨h1,h2⟩:=cN.mp nd
  rcases bG.mp ha with g|d
  ·rcases bG.mp hb with f|c
   ·rw[g,f]
   ·subst g;exact absurd (e ▸ fL c) h1
  ·rcases bG.mp hb with f|c
   ·subst f;exact absurd (e ▸ fL d) h1
   ·exact E2 h2 a d b c e
def JA{xs ys:List<|ag×α}(nd:(ys.map Prod.fst).Nodup)(p:xs.Perm ys)(h:(xs.map Prod.fst).Pairwise Ff):xs=B7 ys:=by
 refine eo (le:=λ(a b:ag×α)=>Ff a.1 b.1) (λ(a b:ag×α) ha hb h1 h2=>E2 nd a (p.mem_iff.mp ha) b ((xN ys).mem_iff.mp hb) (Sx.yD (show HT.lexLt b.1 a.1=false from h1)<|show HT.lexLt a.1 b.1=false from h2).symm) ?_ ?_ (p.trans (xN ys).symm)
 ·exact cK.mp h
 ·have:=vt<|ys.map Prod.fst;rw[<- CN]at this;exact cK.mp this
end
end Am
namespace L2
open PySem PySem.Spec PyProof.Rows
section
variable {X:Cx}
def Z8{H:Hp}{s:az}{d:ak}{kvs:List<|List Key×V}(I:Inv X pins σ H s)(U:Rd H d<|.dT kvs) :
  ∃(ob:Obj) (es:Array DictEntry) (ep:Nat) (rs:ba),s.heap.get? d=some ob/\ob.cls=.type "dict" /\ ob.data=.dict es ep/\(d == sysModules)=false/\kvs.length<=sizeLine/\rs.length=kvs.length/\es.size=kvs.length /\
   (∀i:Nat,(es[i]?).map (λe:DictEntry=>e.key)=(rs[i]?).map Value.ref)/\∀(i:Nat) r p,rs[i]?=some r->kvs[i]?=some p->H r=some (.tup<|p.1.map kV):=by
 obtain⟨z,m,xs,f,q⟩:=zJ I.hok U;obtain⟨ob,es,ep,C,F,k,g,J,G⟩:=id q;obtain⟨j,B⟩:=kt_at f;have c:es.size=xs.length:=by have:=dY List.length g;simpa using this
 refine⟨ob,es,ep,xs.map λy=>y.2.1,C,F.1,k,m,z,by rw[aG,j],by rw[c,j],λi=>?_,λi r p e1 e2=>?_⟩
 ·rw[<- dJ,g,aQ,aQ,eX,eX]
  cases xs[i]?<;>rfl
 ·obtain⟨y,h1,h2,h3,K⟩:=B i p e2;rw[aQ,h1]at e1
  cases e1
  exact h3
end
end L2
namespace Am
open PySem PySem.Spec PyProof.Rows L2
section
variable {X:Cx}{pos:Pos}{a b:aA}
abbrev mq (S:jT)(n:Nat):Option (List<|ag×A):=match S[n]? with
 | some (.dct kvs)=>some kvs
 | some (.dcf kvs)=>some kvs
 | _=>none
def FO{K:au}{H:Hp}{n:Nat}{p:ak}(R:Rel K ρ H S)(J:ρ[n]?=some p)(hn:mq S n=some kvs):∃ks,Rd H p (.dT ks)/\DV K ρ H kvs ks:=by
 unfold mq at hn;split at hn
 ·rename_i h
  cases hn
  obtain⟨ks,e,d⟩:=R.at n p _ J h;exact⟨ks,.inl e,d⟩
 ·rename_i h
  cases hn
  obtain⟨o,ks,e,d⟩:=R.at n p _ J h;exact⟨ks,.inr ⟨o,e⟩,d⟩
 ·cases hn
def GV{H:Hp}{p q:ak}{n:Nat}{ns:ag}(R:Rel X.K ρ H S)(U:ρ[n]?=some p)(hn:mq S n=some kvs)(J:H q=some (.tup vs))(r:AVs X.K ρ H xs vs)(hi:A.ints xs=some ns) :
  ∃ks,DV X.K ρ H kvs ks/\t8 H p (.ref q) (pY ks<|ns.map Sum.inl):=by
 obtain⟨ks,e,d⟩:=FO R U hn;have z:=wC r hi;subst z;rw[<- Af]at J;exact⟨ks,d,.inr ⟨ks,ns.map Sum.inl,q,e,rfl,J,rfl⟩⟩
abbrev z0 (x y:A)(S:jT):R A:=match x,y with
 | .ref n,.tup xs=>opt (mq S n) λc=>opt (A.ints xs) λd=>opt (lg c d) λv=>.ok v S
 | _,_=>.no
def ab6(J:X.A.units+64<cLine):UY X (r2 X z0):=λe c pins s σ H x y v u Q I rx ry ⟨ρ,S,a,b,R,va,vb,h⟩ hs=>by
 cases va with
 | @ref p n k=>
  cases vb with
  | @tup q xs F m r=>
   obtain⟨j,hn,h⟩:=jV h;obtain⟨f,hi,h⟩:=jV h;obtain⟨z,B,h⟩:=jV h;obtain⟨ks,d,g⟩:=GV R k hn m r hi;obtain⟨w,hw,C⟩:=(d.look f).2 z B;rw[hw]at g;exact AD () e c pins s σ H _ _ v u Q I rx ry ⟨p,w,rfl,g,h _ _ _ .refl R C⟩ hs
  | _=>exact h.elim
 | _=>exact h.elim
def zv(J:X.A.units+64<cLine){ca cb:Ex}(U:AE X a ca)(hb:AE X b cb)(hs:wj b<|>μ):AE X (.Subscript a b pos) (j6 z0 ca cb):=PE.imp (G7 (ab6 J) U hb hs) λσ H Q h=>sC h
end
end Am
namespace L2
open PySem PySem.Spec PyProof.Rows
section
variable {X:Cx}{o e:aA}{es:List aA}{to:TE}{t:TA}{name:Str}{apos cpos:Pos}{T id:String}{r:V->List V->Hp->VK->Prop}
abbrev tBG (ty:V->Hp->Prop)(r:V->List V->Hp->VK->Prop)(to:TE)(t:TA):TE:=λσ H Q=>to σ H λx H1=>ty x H1/\t σ H1 λxs H2=>r x xs H2 Q
def adh{ty:V->Hp->Prop}(hT:∀{pins:bo}{σ:St}{H:Hp}{s:az}{x:V}{v:af},Inv X pins σ H s->RelV x v->ty x H->s.TypeIs v T/\∀a,v=.ref a->∃ob,s.heap.get? a=some ob/\ob.dict=none)
  (pa:PlainAttrs T) (slot:Slot T name id) (hty:typeOf (.builtin id)=pure (.type "method_descriptor")) (hm:Ja X id r) (ho:PE X o to) (ha:PA X (e::es) t)
  (U:attributeBase o name X.env (eval o X.env)=eval o X.env<|>η)
  (hfew:(((backTo cpos<|starEach (e::es) X.env).all (λx=>!x.1) && (backToKw cpos<|keywordEach [] X.env).all (λx=>x.1.isSome)
   && decide ((e::es).length+([]:List Keyword).length+(if ([]:List Keyword).isEmpty then 0 else 1)<30))=true)<|>η)
  (hline:(apos.endLine == cpos.line)=true<|>η) (hs:starEach (e::es) X.env=(false,eval e X.env)::starEach es X.env<|>η) (J:((backTo cpos<|starEach es X.env).any (·.1)=false)<|>η) :
  PE X (.Call (.Attribute o name apos) (e::es) [] cpos) (tBG ty r to t):=by
 w_up;refine g_ U hfew hline rfl<|ng (ho pins s σ H _ I h) λv p h9=>?_;obtain⟨x,H1,d,r1,c,j⟩:=h9;obtain⟨h1,h2⟩:=hT d r1 c;refine⟨T,id,pa,slot,hty,h1,h2,?_⟩;have f:=ha cpos pins p σ H1 _ d j;rw[hs]at f ⊢;refine fW (by show(false || (backTo cpos<|starEach es X.env).any (·.1))=false;rw[J]<;>rfl)<|gp ?_;refine ng f λus k h9=>?_;obtain⟨g,H2,q,r2,m⟩:=h9;exact hm pins k σ H2 x g v us Q q r1 r2 m
end
section
variable {X:Cx}
abbrev Itw (d:ak)(o:Obj)(u:HO)(xs:List V):It:=
 ⟨λi H=>(∃x,xs[i]?=some x)/\H d=some (.frz o u),λi H x H'=>H'=H/\xs[i]?=some x,λi H=>i=xs.length/\H d=some (.frz o u)⟩
def IE{P:aj}{w:ah}{K:au}(d it:ak){o:Obj}{es:Array DictEntry}{xs:List V}(hd:o.data=.dict es ep)(U:es.size=xs.length)
  (hk:∀(i:Nat) (x:V) (lt:i<es.size),xs[i]?=some x->RelV x es[i].key):Turn P w K tg (Itw d o u xs) [it] it (λi h=>h.IsKeyIter it d i es.size ep) where
 mem:=aL ..
 obj:=λi h st b f=>by
  have:b=it:=by simpa using f
  subst this;obtain⟨F,h1,h2,h3⟩:=st;exact⟨F,h1,λv z=>by rw[h3]at z;cases z⟩
 keep:=λi h h' st k=>st.at λx e=>k it (aL ..) x e
 item:=by
  k_ne;subst hP hw hK;obtain⟨⟨a,m⟩,j⟩:=hg;have p:s.heap.get? d=some o:=(show lJ _ _ H s.heap d (.frz o u)from I.hok d _ j).1;have lt:i<es.size:=by rw[U];exact(aF.mp m).1
  have C:=hk i a lt m;obtain⟨f0,f1,f2,f3,f4,f5⟩:=hf it<|aL ..;refine SV st p hd lt λh' g J=>?_;have L:Inv X pins σ H { s with heap:=h' }:=I.turned (t':=s.toks) (λb x f e=>J.extBut b x f e) f0 f1 f3 f4 f5;obtain⟨M,e,c,B⟩:=id g;exact⟨_,rfl,F4 (s:={ s with heap:=h' }) e c B ⋯ ⟨a,H,L,C,⟨rfl,m⟩,g,λb f=>(hf b f).1⟩⟩
 done:=by
  k_ne;subst hP hw hK;obtain⟨hi,j⟩:=hg;have p:s.heap.get? d=some o:=(show lJ _ _ H s.heap d (.frz o u)from I.hok d _ j).1;obtain⟨f0,f1,f2,f3,f4,f5⟩:=hf it<|aL ..;exact Ls (I.ok.hd hc) st p hd () λh' G=>⟨rfl,I.turned (t':=s.toks) (λb x f e=>G b x f e) f0 f1 f3 f4 f5⟩
 self:=λ_ _ _ _ _ st q=>wpAny_pyIter_keyiter st q
abbrev adf (H:Hp):HO->List V->Prop
 | .dT c,xs=>∃d:ba,xs=d.map V.ref/\d.length=c.length/\∀(i:Nat) r p,d[i]?=some r->c[i]?=some p->H r=some (.tup<|p.1.map kV)
 | .dK c,xs=>xs=c.map λp=>kV p.1
 | _,_=>False
abbrev aag (to:TE):TI:=λσ H R=>to σ H λx H1=>∃d u,x=.ref d/\((∃c,u=.dT c)\/∃c,u=.dK c)/\Rd H1 d u/\∀(o:Obj) (xs:List V),(∀o',H1 d=some (.frz o' u)->o'=o)->adf H1 u xs->R (Itw d o u xs) (upd H1 d<|.frz o u)
def pairs_at{P:aj}{w:ah}(h:Pairs (kN P w) es vs):∀(i:Nat) (e:DictEntry) (p:Key×af),es[i]?=some e->vs[i]?=some p->RelV (kV p.1) e.key:=by
 induction h with
 | nil=>intro i e p h1;cases h1
 | cons h1 h2 h3 f=>
  intro i e p d c
  cases i with
  | zero=>
   cases d
   cases c
   rcases l8 h1 with⟨j,t,e1,e2⟩|⟨y,t,e1,e2⟩
   ·rw[e1,e2];exact⟨t,rfl⟩
   ·rw[e1,e2];exact⟨t,rfl⟩
  | succ i=>exact f i e p d c
def Vr{kvs:List<|Key×V}{vs:List<|Key×af}(J:KV kvs vs):vs.map (·.1)=kvs.map (·.1):=by
 unfold KV at J
 induction J with
 | nil=>rfl
 | cons h _ c=>rw[bH,bH,c,h.1]
def Sl{H:Hp}{d:ak}(h:H d=some u):upd H d u=H:=by
 funext b
 by_cases e:b=d
 ·subst e;rw[kZ,h]
 ·rw[j7 e]
def abT{H:Hp}{s:az}{d:ak}(I:Inv X pins σ H s)(hu:(∃kvs,u=.dT kvs)\/∃kvs,u=.dK kvs)(U:Rd H d u) :
  ∃(ob:Obj) (es:Array DictEntry) (ep:Nat) (xs:List V),s.heap.get? d=some ob/\ob.cls=.type "dict" /\ ob.data=.dict es ep/\(d == sysModules)=false/\es.size=xs.length/\(∀(i:Nat) (x:V) (lt:i<es.size),xs[i]?=some x->RelV x es[i].key)/\adf H u xs:=by
 rcases hu with⟨kvs,rfl⟩|⟨kvs,rfl⟩
 ·obtain⟨ob,es,ep,C,k,m,f,F,g,q,T,M,K⟩:=Z8 I U;refine⟨ob,es,ep,C.map V.ref,k,m,f,F,by rw[aG,T,q],λi x lt e=>?_,C,rfl,q,K⟩;rw[aQ]at e;obtain⟨r,P,rfl⟩:=aY.mp e;have:=M i;rw[d9 lt,P]at this;exact bz this
 ·obtain⟨z,J,c,j,L⟩:=ya I.hok U;obtain⟨ob,es,ep,k,m,f,_,g,_⟩:=id L;have B:=Vr j;have N:c.length=kvs.length:=by have:=dY List.length B;simpa using this
  have O:es.size=c.length:=by have:=g.length;simpa using this
  refine⟨ob,es,ep,kvs.map (λp:Key×V=>kV p.1),k,m.1,f,J,by rw[aG,O,N],λi x lt e=>?_,rfl⟩;rw[aQ]at e;obtain⟨p,G,rfl⟩:=aY.mp e;have hv:i<c.length:=()
  have e1:=pairs_at g i es[i] c[i] (by rw[dJ];exact d9 lt) (aE hv);have e2:(c.map (·.1))[i]?=(kvs.map (·.1))[i]?:=by rw[B]
  rw[aQ,aQ,G,aE hv]at e2;have e3:c[i].1=p.1:=bz e2;rw[<- e3];exact e1
def VC{P:aj}{w:ah}{H H':Hp}{h h':aq}{d:ak}(U:(∃kvs,u=.dT kvs)\/∃kvs,u=.dK kvs)(hn:∀b ys,H b=some (.tup ys)->H' b=some (.tup ys))(J:∀b o,h.get? b=some o->h'.get? b=some o)(ok:lJ P w H h d u):lJ P w H' h' d u:=by
 rcases U with⟨kvs,rfl⟩|⟨kvs,rfl⟩
 ·obtain⟨z,j,xs,c,e,es,ep,f,g⟩:=ok;exact⟨z,j,xs,KT.keeps c hn,e,es,ep,J _ _ f,g⟩
 ·obtain⟨z,j,k,c,e,es,ep,f,g⟩:=ok;exact⟨z,j,k,c,e,es,ep,J _ _ f,g⟩
def Nl{H:Hp}{s:az}{d:ak}{ob:Obj}(I:Inv X pins σ H s)(U:(∃kvs,u=.dT kvs)\/∃kvs,u=.dK kvs)(J:Rd H d u)(g1:s.heap.get? d=some ob):Inv X pins σ (upd H d<|.frz ob u) s:=by
 rcases J with J|⟨o',J⟩
 ·have c:∀b ys,H b=some (.tup ys)->upd H d (.frz ob u) b=some (.tup ys):=λb ys e=>by
   rw[j7<|XY e J λz=>by rcases U with⟨_,rfl⟩|⟨_,rfl⟩<;>exact nomatch z];exact e
  exact Aa (h':=s.heap) (t':=s.toks) (ob:=.frz ob u) I (by rw[J];rcases U with⟨_,rfl⟩|⟨_,rfl⟩<;>exact True.intro) ⟨rfl,λ_ _=>rfl⟩ ⟨ob,g1⟩ ⟨g1,VC U c (λ_ _ z=>z)<|I.hok d _ J⟩
 ·have:=(show lJ _ _ H s.heap d (.frz o' u)from I.hok d _ J).1;rw[g1]at this;have f:=(bz this);subst f;rw[Sl J];exact I
def Hw{e:aA}{to:TE}(U:PE X e to):PI X tg e (aag to):=by
 intro pins s σ H R I h;refine ng (U pins s σ H _ I h) λv c h9=>?_;obtain⟨x,H1,I1,r1,d,u,ex,p,q,B⟩:=h9;subst ex
 cases r1
 obtain⟨j,es,ep,xs,f,L,k,C,N,K,J⟩:=abT I1 p q;refine Cd ⟨_,f,L⟩ C f k ?_;have m:∀b o,c.heap.get? b=some o->(c.heap.push { cls:=.type "dict_keyiterator",data:=.fields #[.ref d,.int 0 0,.int es.size 0,.int ep 0]}).get? b=some o:=λb o g=>aR _ g;have O:Inv X pins σ H1 { c with heap:=c.heap.push { cls:=.type "dict_keyiterator",data:=.fields #[.ref d,.int 0 0,.int es.size 0,.int ep 0]}}:=I1.kept (t':=c.toks) m;have F:∀o',H1 d=some (.frz o' u)->o'=j:=λo' z=>by
  have:=(show lJ _ _ H1 c.heap d (.frz o' u)from I1.hok d _ z).1;rw[f]at this;exact(bz this).symm
 have G:=Nl O p q<|m _ _ f;refine⟨c.heap.objs.size,[c.heap.objs.size],_,Itw d j u xs,_,rfl,G,IE d _ k N K,⟨_,bC _ rfl,rfl,rfl⟩,λb M=>?_,B j xs F J⟩;have g:b=c.heap.objs.size:=by simpa using M
 subst g;refine I1.Nn (aO _) ?_;rw[j7<|di<|bw<|bh f];exact I1.hok.fresh<|aO _
def Y8(U:X.A.units<cLine):pR X (compareOp .NotEq) (λx y H Q=>∃a b kvs,x=.ref a/\y=.ref b/\Rd H a (.dK kvs)/\H b=some (.dK [])/\Q (.bl<|!kvs.isEmpty) H):=by
 kd_p;obtain⟨a,b,kvs,rfl,rfl,k,B,q⟩:=h
 cases rx
 cases ry
 obtain⟨z,F,j,c,m⟩:=ya I.hok k;obtain⟨J,f,C,d,g⟩:=Ky I.hok B
 cases d
 have G:kvs.length=j.length:=c.length;refine PySem.W.keq_ne (r:=true) F f m g U (λe=>?_) ⟨.bl<|!kvs.isEmpty,H,I,?_,q⟩
 ·rw[iR e];exact .nil
 ·cases kvs with
  | nil=>cases c;exact rfl
  | cons p r=>cases c;exact rfl
def Zg{H:Hp}{s:az}{x:V}{v:af}(I:Inv X pins σ H s)(r:RelV x v)(h:∃a,x=.ref a/\IsD H a):s.TypeIs v "dict" /\ ∀a,v=.ref a->∃ob,s.heap.get? a=some ob/\ob.dict=none:=by
 obtain⟨a,rfl,d⟩:=h
 cases r
 obtain⟨h1,h2,_⟩:=aam I d;exact⟨h1,h2⟩
end
end L2
namespace Am
open PySem PySem.Spec PyProof.Rows L2
abbrev kH (S:jT)(n:Nat):Option (List<|Int×A):=match S[n]? with
 | some (.nX kvs)=>some kvs
 | some (.dkf kvs)=>some kvs
 | _=>none
section
variable {K:au}{ρ:ba}{H:Hp}{S:jT}
def yx{n:Nat}{p:ak}(R:Rel K ρ H S)(J:ρ[n]?=some p)(hn:kH S n=some kvs):∃ks,Rd H p (.dK ks)/\DI K ρ H kvs ks:=by
 unfold kH at hn;split at hn
 ·rename_i h
  cases hn
  obtain⟨ks,e,d⟩:=R.at n p _ J h;exact⟨ks,.inl e,d⟩
 ·rename_i h
  cases hn
  obtain⟨o,ks,e,d⟩:=R.at n p _ J h;exact⟨ks,.inr ⟨o,e⟩,d⟩
 ·cases hn
def Rel.stl{n:Nat}{a:ak}{ob:Obj}(R:Rel K ρ H S)(ha:ρ[n]?=some a)(hn:n<S.length)(J:Rd H a u)(U:¬Imm u)(fr:∀o',H a=some (.frz o' u)->o'=ob)(new:∀(H':Hp),Ext ρ ρ H H'->H' a=some (.frz ob u)->OR K ρ H' a o') :
  Ext ρ ρ H (upd H a<|.frz ob u)/\Rel K ρ (upd H a<|.frz ob u) (S.set n o'):=by
 have ex:Ext ρ ρ H (upd H a<|.frz ob u):=by
  rcases J with J|⟨o',J⟩
  ·exact⟨⟨eT _,λb f i h=>by
    have:b≠a:=by
     intro z;subst z;rw[J]at h;cases h;exact U i
    rw[j7 this];exact h⟩,λb f h nb=>by
    rw[j7 λz=>nb<|by rw[z];exact aX ha];exact h,λ_ h=>.inl h⟩
  ·have g:=fr o' J;subst g;rw[Sl J];exact .refl
 refine⟨ex,by rw[cE];exact R.len,R.nd,λm b o h1 h2=>?_⟩;by_cases U:m=n
 ·subst U;rw[ha]at h1;cases h1;rw[bO hn]at h2
  cases h2
  exact new _ ex kZ
 ·rw[bM<|di U]at h2;have nb:b≠a:=λz=>by
   subst z;obtain⟨k,e1⟩:=aF.mp ha;obtain⟨p,e2⟩:=aF.mp h1;exact U<|(cZ R.nd).mp<|e2.trans e1.symm
  have:=R.at m b o h1 h2
  cases o with
  | lst ys=>obtain⟨c,d,q⟩:=this;exact⟨c,by rw[j7 nb];exact d,q.ext ex⟩
  | dct _|nX _|dks _|dcp _=>obtain⟨c,d,q⟩:=this;exact⟨c,by rw[j7 nb];exact d,q.ext ex⟩
  | dcf _|dkf _=>obtain⟨e,c,d,q⟩:=this;exact⟨e,c,by rw[j7 nb];exact d,q.ext ex⟩
  | ins _ _=>obtain⟨e,j,d⟩:=this;exact⟨e,j,by rw[j7 nb];exact d⟩
def Cg{n:Nat}(h:kH S n=some kvs):n<S.length:=by
 rcases gB n S.length with z|z
 ·exact z
 ·unfold kH at h;rw[b9 z]at h;cases h
def Py{n:Nat}(h:mq S n=some kvs):n<S.length:=by
 rcases gB n S.length with z|z
 ·exact z
 ·unfold mq at h;rw[b9 z]at h;cases h
end
section
variable {X:Cx}{pos:Pos}{a b:aA}
abbrev CD (x y:A)(S:jT):R A:=match x,y with
 | .ref n,.int k=>opt (kH S n) λc=>opt (l_ c k) λv=>.ok v S
 | _,_=>.no
def NF{x:A}{P:A->jT->Prop}{E:Str->jT->Prop}(h:(CD x y S).post P E):∃n k kvs v,x=.ref n/\y=.int k/\kH S n=some kvs/\l_ kvs k=some v/\P v S:=by
 unfold CD at h;split at h
 ·obtain⟨kvs,h1,h⟩:=jV h;obtain⟨v,h2,h⟩:=jV h;exact⟨_,_,kvs,v,rfl,rfl,h1,h2,h⟩
 ·exact h.elim
def ab4(J:X.A.units+64<cLine):UY X (r2 X CD):=λf c pins s σ H x y v u Q I rx ry ⟨ρ,S,a,b,R,va,vb,h⟩ hs=>by
 obtain⟨n,k,j,z,q,B,hn,C,hP⟩:=NF h;subst q B
 cases vb
 cases va with
 | @ref p _ m=>
  obtain⟨ks,e,d⟩:=yx R m hn;obtain⟨w,hw,F⟩:=(d.look k).2 z C;have g:t8 H p (kV<|Sum.inl k) (pY ks<|Sum.inl k):=.inl ⟨ks,Sum.inl k,e,rfl,rfl⟩;rw[hw]at g;exact AD () f c pins s σ H _ _ v u Q I rx ry ⟨p,w,rfl,g,hP _ _ _ .refl R F⟩ hs
def Ey(J:X.A.units+64<cLine){ca cb:Ex}(U:AE X a ca)(hb:AE X b cb)(hs:wj b<|>μ):AE X (.Subscript a b pos) (j6 CD ca cb):=PE.imp (G7 (ab4 J) U hb hs) λσ H Q h=>sC h
abbrev dr? (a:A)(S:jT):Option Unit:=match a with
 | .ref n=>if ((kH S n).isSome || (mq S n).isSome)=true then some Unit.unit else none
 | _=>none
abbrev zU (f:A->ae->jT->R A)(co:Ex)(d:qQ):Ex:=λτ S=>(co τ S).bind λx S1=>opt (dr? x S1) λ_=>(d τ S1).bind λas S2=>f x as S2
def AB{f:A->ae->jT->R A}{co:Ex}{d:qQ}:zU f co d τ S=(co τ S).bind λx S1=>opt (dr? x S1) λ_=>(d τ S1).bind λas S2=>f x as S2:=rfl
def dr?_ty{K:au}{H:Hp}{x:A}{v:V}(R:Rel K ρ H S)(a:AV K ρ H x v)(e:dr? x S=some u):∃a,v=.ref a/\IsD H a:=by
 cases a with
 | @ref p n h=>
  refine⟨p,rfl,?_⟩
  cases h1:kH S n with
  | some c=>obtain⟨ks,e,_⟩:=yx R h h1;exact .inl ⟨ks,e⟩
  | none=>
   cases h2:mq S n with
   | some c=>obtain⟨ks,e,_⟩:=FO R h h2;exact .inr ⟨ks,e⟩
   | none=>
    have e:(if ((kH S n).isSome || (mq S n).isSome)=true then some Unit.unit else none)=some u:=e;rw[h1,h2]at e;cases e
 | _=>cases e
theorem Ba{e:aA}{id:String}{apos cpos:Pos}{f:A->ae->jT->R A}{co:Ex}{d:qQ}(slot:Slot "dict" name id)(hty:typeOf (.builtin id)=pure (.type "method_descriptor"))(hm:Ja X id<|rM X f)(ho:AE X o co)(ha:AL X (e::es) d)
  (U:attributeBase o name X.env (eval o X.env)=eval o X.env<|>η)
  (hfew:(((backTo cpos<|starEach (e::es) X.env).all (λx=>!x.1) && (backToKw cpos<|keywordEach [] X.env).all (λx=>x.1.isSome)
   && decide ((e::es).length+([]:List Keyword).length+(if ([]:List Keyword).isEmpty then 0 else 1)<30))=true)<|>η)
  (hline:(apos.endLine == cpos.line)=true<|>η) (hs:starEach (e::es) X.env=(false,eval e X.env)::starEach es X.env<|>η) (J:((backTo cpos<|starEach es X.env).any (·.1)=false)<|>η) :
  AE X (.Call (.Attribute o name apos) (e::es) [] cpos) (zU f co d):=PE.imp (adh Zg gW slot hty hm ho ha U hfew hline hs J) λσ H Q h9=>by
 room;kcj_m;obtain⟨xs,c,h1⟩:=jV h1;refine⟨dr?_ty R1 v1 c,ρ1,S1,τ,R1,r.ext e1,jW (j3 h1) e1 λas S2 h2 ρ2 H2 g e2 R2 v2=>?_⟩;kpc_g
abbrev uQ (o:A)(as:ae)(S:jT):R A:=match o,as with
 | .ref n,[.int k,y]=>opt (kH S n) λc=>.ok ((l_ c k).getD y) S
 | _,_=>.no
def JI{x:A}{P:A->jT->Prop}{E:Str->jT->Prop}(h:(uQ x as S).post P E):∃n k y kvs,x=.ref n/\as=[.int k,y]/\kH S n=some kvs/\P ((l_ kvs k).getD y) S:=by
 unfold uQ at h;split at h
 ·obtain⟨kvs,h1,h⟩:=jV h;exact⟨_,_,_,kvs,rfl,rfl,h1,h⟩
 ·exact h.elim
def Jz(U:X.A.units+64<cLine):Ja X "dict.get" (rM X uQ):=λpins s σ H x K v us Q I rx q h9=>by
 kl_no;obtain⟨n,k,y,c,C,has,hn,hP⟩:=JI h;subst C has;obtain⟨M,P,rfl,B,g⟩:=UJ va
 cases B
 cases vo with
 | @ref p _ f=>
  obtain⟨ks,h1,G⟩:=yx R f hn
  cases rx
  obtain⟨O,L,rfl,r1,r2⟩:=vals2 q;refine IQ () I (.inl ⟨ks,Sum.inl k,h1,rfl,rfl⟩) r1 r2 λN s' j e=>⟨_,H,j,e,hP _ _ _ .refl R ?_⟩;obtain⟨d,m⟩:=G.look k
  cases e1:l_ c k with
  | none=>
   rw[e1]at d
   cases e2:pY ks (Sum.inl k:Key)with
   | none=>exact g
   | some _=>rw[e2]at d;cases d
  | some F=>
   obtain⟨v1,e2,J⟩:=m F e1;rw[e2];exact J
abbrev xX (o:A)(as:ae)(S:jT):R A:=match o,as with
 | .ref n,[.tup xs,y]=>opt (mq S n) λc=>opt (A.ints xs) λk=>.ok ((lg c k).getD y) S
 | _,_=>.no
def JH{x:A}{P:A->jT->Prop}{E:Str->jT->Prop}(h:(xX x as S).post P E):∃n xs y kvs k,x=.ref n/\as=[.tup xs,y]/\mq S n=some kvs/\A.ints xs=some k/\P ((lg kvs k).getD y) S:=by
 unfold xX at h;split at h
 ·obtain⟨kvs,h1,h⟩:=jV h;obtain⟨k,h2,h⟩:=jV h;exact⟨_,_,_,kvs,k,rfl,rfl,h1,h2,h⟩
 ·exact h.elim
def Pu(hu:X.A.units+64<cLine):Ja X "dict.get" (rM X xX):=λpins s σ H x P v us Q I rx J h9=>by
 kl_no;obtain⟨n,xs,y,c,k,L,has,hn,j,hP⟩:=JH h;subst L has;obtain⟨U,Z,rfl,K,C⟩:=UJ va
 cases K with
 | @tup q _ W B m=>
 cases vo with
 | @ref p _ f=>
  obtain⟨ks,N,g⟩:=GV R f hn B m j
  cases rx
  obtain⟨Y,T,rfl,r1,r2⟩:=vals2 J;refine IQ () I g r1 r2 λV s' F e=>⟨_,H,F,e,hP _ _ _ .refl R ?_⟩;obtain⟨d,G⟩:=N.look k
  cases e1:lg c k with
  | none=>
   rw[e1]at d
   cases e2:pY ks (k.map Sum.inl)with
   | none=>exact C
   | some _=>rw[e2]at d;cases d
  | some M=>
   obtain⟨v1,e2,O⟩:=G M e1;rw[e2];exact O
abbrev aeH (a:A)(S:jT):R Src:=match a with
 | .ref n=>opt (mq S n) λc=>.ok (pQ<|c.map keA) (S.set n<|.dcf c)
 | _=>.no
abbrev Nx (c:Ex):Ic:=λτ S=>(c τ S).bind λa S1=>aeH a S1
def BJ{e:aA}{c:Ex}(ha:AE X e c):AI X tg e (Nx c):=λpins s σ H Q I h9=>by
 room;refine Hw ha pins s σ H Q I ⟨ρ,S,τ,R,r,jW (j3 h) .refl λx S1 h1 ρ1 H1 v e1 R1 v1=>?_⟩
 cases v1 with
 | @ref p n m=>
  obtain⟨d,hn,h1⟩:=jV h1;obtain⟨ks,J,k⟩:=FO R1 m hn;refine⟨p,.dT ks,rfl,.inl ⟨ks,rfl⟩,J,λo xs M L=>?_⟩;obtain⟨f,rfl,pl,j⟩:=L;obtain⟨ex,R2⟩:=R1.stl (o':=.dcf d) m (Py hn) J (λz=>z) M λH' e O=>⟨o,ks,O,k.ext e⟩;have dl:=k.length;refine h1 ρ1 _ _ (e1.trans ex) R2 ⟨λi S2 H2 ρ2 y e2 R3 g=>?_,λS2 H2 ρ2 e2 R3 _=>⟨?_,e2.im _ _ trivial kZ⟩⟩
  ·have g:(d.map keA)[i]?=some y:=g;rw[aQ]at g;obtain⟨kv,N,rfl⟩:=aY.mp g;obtain⟨q,G,K,U⟩:=Xy k N;have hi:i<f.length:=by rw[pl];exact(aF.mp G).1
   have P:=j i f[i] q (aE hi) G;have F:(f.map V.ref)[i]?=some (.ref f[i]):=by rw[aQ,aE hi];rfl
   refine⟨⟨⟨.ref f[i],F⟩,e2.im _ _ trivial kZ⟩,λW H' T=>?_⟩;obtain⟨rfl,B⟩:=T;rw[F]at B
   cases B
   have C:H' f[i]=some (.tup<|q.1.map kV):=e2.im _ _ trivial<|ex.toExt0.im _ _ trivial P;rw[K,Af]at C;exact⟨.refl,R3,.tup C<|qh _⟩
  ·show(d.map keA).length=(f.map V.ref).length;rw[aG,aG,dl,pl]
 | _=>exact h1.elim
abbrev ikA (p:Int×A):A:=.int p.1
abbrev ad9 (a:A)(S:jT):R Src:=match a with
 | .ref n=>opt (kH S n) λc=>.ok (pQ<|c.map ikA) (S.set n<|.dkf c)
 | _=>.no
abbrev QZ (c:Ex):Ic:=λτ S=>(c τ S).bind λa S1=>ad9 a S1
theorem Xo{K:au}{H:Hp}:∀{kvs:List<|Int×A}{ks:List<|Key×V}{i:Nat}{p:Int×A},DI K ρ H kvs ks->kvs[i]?=some p->∃q,ks[i]?=some q/\q.1=Sum.inl p.1
 | [],[],_,_,_,h=>by cases h
 | a::kvs,b::ks,0,p,⟨z,_⟩,h=>by cases h;exact⟨b,rfl,z.1⟩
 | a::kvs,b::ks,i+1,p,⟨_,t⟩,h=>Xo (kvs:=kvs) (ks:=ks) (i:=i) t<|by simpa using h
def Gv{e:aA}{c:Ex}(U:AE X e c):AI X tg e (QZ c):=λpins s σ H Q I h9=>by
 room;refine Hw U pins s σ H Q I ⟨ρ,S,τ,R,r,jW (j3 h) .refl λx S1 h1 ρ1 H1 v e1 R1 v1=>?_⟩
 cases v1 with
 | @ref p n k=>
  obtain⟨d,hn,h1⟩:=jV h1;obtain⟨ks,C,j⟩:=yx R1 k hn;refine⟨p,.dK ks,rfl,.inr ⟨ks,rfl⟩,C,λo xs G f=>?_⟩;obtain⟨ex,R2⟩:=R1.stl (o':=.dkf d) k (Cg hn) C (λz=>z) G λH' e L=>⟨o,ks,L,j.ext e⟩;have dl:=j.length;have f:xs=ks.map λp=>kV p.1:=f;refine h1 ρ1 _ _ (e1.trans ex) R2 ⟨λi S2 H2 ρ2 y e2 R3 g=>?_,λS2 H2 ρ2 e2 R3 _=>⟨?_,e2.im _ _ trivial kZ⟩⟩
  ·have g:(d.map ikA)[i]?=some y:=g;rw[aQ]at g;obtain⟨kv,J,rfl⟩:=aY.mp g;obtain⟨q,K,F⟩:=Xo j J;have B:xs[i]?=some (.int kv.1):=by rw[f,aQ,K];show some (kV q.1)=_;rw[F];rfl
   refine⟨⟨⟨_,B⟩,e2.im _ _ trivial kZ⟩,λN H' M=>?_⟩;obtain⟨rfl,m⟩:=M;rw[B]at m
   cases m
   exact⟨.refl,R3,.int _⟩
  ·show(d.map ikA).length=xs.length;rw[f,aG,aG,dl]
 | _=>exact h1.elim
abbrev TM (x y:A)(S:jT):R A:=match x,y with
 | .ref n,.ref m=>opt (kH S n) λc=>opt (kQ S m) λd=>gd (d.isEmpty=true) (.ok (.bl<|!c.isEmpty) S)
 | _,_=>.no
def N4{x:A}{P:A->jT->Prop}{E:Str->jT->Prop}(h:(TM x y S).post P E):∃n m kvs,x=.ref n/\y=.ref m/\kH S n=some kvs/\kQ S m=some []/\P (.bl<|!kvs.isEmpty) S:=by
 unfold TM at h;split at h
 ·obtain⟨kvs,h1,h⟩:=jV h;obtain⟨c,h2,h⟩:=jV h;obtain⟨h3,h⟩:=ko h;rw[List.isEmpty_iff.mp h3]at h2;exact⟨_,_,kvs,rfl,rfl,h1,h2,h⟩
 ·exact h.elim
def abB(J:X.A.units+64<cLine):pR X (compareOp .NotEq) (r2 X TM):=λpins s σ H x y v u Q I rx ry h9=>by
 z_go;obtain⟨n,m,c,k,B,hn,g,hP⟩:=N4 h;subst k B
 cases va with
 | @ref p _ f=>
 cases vb with
 | @ref q _ j=>
  obtain⟨ks,h1,C⟩:=yx R f hn;obtain⟨d,h2,e⟩:=R.nX j<|mK g;have e2:d=[]:=by
   have:=e.length;exact iR this.symm
  subst e2;have e3:c.isEmpty=ks.isEmpty:=by
   have:=C.length
   cases c<;>cases ks<;>first|rfl|(simp at this)
  rw[e3]at hP;exact Y8 () pins s σ H _ _ v u Q I rx ry ⟨p,q,ks,rfl,rfl,h1,h2,hP _ _ _ .refl R<|.bl _⟩
def Rel.abS{K:au}{H:Hp}{S:jT}{D:ak}(R:Rel K ρ H S)(J:H D=some (.dK us))(hn:D∉ρ)(r:DI K ρ H xs vs):Ext0 ρ (ρ++[D]) H (upd H D<|.dK vs)/\Rel K (ρ++[D]) (upd H D<|.dK vs) (S++[.nX xs])/\(ρ++[D])[S.length]?=some D:=by
 have ex:Ext0 ρ (ρ++[D]) H (upd H D<|.dK vs):=⟨eV _ _,λb u i h=>by
  have:b≠D:=by
   intro z;subst z;rw[J]at h;cases h;exact i
  rw[j7 this];exact h⟩
 have c:(ρ++[D])[S.length]?=some D:=by rw[<- R.len];simp
 refine⟨ex,⟨by simp[R.len],?_,λn a o h1 h2=>?_⟩,c⟩
 ·rw[cO];refine⟨R.nd,by simp,λa k b g e=>?_⟩;have:b=D:=by simpa using g
  exact hn<|by rw[<- this,<- e];exact k
 ·by_cases hs:n<S.length
  ·rw[bE<|by rw[R.len];exact hs]at h1;rw[bE hs]at h2;have na:a≠D:=λz=>hn (by rw[<- z];exact aX h1);have:=R.at n a o h1 h2
   cases o with
   | lst ys=>obtain⟨d,e,q⟩:=this;exact⟨d,by rw[j7 na];exact e,AVs.mE ex q⟩
   | dct _|nX _|dks _|dcp _=>obtain⟨d,e,q⟩:=this;exact⟨d,by rw[j7 na];exact e,q.mE ex⟩
   | dcf _|dkf _=>obtain⟨f,d,e,q⟩:=this;exact⟨f,d,by rw[j7 na];exact e,q.mE ex⟩
   | ins _ _=>obtain⟨f,j,e⟩:=this;exact⟨f,j,by rw[j7 na];exact e⟩
  ·have e:n=S.length:=by
    have:=(aF.mp h2).1;simp at this
    lia
   subst e;rw[c]at h1
   cases h1
   simp at h2;subst h2;exact⟨vs,kZ,r.mE ex⟩
abbrev aa6 (J cv:Ex):Ex:=λτ S=>(J τ S).bind λk S1=>(cv τ S1).bind λv S2=>match k with
 | .int i=>.ok (.ref S2.length) (S2++[.nX [(i,v)]])
 | _=>.no
abbrev U6 (J cv cl U:Ex):Ex:=λτ S=>(J τ S).bind λk S1=>(cv τ S1).bind λv S2=>(cl τ S2).bind λl S3=>(U τ S3).bind λw c=>match k,l with
 | .int i,.int j=>.ok (.ref c.length) (c++[.nX<|sZ [(i,v)] j w])
 | _,_=>.no
def W8{J cv cl U:Ex}:U6 J cv cl U τ S=(J τ S).bind λk S1=>(cv τ S1).bind λv S2=>(cl τ S2).bind λl S3=>(U τ S3).bind λw S4=>match k,l with
 | .int i,.int j=>.ok (.ref S4.length) (S4++[.nX<|sZ [(i,v)] j w])
 | _,_=>.no:=rfl
def HH{H H2:Hp}{S:jT}{p:ak}{Q:VK}(J:H p=none)(e:Ext ρ ρ2 (upd H p<|.dK []) H2)(e0:Ext ρ ρ H<|upd H p<|.dK [])(U:p∉ρ)(R2:Rel X.K ρ2 H2 S)(r:DI X.K ρ2 H2 xs vs)
  (h:∀ρ' H' v,Ext ρ ρ' H H'->Rel X.K ρ' H' (S++[.nX xs])->AV X.K ρ' H' (.ref S.length) v->Q v H'):H2 p=some (.dK [])/\Q (.ref p) (upd H2 p<|.dK vs):=by
 have d:H2 p=some (.dK []):=e.fr p _ kZ U;have f:p∉ρ2:=λg=>(e.nw p g).elim U λz=>by rw[kZ]at z;cases z
 refine⟨d,?_⟩;obtain⟨e3,R3,k⟩:=R2.abS d f r;refine h _ _ _ ⟨⟨(e0.trans e).pre.trans e3.pre,λc u i hc=>e3.im c u i<|(e0.trans e).im c u i hc⟩,λc u hc j=>?_,λc hc=>?_⟩ R3 (.ref k)
 ·rw[j7<|kF hc J];exact(e0.trans e).fr c u hc j
 ·rcases br.mp hc with z|z
  ·exact(e0.trans e).nw c z
  ·have:c=p:=by simpa using z
   rw[this];exact .inr J
def ZA{k v:aA}{J cv:Ex}(U:AE X k J)(hv:AE X v cv):AE X (.Dict [some k] [v] pos) (aa6 J cv):=PE.imp (Ld (BQ U hv Mz) rfl rfl (by simp)<|show 1<=15 by decide) λσ H Q ⟨ρ,S,τ,R,r,h⟩ p c=>by
 obtain⟨e0,f⟩:=R.im (u:=.dK []) c;have g:p∉ρ:=R.Gq c;refine⟨ρ,S,τ,f,r.ext e0,jW (j3 h) e0 λa S1 h1 ρ1 H1 x e1 R1 v1=>⟨ρ1,S1,τ,R1,(r.ext e0).ext e1,jW (j3 h1) (e0.trans e1) λb S2 h2 ρ2 H2 y e2 R2 v2=>?_⟩⟩;have d:=e1.trans e2
 cases v1.ext e2 with
 | int i=>
  obtain⟨e,j⟩:=HH (xs:=[(i,b)]) (vs:=[(Sum.inl i,y)]) c d e0 g R2 ⟨⟨rfl,v2⟩,trivial⟩ h2;exact⟨e,[(Sum.inl i,y)],rfl,(show 1<=15 by decide),j⟩
 | _=>exact h2.elim
def ZX{k v l w:aA}{U cv cl cw:Ex}(hk:AE X k U)(hv:AE X v cv)(hl:AE X l cl)(hw:AE X w cw):AE X (.Dict [some k,some l] [v,w] pos) (U6 U cv cl cw):=PE.imp (Ld (BQ hk hv<|BQ hl hw Mz) rfl rfl (by simp)<|show 2<=15 by decide) λσ H Q ⟨ρ,S,τ,R,r,h⟩ p g=>by
 obtain⟨e0,G⟩:=R.im (u:=.dK []) g;have L:p∉ρ:=R.Gq g;refine⟨ρ,S,τ,G,r.ext e0,jW (j3 h) e0 λa S1 h1 ρ1 H1 x e1 R1 v1=>⟨ρ1,S1,τ,R1,(r.ext e0).ext e1,jW (j3 h1) (e0.trans e1) λb S2 h2 ρ2 H2 y e2 R2 v2=>?_⟩⟩;have e:=e1.trans e2;refine⟨ρ2,S2,τ,R2,(r.ext e0).ext e,jW (j3 h2) (e0.trans e) λc S3 h3 ρ3 H3 T e3 R3 J=>⟨ρ3,S3,τ,R3,((r.ext e0).ext e).ext e3,jW (j3 h3) ((e0.trans e).trans e3) λd P m N O B q F K=>?_⟩⟩;have f:=e3.trans q
 cases v1.ext (e2.trans f)with
 | int i=>
  cases J.ext q with
  | int j=>
   obtain⟨C,M⟩:=HH (xs:=sZ [(i,b)] j d) (vs:=putK [(Sum.inl i,y)] (Sum.inl j) B) g (e.trans f) e0 L F (DI.put K j ⟨⟨rfl,v2.ext f⟩,trivial⟩) m;exact⟨C,[(Sum.inl i,y),(Sum.inl j,B)],rfl,(show 2<=15 by decide),M⟩
  | _=>exact m.elim
 | _=>exact m.elim
end
end Am
namespace K42
open PySem L2 Am
abbrev top (i:Nat):aC:=PySem.Challenge.pw_undercells_k42_leads.main.body.getD i<|.Pass ⟨0,0,0,0⟩
meta abbrev xj:aC:=top 6
meta abbrev xK:ar:=["thing"]
meta abbrev wU:ar:=["thing"]
abbrev w_:Sm:=
 mS (GF (kG (f2 OE)<|jQ (jR 0)<|jQ (eC<|.ty "int") j5)<|W5<|kG (f2 OE)<|jQ (jR 0)<|jQ (eC<|.ty "bool") j5)
abbrev qZ:ae->jT->R A:=lZ xK w_
meta abbrev vf:aC:=top 7
meta abbrev vU:ar:=["one", "other"]
meta abbrev sA:ar:=["one", "other"]
abbrev uY:Sm:=
 zY (uf<|j6 (yN true) (kG (f1 q_)<|jQ (jR 0) j5)<|kG (f1 q_)<|jQ (jR 1) j5)
 (sNo)
 rR
abbrev nK:ae->jT->R A:=lZ vU uY
meta abbrev sS:aC:=top 8
meta abbrev sM:ar:=["n", "thing"]
meta abbrev sG:ar:=["n", "thing"]
abbrev sV:Sm:=
 mS (GF (eFn qZ<|jQ (jR 1) j5)<|eCh aLe aLt (eC<|.int 1) (jR 1)<|jR 0)
abbrev n9:ae->jT->R A:=lZ sM sV
meta abbrev oQ:aC:=top 9
meta abbrev oN:ar:=["order", "i", "j", "things"]
meta abbrev oK:ar:=["order", "i", "j"]
abbrev oR:Sm:=
 kD (kR (kG (f1 zL)<|jQ (jR 0) j5)<|kY 3)
 (kD (kR (wJ<|jQ (j6 tu (jR 3)<|j6 aSub (jR 2)<|eC<|.int 1)<|jQ (j6 tu (jR 3)<|j6 aSub (jR 1)<|eC<|.int 1) j5)<|Iw 2<|yM (gSb (jR 3)<|j6 aSub (jR 1)<|eC<|.int 1)<|yM (gSb (jR 3)<|j6 aSub (jR 2)<|eC<|.int 1) JK)
 (mS<|kG (f1 sJ)<|jQ (jR 3) j5))
abbrev mj:ae->jT->R A:=lZ oN oR
meta abbrev uO:aC:=top 10
meta abbrev vn:ar:=["order", "k"]
meta abbrev su:ar:=["order", "k"]
abbrev vp:Sm:=
 kD (zY (VN<|zW<|eFn n9<|jQ (kG (f1 q_)<|jQ (jR 0) j5)<|jQ (jR 1) j5)
 (sNo)
 rR)
 (mS<|eFn mj<|jQ (jR 0)<|jQ (jR 1)<|jQ (j6 mF (jR 1)<|eC<|.int 1) j5)
abbrev nI:ae->jT->R A:=lZ vn vp
meta abbrev Ej:aC:=top 11
meta abbrev D8:ar:=["order"]
meta abbrev we:ar:=["order"]
abbrev DX:Sm:=
 mS (mR [none,some 0] (qI (eC<|.int 1)<|kG (f1 q_)<|jQ (jR 0) j5) (kY 0) (uf<|j6 Ib (j6 tu (jR 1)<|j6 aSub (jR 0)<|eC<|.int 1)<|j6 tu (jR 1)<|jR 0)<|jR 0)
abbrev qe:ae->jT->R A:=lZ D8 DX
meta abbrev qD:aC:=top 13
meta abbrev qx:ar:=["numbers"]
meta abbrev oB:ar:=["numbers"]
abbrev qE:Sm:=
 mS (mR [none,some 0] (pV<|kG (f1 BW)<|jQ (jR 0) j5) (kY 0) (uf<|j6 (yN true) (j6 B6 (jR 1)<|jR 0)<|eC<|.int 0)<|wJ<|jQ (jR 0)<|jQ (j6 B6 (jR 1)<|jR 0) j5)
abbrev lQ:ae->jT->R A:=lZ qx qE
meta abbrev JT:aC:=top 14
meta abbrev JM:ar:=["one", "other", "numbers", "power", "number"]
meta abbrev JS:ar:=["one", "other"]
abbrev yh:Ic:=
 pV (jR 1)
abbrev HZ:Sm:=
 kR (j6 mF (GP wQ (jR 2)<|jQ (jR 3)<|jQ (eC<|.int 0) j5)<|jR 4) (Ga (jR 2)<|jR 3)
abbrev Jm:Sm:=
 kD (kR (kG (f1 EG)<|jQ (jR 0) j5)<|kY 2)
 (kD (mw yh (Iw 2<|yM (kY 3)<|yM (kY 4) JK)
 HZ)
 (mS<|eFn lQ<|jQ (jR 2) j5))
abbrev Bg:ae->jT->R A:=lZ JM Jm
meta abbrev Fd:aC:=top 15
meta abbrev FT:ar:=["one", "other", "numbers", "power", "number", "high", "many"]
meta abbrev Ad:ar:=["one", "other"]
abbrev NT:Ic:=
 pV (jR 1)
abbrev Ny:Sm:=
 kR (j6 mF (GP wQ (jR 2)<|jQ (j6 mF (jR 3)<|jR 5)<|jQ (eC<|.int 0) j5)<|j6 GY (jR 4)<|jR 6) (Ga (jR 2)<|j6 mF (jR 3)<|jR 5)
abbrev Dh:Ic:=
 pV (jR 0)
abbrev DC:Sm:=
 mw NT (Iw 2<|yM (kY 5)<|yM (kY 6) JK)
 Ny
abbrev Ek:Sm:=
 kD (kR uK<|kY 2)
 (kD (mw Dh (Iw 2<|yM (kY 3)<|yM (kY 4) JK)
 DC)
 (mS<|eFn lQ<|jQ (jR 2) j5))
abbrev uh:ae->jT->R A:=lZ FT Ek
meta abbrev tV:aC:=top 18
meta abbrev uc:ar:=["found", "order", "poly"]
meta abbrev pP:ar:=["found", "order", "poly"]
abbrev uB:Sm:=
 kR (eFn Bg<|jQ (WB Sk (jR 0)<|jQ (jR 1)<|jQ (uF j5) j5)<|jQ (jR 2) j5) (Co (jR 0)<|jR 1)
abbrev lA:ae->jT->R A:=lZ uc uB
meta abbrev Bs:aC:=top 19
meta abbrev Cc:ar:=["found"]
meta abbrev vd:ar:=["found"]
abbrev BL:Sm:=
 mS (mR [none,some 0] (pV<|kG (f1 E_)<|jQ (jR 0) j5) (kY 0) (zW<|j6 zZ (jR 1)<|jR 0)<|wJ<|jQ (jR 0)<|jQ (j6 zZ (jR 1)<|jR 0) j5)
abbrev pH:ae->jT->R A:=lZ Cc BL
meta abbrev vV:aC:=top 20
meta abbrev vq:ar:=["one", "other"]
meta abbrev uN:ar:=["one", "other"]
abbrev u_:Sm:=
 zY (HM (zW<|jR 0)<|zW<|jR 1)
 (pI<|eFn nK<|jQ (j6 tu (j6 tu (jR 0)<|eC<|.int 0)<|eC<|.int 0)<|jQ (j6 tu (j6 tu (jR 1)<|eC<|.int 0)<|eC<|.int 0) j5)
 rR
abbrev qg:ae->jT->R A:=lZ vq u_
meta abbrev FL:aC:=top 21
meta abbrev E8:ar:=["one", "other", "found", "order", "poly"]
meta abbrev ET:ar:=["one", "other"]
abbrev wA:Ic:=
 pV (j6 mF (jR 0)<|jR 1)
abbrev Dt:Sm:=
 pI (eFn lA<|jQ (jR 2)<|jQ (jR 3)<|jQ (jR 4) j5)
abbrev FP:Sm:=
 kD (pI<|eFn qg<|jQ (jR 0)<|jQ (jR 1) j5)
 (kD (kR vG<|kY 2)
 (kD (mw wA (Iw 2<|yM (kY 3)<|yM (kY 4) JK)
 Dt)
 (mS<|eFn pH<|jQ (jR 2) j5)))
abbrev uA:ae->jT->R A:=lZ E8 FP
meta abbrev Ci:aC:=top 22
meta abbrev BK:ar:=["poly", "one", "found", "order", "many"]
meta abbrev A9:ar:=["poly", "one"]
abbrev t9:Ic:=
 pV (jR 1)
abbrev ud:Sm:=
 pI (eFn lA<|jQ (jR 2)<|jQ (jR 3)<|jQ (eFn uh<|jQ (jR 0)<|jQ (jR 4) j5) j5)
abbrev BU:Sm:=
 kD (kR vG<|kY 2)
 (kD (mw t9 (Iw 2<|yM (kY 3)<|yM (kY 4) JK)
 ud)
 (mS<|eFn pH<|jQ (jR 2) j5))
abbrev rC:ae->jT->R A:=lZ BK BU
meta abbrev sW:aC:=top 23
meta abbrev sO:ar:=["one", "k", "found", "order", "poly"]
meta abbrev sP:ar:=["one", "k"]
abbrev oA:Ic:=
 pV (jR 0)
abbrev m9:Sm:=
 kD (pI<|eFn lA<|jQ (jR 2)<|jQ (eFn nI<|jQ (jR 3)<|jQ (jR 1) j5)<|jQ (jR 4) j5)
 (zY (uf<|j6 (RK false) (jR 1)<|eFn qe<|jQ (jR 3) j5)
 (pI<|eFn lA<|jQ (jR 2)<|jQ (jR 3)<|jQ (eFn uh<|jQ (kG (f1 zL)<|jQ (eC<|.frz<|[((-1:Int),(1:Int)),((1:Int),(-1:Int))].map kA) j5)<|jQ (jR 4) j5) j5)
 rR)
abbrev sI:Sm:=
 kD (kR vG<|kY 2)
 (kD (mw oA (Iw 2<|yM (kY 3)<|yM (kY 4) JK)
 m9)
 (mS<|eFn pH<|jQ (jR 2) j5))
abbrev ni:ae->jT->R A:=lZ sO sI
meta abbrev xr:aC:=top 26
meta abbrev wW:ar:=["order"]
meta abbrev xF:ar:=["order"]
abbrev xB:Sm:=
 zY (uf<|j6 Ib (kG (f1 q_)<|jQ (jR 0) j5)<|eC<|.int 5)
 (sNo)
 rR
abbrev rH:ae->jT->R A:=lZ wW xB
meta abbrev qB:aC:=top 27
meta abbrev qw:ar:=["poly"]
meta abbrev oH:ar:=["poly"]
abbrev qC:Sm:=
 mS (GP wQ (kG (f1 EG)<|jQ (jR 0) j5)<|jQ (eC<|.int 1)<|jQ (eC<|.int 0) j5)
abbrev lN:ae->jT->R A:=lZ qw qC
meta abbrev rG:aC:=top 29
meta abbrev lC:ar:=["order", "k", "known", "less", "told", "lower", "poly", "number"]
meta abbrev nL:ar:=["order", "k", "known"]
abbrev p7 (Fs:ae->jT->R A):Ic:=
 pV (jR 3)
abbrev nQ (Fs:ae->jT->R A):Sm:=
 kD (kR (eFn lN<|jQ (jR 6) j5)<|kY 7)
 (zY (HM (uf<|j6 (yN true) (jR 7)<|eC<|.int 0)<|uf<|j6 (RK false) (jR 1)<|eFn qe<|jQ (jR 5) j5)
 (kR (eFn uA<|jQ (jR 4)<|jQ (eFn rC<|jQ (uF<|jQ (wJ<|jQ (eC<|.int 0)<|jQ (Pc Cv<|jR 7) j5) j5)<|jQ (eFn Fs<|jQ (jR 5)<|jQ (jR 2) j5) j5) j5)<|kY 4)
 rR)
abbrev lH (Fs:ae->jT->R A):Sm:=
 kD (kR (eFn Fs<|jQ (eFn nI<|jQ (jR 0)<|jQ (jR 1) j5)<|jQ (jR 2) j5)<|kY 3)
 (kD (kR (eFn uA<|jQ (eFn ni<|jQ (jR 3)<|jQ (jR 1) j5)<|jQ (eFn rC<|jQ (uF<|jQ (wJ<|jQ (eC<|.int 1)<|jQ (eC<|.int 1) j5) j5)<|jQ (jR 3) j5) j5)<|kY 4)
 (kD (mw (p7 Fs) (Iw 2<|yM (kY 5)<|yM (kY 6) JK)
 (nQ Fs))
 (mS<|jR 4)))
meta abbrev qK:aC:=top 28
meta abbrev pL:ar:=["order", "known", "ends"]
meta abbrev mG:ar:=["order", "known"]
abbrev o9 (Fs:ae->jT->R A):Sm:=
 kD (zY (uf<|j6 (Iz true) (jR 0)<|jR 1)
 (kD (kR (eFn qe<|jQ (jR 0) j5)<|kY 2)
 (zY (zW<|jR 2)
 (kR (eFn (lZ lC<|lH Fs)<|jQ (jR 0)<|jQ (j6 tu (jR 2)<|eC<|.int 0)<|jQ (jR 1) j5)<|Co (jR 1)<|jR 0)
 (kR (uF<|jQ (wJ<|jQ (jR 0)<|jQ (uF<|jQ (wJ<|jQ (eC<|.int 0)<|jQ (eC<|.int 1) j5) j5) j5) j5)<|Co (jR 1)<|jR 0)))
 rR)
 (mS<|j6 zZ (jR 1)<|jR 0)
abbrev m_:Nat->ae->jT->R A
 | 0=>λ_ _=>.no
 | k+1=>lZ pL<|o9<|m_ k
abbrev tW:ae->jT->R A:=m_ 12
meta abbrev Jt:aC:=top 30
meta abbrev Il:ar:=["one", "other"]
meta abbrev J0:ar:=["one", "other"]
abbrev JY:Sm:=
 kD (pI<|eFn nK<|jQ (jR 0)<|jQ (jR 1) j5)
 (kD (pI<|eFn rH<|jQ (jR 1) j5)
 (mS<|eFn lN<|jQ (WB Sk (kG (f1 JF)<|jQ (eFn tW<|jQ (jR 1)<|jQ vG j5) j5)<|jQ (jR 0)<|jQ (uF j5) j5) j5))
abbrev BI:ae->jT->R A:=lZ Il JY
meta abbrev xh:aC:=top 32
meta abbrev xw:ar:=["_law_script", "_law_k"]
meta abbrev xy:ar:=["_law_script", "_law_k"]
abbrev xg:Sm:=
 kD (zY (uf<|j6 aLt (jR 1)<|kG (f1 q_)<|jQ (jR 0) j5)
 (mS<|j6 tu (jR 0)<|jR 1)
 rR)
 (mS<|eC<|.int 0)
abbrev rE:ae->jT->R A:=lZ xw xg
meta abbrev yQ:aC:=top 33
meta abbrev zf:ar:=["_law_cell_here", "_law_place", "_law_far"]
meta abbrev zE:ar:=["_law_cell_here", "_law_place"]
abbrev zA:Sm:=
 kD (kR (kG (f1 YK)<|jQ (jR 0) j5)<|kY 2)
 (kD (zY (uf<|j6 aLt (jR 2)<|j6 Zy (eC<|.int 10)<|eC<|.int 18)
 (kR (eC<|.int 0)<|kY 2)
 rR)
 (mS<|uF<|jQ (jR 2)<|jQ (j6 EV (j6 mF (j6 mF (j6 Cy (j6 EV (jR 0)<|eC<|.int 2147483647)<|eC<|.int 69621)<|j6 Cy (eC<|.int 7919)<|jR 1)<|eC<|.int 13)<|eC<|.int 2147483647) j5))
abbrev qW:ae->jT->R A:=lZ zf zA
meta abbrev vM:aC:=top 34
meta abbrev uP:ar:=["_law_bag_here"]
meta abbrev vJ:ar:=["_law_bag_here"]
abbrev vc:Sm:=
 kD (kR (j6 EV (j6 mF (j6 Cy (j6 tu (jR 0)<|eC<|.int 1)<|eC<|.int 48271)<|eC<|.int 11)<|eC<|.int 2147483647)<|gSb (jR 0)<|eC<|.int 1)
 (mS<|j6 Mj (j6 EV (j6 Cy (j6 tu (jR 0)<|eC<|.int 1)<|eC<|.int 16807)<|eC<|.int 2147483629)<|eC<|.int 8)
abbrev o4:ae->jT->R A:=lZ uP vc
meta abbrev uT:aC:=top 35
meta abbrev r_:ar:=["_law_bag_here", "_law_many", "_law_found", "_law_k"]
meta abbrev qi:ar:=["_law_bag_here", "_law_many"]
abbrev CG:Ic:=
 yl (eC<|.int 7)
abbrev CB:Sm:=
 kR (j6 mF (j6 Cy (jR 2)<|eC<|.int 268435399)<|eFn o4<|jQ (jR 0) j5) (kY 2)
abbrev sf:Sm:=
 kD (zY (uf<|j6 Ib (j6 tu (jR 0)<|eC<|.int 0)<|eC<|.int 0)
 (kD (kR (j6 EV (j6 tu (jR 0)<|eC<|.int 0)<|jR 1)<|kY 2)
 (kD (kR (j6 Mj (j6 tu (jR 0)<|eC<|.int 0)<|jR 1)<|gSb (jR 0)<|eC<|.int 0)
 (mS<|jR 2)))
 rR)
 (kD (kR (eFn o4<|jQ (jR 0) j5)<|kY 2)
 (kD (zY (uf<|j6 Ib (jR 1)<|eC<|.int 1000)
 (mw CG (kY 3)
 CB)
 rR)
 (mS<|j6 EV (jR 2)<|jR 1)))
abbrev kP:ae->jT->R A:=lZ r_ sf
meta abbrev uI:aC:=top 36
meta abbrev vW:ar:=["_law_bag_here", "_law_n", "_law_left", "_law_found", "_law_k"]
meta abbrev vj:ar:=["_law_bag_here", "_law_n"]
abbrev Cw:Ic:=
 yl (jR 1)
abbrev wK:Sm:=
 pI (Zp Ai (jR 3)<|jQ (Zp Cf (jR 2)<|jQ (eFn kP<|jQ (jR 0)<|jQ (kG (f1 q_)<|jQ (jR 2) j5) j5) j5) j5)
abbrev vX:Sm:=
 kD (kR (kG (f1 zL)<|jQ (kG (f2 Ax)<|jQ (eC<|.int 1)<|jQ (j6 mF (jR 1)<|eC<|.int 1) j5) j5)<|kY 2)
 (kD (kR (uF j5)<|kY 3)
 (kD (mw Cw (kY 4)
 wK)
 (mS<|kG (f1 sJ)<|jQ (jR 3) j5)))
abbrev nH:ae->jT->R A:=lZ vW vX
meta abbrev qA:aC:=top 37
meta abbrev qv:ar:=["_law_order_here", "_law_k"]
meta abbrev oE:ar:=["_law_order_here", "_law_k"]
abbrev qz:Sm:=
 mS (j6 mF (j6 mF (eSl (jR 0) LM<|LP<|j6 aSub (jR 1)<|eC<|.int 1)<|wJ<|jQ (j6 tu (jR 0)<|jR 1)<|jQ (j6 tu (jR 0)<|j6 aSub (jR 1)<|eC<|.int 1) j5)<|eSl (jR 0) (LP<|j6 mF (jR 1)<|eC<|.int 1) LM)
abbrev lO:ae->jT->R A:=lZ qv qz
meta abbrev xJ:aC:=top 38
meta abbrev w4:ar:=["_law_order_here", "_law_word_here", "_law_downs"]
meta abbrev xD:ar:=["_law_order_here"]
abbrev qN:Te:=
 uf (j6 (yN true) (jR 2)<|uF j5)
abbrev ur:Sm:=
 kD (kR (eFn lO<|jQ (jR 0)<|jQ (j6 tu (jR 2)<|Pc Cv<|eC<|.int 1) j5)<|kY 0)
 (kD (pI<|Zp Ai (jR 1)<|jQ (j6 tu (jR 2)<|Pc Cv<|eC<|.int 1) j5)
 (kR (mR [none,some 0] (qI (eC<|.int 1)<|kG (f1 q_)<|jQ (jR 0) j5) (kY 0) (uf<|j6 Ib (j6 tu (jR 1)<|j6 aSub (jR 0)<|eC<|.int 1)<|j6 tu (jR 1)<|jR 0)<|jR 0)<|kY 2))
abbrev w9:Sm:=
 kD (kR (uF j5)<|kY 1)
 (kD (kR (mR [none,some 0] (qI (eC<|.int 1)<|kG (f1 q_)<|jQ (jR 0) j5) (kY 0) (uf<|j6 Ib (j6 tu (jR 1)<|j6 aSub (jR 0)<|eC<|.int 1)<|j6 tu (jR 1)<|jR 0)<|jR 0)<|kY 2)
 (kD (pC qN
 ur 1000000)
 (mS<|Pc NC<|jR 1)))
abbrev rJ:ae->jT->R A:=lZ w4 w9
meta abbrev uW:aC:=top 39
meta abbrev uX:ar:=["_law_bag_here", "_law_order_here", "_law_most", "_law_word_here", "_law_turn", "_law_found", "_law_k"]
meta abbrev vL:ar:=["_law_bag_here", "_law_order_here", "_law_most"]
abbrev wL:Ic:=
 yl (eFn kP<|jQ (jR 0)<|jQ (j6 mF (jR 2)<|eC<|.int 1) j5)
abbrev sU:Sm:=
 zY (uf<|j6 (yN true) (jR 3)<|uF j5)
 (pI<|Zp Cf (jR 3)<|jQ (eFn kP<|jQ (jR 0)<|jQ (kG (f1 q_)<|jQ (jR 3) j5) j5) j5)
 rR
abbrev s_:Ic:=
 pV (jR 3)
abbrev sY:Sm:=
 zY (uf<|j6 aLt (j6 tu (jR 5)<|j6 aSub (jR 6)<|eC<|.int 1)<|j6 tu (jR 5)<|jR 6)
 (kR (eFn lO<|jQ (jR 5)<|jQ (jR 6) j5)<|kY 5)
 rR
abbrev uZ:Sm:=
 kD (kR (eFn rJ<|jQ (jR 1) j5)<|kY 3)
 (kD (mw wL (kY 4)
 sU)
 (kD (kR (kG (f1 sJ)<|jQ (kG (f2 Ax)<|jQ (eC<|.int 1)<|jQ (j6 mF (kG (f1 q_)<|jQ (jR 1) j5)<|eC<|.int 1) j5) j5)<|kY 5)
 (kD (mw s_ (kY 6)
 sY)
 (mS<|jR 5))))
abbrev oZ:ae->jT->R A:=lZ uX uZ
meta abbrev sF:aC:=top 40
meta abbrev sH:ar:=["_law_order_here", "_law_k"]
meta abbrev qb:ar:=["_law_order_here", "_law_k"]
abbrev sN:Sm:=
 mS (kG (f1 sJ)<|jQ (mR [none,some 1] (pV<|jR 0) (kY 0) OA<|zU uQ (U6 (jR 1) (j6 mF (jR 1)<|eC<|.int 1) (j6 mF (jR 1)<|eC<|.int 1)<|jR 1)<|jQ (jR 0)<|jQ (jR 0) j5) j5)
abbrev mH:ae->jT->R A:=lZ sH sN
meta abbrev zy:aC:=top 41
meta abbrev zb:ar:=["_law_found", "_law_order_here", "_law_poly", "_law_shift", "_law_many", "_law_here", "_law_power"]
meta abbrev wz:ar:=["_law_found", "_law_order_here", "_law_poly", "_law_shift", "_law_many"]
abbrev vH:Ic:=
 QZ (jR 2)
abbrev sq:Sm:=
 kR (j6 mF (GP wQ (jR 5)<|jQ (j6 mF (jR 6)<|jR 3)<|jQ (eC<|.int 0) j5)<|j6 GY (jR 4)<|j6 CD (jR 2)<|jR 6) (Ga (jR 5)<|j6 mF (jR 6)<|jR 3)
abbrev yY:Sm:=
 kD (kR (zU xX (jR 0)<|jQ (jR 1)<|jQ uK j5)<|kY 5)
 (kD (mw vH (kY 6)
 sq)
 (kR (jR 5)<|Co (jR 0)<|jR 1))
abbrev nj:ae->jT->R A:=lZ zb yY
meta abbrev nu:aC:=top 42
meta abbrev ny:ar:=["_law_poly", "_law_kept_here", "_law_power"]
meta abbrev mz:ar:=["_law_poly"]
abbrev mQ:Ic:=
 QZ (jR 0)
abbrev mP:Sm:=
 zY (uf<|j6 (yN true) (j6 CD (jR 0)<|jR 2)<|eC<|.int 0)
 (kR (j6 CD (jR 0)<|jR 2)<|Ga (jR 1)<|jR 2)
 rR
abbrev nv:Sm:=
 kD (kR uK<|kY 1)
 (kD (mw mQ (kY 2)
 mP)
 (mS<|jR 1))
abbrev kX:ae->jT->R A:=lZ ny nv
meta abbrev uD:aC:=top 43
meta abbrev rK:ar:=["_law_order_here", "_law_known", "_law_ways", "_law_made", "_law_k", "_law_base", "_law_one", "_law_down", "_law_lower_here", "_law_low", "_law_found", "_law_some"]
meta abbrev p5:ar:=["_law_order_here", "_law_known"]
abbrev qO (Fs:ae->jT->R A):Ic:=
 Nx (jR 8)
abbrev qL (Fs:ae->jT->R A):Sm:=
 pI (eFn nj<|jQ (jR 3)<|jQ (jR 9)<|jQ (j6 z0 (jR 8)<|jR 9)<|jQ (eC<|.int 0)<|jQ (j6 aSub (eC<|.int 0)<|j6 CD (j6 z0 (jR 5)<|jR 6)<|eC<|.int 1) j5)
abbrev tZ (Fs:ae->jT->R A):Ic:=
 Nx (jR 5)
abbrev pB (Fs:ae->jT->R A):Sm:=
 kD (kR (j6 Ib (Bq (jR 6)<|jQ (jR 4) j5)<|Bq (jR 6)<|jQ (j6 mF (jR 4)<|eC<|.int 1) j5)<|kY 7)
 (kD (pI<|eFn nj<|jQ (jR 3)<|jQ (eFn mH<|jQ (jR 6)<|jQ (jR 4) j5)<|jQ (j6 z0 (jR 5)<|jR 6)<|jQ (eC<|.int 0)<|jQ (eC<|.int 1) j5)
 (kD (pI<|eFn nj<|jQ (jR 3)<|jQ (jR 6)<|jQ (j6 z0 (jR 5)<|jR 6)<|jQ (j6 tu (uF<|jQ (eC<|.int 1)<|jQ (Pc Cv<|eC<|.int 1) j5)<|kG (f1 Gr)<|jQ (jR 7) j5)<|jQ (eC<|.int 1) j5)
 (zY (HM (zW<|jR 7)<|uf<|j6 (yN true) (zU uQ (j6 z0 (jR 5)<|jR 6)<|jQ (eC<|.int 1)<|jQ (eC<|.int 0) j5)<|eC<|.int 0)
 (kD (kR (eFn Fs<|jQ (jR 6)<|jQ (jR 1) j5)<|kY 8)
 (mw (qO Fs) (kY 9)
 (qL Fs)))
 rR)))
abbrev qM (Fs:ae->jT->R A):Ic:=
 Nx (jR 3)
abbrev qP (Fs:ae->jT->R A):Sm:=
 kD (kR (eFn kX<|jQ (j6 z0 (jR 3)<|jR 6) j5)<|kY 11)
 (zY (uf<|j6 TM (jR 11) uK)
 (kR (jR 11)<|Co (jR 10)<|jR 6)
 rR)
abbrev rB (Fs:ae->jT->R A):Sm:=
 kD (zY (uf<|j6 (Iz false) (jR 0)<|jR 1)
 (mS<|j6 zZ (jR 1)<|jR 0)
 rR)
 (kD (kR (mR [none,some 0] (qI (eC<|.int 1)<|kG (f1 q_)<|jQ (jR 0) j5) (kY 0) (uf<|j6 Ib (Bq (jR 1)<|jQ (jR 0) j5)<|Bq (jR 1)<|jQ (j6 mF (jR 0)<|eC<|.int 1) j5)<|jR 0)<|kY 2)
 (kD (kR vG<|kY 3)
 (kD (zY (uf<|j6 (yN false) (jR 2)<|uF j5)
 (kR (aa6 (eC<|.int 0)<|eC<|.int 1)<|Co (jR 3)<|jR 0)
 (kD (kR (j6 tu (jR 2)<|Pc Cv<|eC<|.int 1)<|kY 4)
 (kD (kR (eFn Fs<|jQ (eFn mH<|jQ (jR 0)<|jQ (jR 4) j5)<|jQ (jR 1) j5)<|kY 5)
 (mw (tZ Fs) (kY 6)
 (pB Fs)))))
 (kD (kR vG<|kY 10)
 (kD (mw (qM Fs) (kY 6)
 (qP Fs))
 (kD (kR (jR 10)<|Co (jR 1)<|jR 0)
 (mS<|jR 10)))))))
abbrev mU:Nat->ae->jT->R A
 | 0=>λ_ _=>.no
 | k+1=>lZ rK<|rB<|mU k
abbrev qX:ae->jT->R A:=mU 12
meta abbrev ve:aC:=top 44
meta abbrev vK:ar:=["_law_thing"]
meta abbrev uJ:ar:=["_law_thing"]
abbrev vC:Sm:=
 mS (GF (kG (f2 OE)<|jQ (jR 0)<|jQ (eC<|.ty "int") j5)<|W5<|kG (f2 OE)<|jQ (jR 0)<|jQ (eC<|.ty "bool") j5)
abbrev qj:ae->jT->R A:=lZ vK vC
meta abbrev za:aC:=top 45
meta abbrev zo:ar:=["_law_n", "_law_found", "_law_place", "_law_more", "_law_some"]
meta abbrev yX:ar:=["_law_n"]
abbrev zN:Ic:=
 pV (jR 1)
abbrev vQ:Sm:=
 pI (Zp Fq (jR 3)<|jQ (mR [none,some 4] (qI (eC<|.int 1)<|j6 mF (jR 0)<|eC<|.int 1) (kY 0) (uf<|j6 (RK true) (jR 0)<|jR 1)<|j6 mF (jR 1)<|wJ<|jQ (jR 0) j5) j5)
abbrev zK:Ic:=
 yl (jR 0)
abbrev zP:Sm:=
 kD (kR (uF j5)<|kY 3)
 (kD (mw zN (kY 4)
 vQ)
 (kR (jR 3)<|kY 1))
abbrev zC:Sm:=
 kD (kR (uF<|jQ (wJ j5) j5)<|kY 1)
 (kD (mw zK (kY 2)
 zP)
 (mS<|jR 1))
abbrev qV:ae->jT->R A:=lZ zo zC
meta abbrev vF:aC:=top 46
meta abbrev vN:ar:=["_law_one", "_law_order_here", "_law_due", "_law_found"]
meta abbrev uS:ar:=["_law_one", "_law_order_here", "_law_due"]
abbrev vP:Sm:=
 kD (kR (eFn BI<|jQ (jR 0)<|jQ (jR 1) j5)<|kY 3)
 (mS<|GF (eFn qj<|jQ (jR 3) j5)<|j6 (yN false) (jR 3)<|zU uQ (zU xX (jR 2)<|jQ (jR 0)<|jQ uK j5)<|jQ (eC<|.int 1)<|jQ (eC<|.int 0) j5)
abbrev l9:ae->jT->R A:=lZ vN vP
meta abbrev Pk:aC:=top 47
meta abbrev UN:ar:=["_law_script", "_law_bag_here", "_law_order_here", "_law_one", "_law_due"]
meta abbrev Yk:ar:=["_law_script"]
abbrev PR:Sm:=
 kD (kR (eFn qW<|jQ (eFn rE<|jQ (jR 0)<|jQ (eC<|.int 0) j5)<|jQ (eC<|.int 1) j5)<|kY 1)
 (kD (zY (uf<|j6 (yN false) (eFn kP<|jQ (jR 1)<|jQ (eC<|.int 8) j5)<|eC<|.int 7)
 (kD (kR (eFn nH<|jQ (jR 1)<|jQ (eC<|.int 5) j5)<|kY 2)
 (kD (kR (eFn nH<|jQ (jR 1)<|jQ (eC<|.int 5) j5)<|kY 3)
 (kD (zY (uf<|j6 Ib (eFn kP<|jQ (jR 1)<|jQ (eC<|.int 4) j5)<|eC<|.int 0)
 (kR (eFn oZ<|jQ (jR 1)<|jQ (jR 2)<|jQ (eC<|.int 4) j5)<|kY 3)
 rR)
 (mS<|eFn l9<|jQ (jR 3)<|jQ (jR 2)<|jQ (eFn qX<|jQ (jR 2)<|jQ vG j5) j5))))
 rR)
 (kD (kR (eFn nH<|jQ (jR 1)<|jQ (j6 tu (uF<|jQ (eC<|.int 4)<|jQ (eC<|.int 3)<|jQ (eC<|.int 4)<|jQ (eC<|.int 2)<|jQ (eC<|.int 1)<|jQ (eC<|.int 4) j5)<|eFn kP<|jQ (jR 1)<|jQ (eC<|.int 6) j5) j5)<|kY 2)
 (kD (kR (eFn qX<|jQ (jR 2)<|jQ vG j5)<|kY 4)
 (kD (zY (VN<|zW<|kG (f1 W3)<|jQ (mR [none,some 2,some 4] (pV<|eFn qV<|jQ (kG (f1 q_)<|jQ (jR 2) j5) j5) (kY 0) OA<|eFn l9<|jQ (jR 0)<|jQ (jR 1)<|jQ (jR 2) j5) j5)
 (mS<|eC<|.bl false)
 rR)
 (mS<|GF (eFn l9<|jQ (jR 2)<|jQ (jR 2)<|jQ (jR 4) j5)<|eFn l9<|jQ (kG (f1 sJ)<|jQ (kG (f1 Mp)<|jQ (jR 2) j5) j5)<|jQ (jR 2)<|jQ (jR 4) j5)))))
abbrev C_:ae->jT->R A:=lZ UN PR
section
variable {P:aj}{w:ah}{K:au}{mg:Str->bb}{base:aq}{f:ak}{fd:FuncData}
def G_:FnScope xK wU (j9 xj):=uH rfl rfl rfl ∅
def HK(F:Fun K "is_whole" "is_whole" xj f fd)(J:mg "isinstance" = none)(U:mg "bool" = none)(aaR:mg "int" = none):FnOk P w K mg base qG 1 f fd wU (rP K 1 qZ):=uG (m:=w_) F G_ λd B c s H E e=>
 j4 (kM<|B4 (kW Ka J qc<|jS (jP 0)<|jS (L_ aaR Jq) jZ)<|B9<|UT<|kW Ka J qc<|jS (jP 0)<|jS (L_ U KD) jZ)
def Em:FnScope vU sA (j9 vf):=uH rfl rfl rfl ∅
def ED(F:Fun K "need_pair" "need_pair" vf f fd)(J:mg "len" = none):FnOk P w K mg base qG 1 f fd sA (rP K 2 nK):=uG (m:=uY) F Em λe B c s H E d=>
 j4 (nU (lG (J2 d.units) (kW tM J pU<|jS (jP 0) jZ)<|kW tM J pU<|jS (jP 1) jZ)
 (j4<|Tz)
 lI)
def A_:FnScope sM sG (j9 sS):=uH rfl rfl rfl ∅
def BC(F:Fun K "is_exchange" "is_exchange" sS f fd)(J:n8 P w K mg base 1 "is_whole" wU qZ):FnOk P w K mg base qG 2 f fd sG (rP K 2 n9):=uG (m:=sV) F A_ λe B c s H E d=>
 j4 (kM<|B4 (Nf J d<|jP 1)<|B9<|abn ad1 (VL d.units) jY (jP 1)<|jP 0)
def qH:FnScope oN oK (j9 oQ):=uH rfl rfl rfl ∅
def wH(F:Fun K "exchanged_places" "exchanged_places" oQ f fd)(J:mg "list" = none)(U:mg "tuple" = none):FnOk P w K mg base qG 1 f fd oK (rP K 3 mj):=uG (m:=oR) F qH λd B c s H E e=>
 jX (kB (i:=3) qH.nd<|mD (IX rfl) J EO<|jS (jP 0) jZ)
 (jX (pG (sX<|jS (mJ (jP 3)<|kh u5 (jP 2) jY)<|jS (mJ (jP 3)<|kh u5 (jP 1) jY) jZ)<|uL rfl<|lV (FI (jP 3)<|kh u5 (jP 1) jY)<|lV (FI (jP 3)<|kh u5 (jP 2) jY) rZ)
 (j4<|kM<|mD (yH rfl) U u0<|jS (jP 3) jZ))
def EZ:FnScope vn su (j9 uO):=uH rfl rfl rfl ∅
def EY(F:Fun K "exchanged" "exchanged" uO f fd)(J:mg "len" = none)(U:n8 P w K mg base 2 "is_exchange" sG n9)(ads:n8 P w K mg base 1 "exchanged_places" oK mj):FnOk P w K mg base qG 3 f fd su (rP K 2 nI):=uG (m:=vp) F EZ λe B c s H E d=>
 jX (nU (Sq<|wY<|zT U d (kW tM J pU<|jS (jP 0) jZ)<|jP 1)
 (j4<|Tz)
 lI)
 (j4<|kM<|UW ads d (jP 0) (jP 1)<|kh m8 (jP 1) jY)
def Tp:FnScope D8 we (j9 Ej):=uH rfl rfl rfl ∅
def UG(F:Fun K "falls" "falls" Ej f fd)(J:mg "range" = none)(U:mg "len" = none):FnOk P w K mg base qG 1 f fd we (rP K 1 qe):=uG (m:=DX) F Tp λe B c s H E d=>
 j4 (kM<|v5 (N:=["k", "order"]) (cap:=[none,some 0]) rfl (yI ["order"] rfl ∅ ∅ ∅ ∅ ∅ (cP.mpr ⟨by first|exact Or.inl rfl|exact Or.inr rfl,(nofun)⟩) ⟨rfl,by decide +kernel,trivial⟩) (tR J jY<|kW tM U pU<|jS (jP 0) jZ) (λ_ _ _ _=>ku (i:=0) (show(["k", "order"]:ar).Nodup by decide +kernel) rfl (Or.inl rfl)<|.inr rfl) (λ_ _ _ _=>uy<|lG (DM d.units) (mJ (jP 1)<|kh u5 (jP 0) jY)<|mJ (jP 1)<|jP 0) λ_ _ _ _=>jP 0)
def zm:FnScope qx oB (j9 qD):=uH rfl rfl rfl ∅
def yO(F:Fun K "as_polynomial" "as_polynomial" qD f fd)(J:mg "sorted" = none):FnOk P w K mg base qG 1 f fd oB (rP K 1 lQ):=uG (m:=qE) F zm λe B d s H E c=>
 j4 (kM<|v5 (N:=["power", "numbers"]) (cap:=[none,some 0]) rfl (yI ["numbers"] rfl ∅ ∅ ∅ ∅ ∅ (cP.mpr ⟨by first|exact Or.inl rfl|exact Or.inr rfl,(nofun)⟩) ⟨rfl,by decide +kernel,trivial⟩) (qa<|kW (WI rfl) J zq<|jS (jP 0) jZ) (λ_ _ _ _=>ku (i:=0) (show(["power", "numbers"]:ar).Nodup by decide +kernel) rfl (Or.inl rfl)<|.inr rfl) (λ_ _ _ _=>uy<|lG (J2 c.units) (P9 c.units (jP 1)<|jP 0) jY) λ_ _ _ _=>sX<|jS (jP 0)<|jS (P9 c.units (jP 1)<|jP 0) jZ)
def Aj:FnScope JM JS (j9 JT):=uH rfl rfl rfl ∅
def Vw(F:Fun K "plus" "plus" JT f fd)(J:mg "dict" = none)(U:n8 P w K mg base 1 "as_polynomial" oB lQ):FnOk P w K mg base qG 2 f fd JS (rP K 2 Bg):=uG (m:=Jm) F Aj λe B d s H E c=>
 jX (kB (i:=2) Aj.nd<|mD (Mn rfl) J DR<|jS (jP 0) jZ)
 (jX (nk bX rfl (qa<|jP 1) (uL rfl<|lV (ku (i:=3) Aj.nd)<|lV (ku (i:=4) Aj.nd) rZ)
 (j4<|pG (kh m8 (Ea bV cD (Fl c.units) (jP 2)<|jS (jP 3)<|jS jY jZ)<|jP 4)<|Ae c.units (jP 2)<|jP 3))
 (j4<|kM<|Nf U c<|jP 2))
def tD:FnScope FT Ad (j9 Fd):=uH rfl rfl rfl ∅
def ON(F:Fun K "times" "times" Fd f fd)(J:n8 P w K mg base 1 "as_polynomial" oB lQ):FnOk P w K mg base qG 2 f fd Ad (rP K 2 uh):=uG (m:=Ek) F tD λe B d s H E c=>
 jX (kB (i:=2) tD.nd vE)
 (jX (nk bX rfl (qa<|jP 0) (uL rfl<|lV (ku (i:=3) tD.nd)<|lV (ku (i:=4) tD.nd) rZ)
 (j4 (nk bX rfl (qa<|jP 1) (uL rfl<|lV (ku (i:=5) tD.nd)<|lV (ku (i:=6) tD.nd) rZ)
 (j4<|pG (kh m8 (Ea bV cD (Fl c.units) (jP 2)<|jS (kh m8 (jP 3)<|jP 5)<|jS jY jZ)<|kh QI (jP 4)<|jP 6)<|Ae c.units (jP 2)<|kh m8 (jP 3)<|jP 5))))
 (j4<|kM<|Nf J c<|jP 2))
def CA:FnScope uc pP (j9 tV):=uH rfl rfl rfl ∅
def Cr(F:Fun K "put_before" "put_before" tV f fd)(J:n8 P w K mg base 2 "plus" JS Bg):FnOk P w K mg base qG 3 f fd pP (rP K 3 lA):=uG (m:=uB) F CA λe B d s H E c=>
 j4 (pG (zT J c (O8 bV cD (Yx c.units) (jP 0)<|jS (jP 1)<|jS (nZ jZ) jZ)<|jP 2)<|ue c.units (jP 0)<|jP 1)
def Ou:FnScope Cc vd (j9 Bs):=uH rfl rfl rfl ∅
def Nr(F:Fun K "as_sum" "as_sum" Bs f fd)(J:mg "sorted" = none):FnOk P w K mg base qG 1 f fd vd (rP K 1 pH):=uG (m:=BL) F Ou λe B c s H E d=>
 j4 (kM<|v5 (N:=["order", "found"]) (cap:=[none,some 0]) rfl (yI ["found"] rfl ∅ ∅ ∅ ∅ ∅ (cP.mpr ⟨by first|exact Or.inl rfl|exact Or.inr rfl,(nofun)⟩) ⟨rfl,by decide +kernel,trivial⟩) (qa<|kW (VH rfl) J zq<|jS (jP 0) jZ) (λ_ _ _ _=>ku (i:=0) (show(["order", "found"]:ar).Nodup by decide +kernel) rfl (Or.inl rfl)<|.inr rfl) (λ_ _ _ _=>uy<|wY<|Eg d.units (jP 1)<|jP 0) λ_ _ _ _=>sX<|jS (jP 0)<|jS (Eg d.units (jP 1)<|jP 0) jZ)
def ES:FnScope vq uN (j9 vV):=uH rfl rfl rfl ∅
def ER(F:Fun K "need_like" "need_like" vV f fd)(J:n8 P w K mg base 1 "need_pair" sA nK):FnOk P w K mg base qG 2 f fd uN (rP K 2 qg):=uG (m:=u_) F ES λe B c s H E d=>
 j4 (nU (AW.at<|Jx (wY<|jP 0)<|DZ<|wY<|jP 1)
 (j4<|m5<|zT J d (mJ (mJ (jP 0) jY) jY)<|mJ (mJ (jP 1) jY) jY)
 lI)
def yc:FnScope E8 ET (j9 FL):=uH rfl rfl rfl ∅
def Tq(F:Fun K "added" "added" FL f fd)(J:n8 P w K mg base 2 "need_like" uN qg)(U:n8 P w K mg base 3 "put_before" pP lA)(abd:n8 P w K mg base 1 "as_sum" vd pH):FnOk P w K mg base qG 4 f fd ET (rP K 2 uA):=uG (m:=FP) F yc λe B d s H E c=>
 jX (m5<|zT J c (jP 0)<|jP 1)
 (jX (kB (i:=2) yc.nd sj)
 (jX (nk bX rfl (qa<|kh m8 (jP 0)<|jP 1) (uL rfl<|lV (ku (i:=3) yc.nd)<|lV (ku (i:=4) yc.nd) rZ)
 (j4<|m5<|UW U c (jP 2) (jP 3)<|jP 4))
 (j4<|kM<|Nf abd c<|jP 2)))
def v8:FnScope BK A9 (j9 Ci):=uH rfl rfl rfl ∅
def NU(F:Fun K "scaled" "scaled" Ci f fd)(J:n8 P w K mg base 3 "put_before" pP lA)(U:n8 P w K mg base 2 "times" Ad uh)(abd:n8 P w K mg base 1 "as_sum" vd pH):FnOk P w K mg base qG 4 f fd A9 (rP K 2 rC):=uG (m:=BU) F v8 λe B d s H E c=>
 jX (kB (i:=2) v8.nd sj)
 (jX (nk bX rfl (qa<|jP 1) (uL rfl<|lV (ku (i:=3) v8.nd)<|lV (ku (i:=4) v8.nd) rZ)
 (j4<|m5<|UW J c (jP 2) (jP 3)<|zT U c (jP 0)<|jP 4))
 (j4<|kM<|Nf abd c<|jP 2))
def pN:FnScope sO sP (j9 sW):=uH rfl rfl rfl ∅
def Bp(F:Fun K "by_exchange" "by_exchange" sW f fd)(aba:mg "list" = none)(J:∃a,mg "AT_A_FALL" = some (.ref a)/\klP K a=some [((-1:Int),(1:Int)),((1:Int),(-1:Int))])(U:n8 P w K mg base 3 "put_before" pP lA)(acn:n8 P w K mg base 3 "exchanged" su nI)(aaZ:n8 P w K mg base 1 "falls" we qe)(acg:n8 P w K mg base 2 "times" Ad uh)(abd:n8 P w K mg base 1 "as_sum" vd pH):FnOk P w K mg base qG 4 f fd sP (rP K 2 ni):=uG (m:=sI) F pN λe B d s H E c=>
 jX (kB (i:=2) pN.nd sj)
 (jX (nk bX rfl (qa<|jP 0) (uL rfl<|lV (ku (i:=3) pN.nd)<|lV (ku (i:=4) pN.nd) rZ)
 (jX (m5<|UW U c (jP 2) (zT acn c (jP 3)<|jP 1)<|jP 4)
 (j4 (nU (lG (abX c.units) (jP 1)<|Nf aaZ c<|jP 3)
 (j4<|m5<|UW U c (jP 2) (jP 3)<|zT acg c (mD (IX rfl) aba EO<|jS (T7 J.choose_spec.1 J.choose_spec.2) jZ)<|jP 4)
 lI))))
 (j4<|kM<|Nf abd c<|jP 2))
def Gs:FnScope wW xF (j9 xr):=uH rfl rfl rfl ∅
def GC(F:Fun K "need_few" "need_few" xr f fd)(J:mg "len" = none)(U:∃t,mg "MOST_THINGS" = some (.int 5 t)):FnOk P w K mg base qG 1 f fd xF (rP K 1 rH):=uG (m:=xB) F Gs λe B c s H E d=>
 j4 (nU (lG (DM d.units) (kW tM J pU<|jS (jP 0) jZ)<|TN U.choose_spec)
 (j4<|Tz)
 lI)
def ze:FnScope qw oH (j9 qB):=uH rfl rfl rfl ∅
def zD(F:Fun K "number_at_one" "number_at_one" qB f fd)(J:mg "dict" = none):FnOk P w K mg base qG 1 f fd oH (rP K 1 lN):=uG (m:=qC) F ze λe B c s H E d=>
 j4 (kM<|Ea bV cD (Fl d.units) (mD (Mn rfl) J DR<|jS (jP 0) jZ)<|jS jY<|jS jY jZ)
def lR:FnScope lC nL (j9 rG):=uH rfl rfl rfl ∅
def zX{Fs:ae->jT->R A}(F:Fun K "kept_by_fall" "kept_by_fall" rG f fd)(acn:n8 P w K mg base 3 "exchanged" su nI)(J:n8 P w K mg base 4 "added" ET uA)(U:n8 P w K mg base 4 "scaled" A9 rC)(adw:n8 P w K mg base 4 "by_exchange" sP ni)(acB:n8 P w K mg base 1 "number_at_one" oH lN)(aaZ:n8 P w K mg base 1 "falls" we qe)(ac9:n8 P w K mg base (5+2 * kr) "found_kept" mG Fs):FnOk P w K mg base qG (5+2 * kr+1) f fd nL (rP K 3<|lZ lC<|lH Fs):=uG (m:=lH Fs) F lR λe B d s H E c=>
 jX (kB (i:=3) lR.nd<|nG ac9 (c.mono ()) (jS (nG acn (c.mono ()) (jS (jP 0)<|jS (jP 1) jZ)<|j8<|j8 ly)<|jS (jP 2) jZ)<|j8<|j8 ly)
 (jX (kB (i:=4) lR.nd<|nG J (c.mono ()) (jS (nG adw (c.mono ()) (jS (jP 3)<|jS (jP 1) jZ)<|j8<|j8 ly)<|jS (nG U (c.mono ()) (jS (nZ<|jS (sX<|jS jY<|jS jY jZ) jZ)<|jS (jP 3) jZ)<|j8<|j8 ly) jZ)<|j8<|j8 ly)
 (jX (nk bX rfl (qa<|jP 3) (uL rfl<|lV (ku (i:=5) lR.nd)<|lV (ku (i:=6) lR.nd) rZ)
 (jX (kB (i:=7) lR.nd<|nG acB (c.mono ()) (jS (jP 6) jZ)<|j8 ly)
 (j4 (nU (AW.at<|Jx (lG (J2 c.units) (jP 7) jY)<|DZ<|lG (abX c.units) (jP 1)<|nG aaZ (c.mono ()) (jS (jP 5) jZ)<|j8 ly)
 (j4<|kB (i:=4) lR.nd<|nG J (c.mono ()) (jS (jP 4)<|jS (nG U (c.mono ()) (jS (nZ<|jS (sX<|jS jY<|jS (A3<|jP 7) jZ) jZ)<|jS (nG ac9 (c.mono ()) (jS (jP 5)<|jS (jP 2) jZ)<|j8<|j8 ly) jZ)<|j8<|j8 ly) jZ)<|j8<|j8 ly)
 lI))))
 (j4<|kM<|jP 4)))
def wO:FnScope pL mG (j9 qK):=uH rfl rfl rfl ∅
def CC{Fs:ae->jT->R A}(F:Fun K "found_kept" "found_kept" qK f fd)(J:n8 P w K mg base 1 "falls" we qe)(U:n8 P w K mg base (5+2 * kr+1) "kept_by_fall" nL<|lZ lC<|lH Fs):FnOk P w K mg base qG (5+2 * kr+2) f fd mG (rP K 2<|lZ pL<|o9 Fs):=uG (m:=o9 Fs) F wO λe B d s H E c=>
 jX (nU (lG (Rl c.units) (jP 0)<|jP 1)
 (jX (kB (i:=2) wO.nd<|nG J (c.mono ()) (jS (jP 0) jZ)<|j8 ly)
 (j4 (nU (wY<|jP 2)
 (j4<|pG (nG U (c.mono ()) (jS (jP 0)<|jS (mJ (jP 2) jY)<|jS (jP 1) jZ)<|j8<|j8<|j8 ly)<|ue c.units (jP 1)<|jP 0)
 (j4<|pG (nZ<|jS (sX<|jS (jP 0)<|jS (nZ<|jS (sX<|jS jY<|jS jY jZ) jZ) jZ) jZ)<|ue c.units (jP 1)<|jP 0))))
 lI)
 (j4<|kM<|Eg c.units (jP 1)<|jP 0)
theorem u7(F:Fun K "found_kept" "found_kept" qK f fd)(U:n8 P w K mg base 1 "falls" we qe)(J:∀{Fs:ae->jT->R A} {kr:Nat},n8 P w K mg base (5+2 * kr) "found_kept" mG Fs->n8 P w K mg base (5+2 * kr+1) "kept_by_fall" nL (lZ lC<|lH Fs))(hm:mg "found_kept" = some (.ref f))(hk:PySem.W.keepIn K (.ref f)=true)(hb:Binds K fd mG []):∀kr,FnOk P w K mg base qG (5+2 * kr) f fd mG (rP K 2<|m_ kr)
 | 0=>PD rfl
 | kr+1=>CC F U<|J ⟨f,fd,u7 F U J hm hk hb kr,hm,hk,hb⟩
def V5:FnScope Il J0 (j9 Jt):=uH rfl rfl rfl ∅
def WW(F:Fun K "lead" "lead" Jt f fd)(J:mg "dict" = none)(U:n8 P w K mg base 1 "need_pair" sA nK)(adx:n8 P w K mg base 1 "need_few" xF rH)(acB:n8 P w K mg base 1 "number_at_one" oH lN)(ady:n8 P w K mg base 29 "found_kept" mG tW):FnOk P w K mg base qG 30 f fd J0 (rP K 2 BI):=uG (m:=JY) F V5 λe B d s H E c=>
 jX (m5<|zT U c (jP 0)<|jP 1)
 (jX (m5<|Nf adx c<|jP 1)
 (j4<|kM<|Nf acB c<|O8 bV cD (Yx c.units) (mD (VE rfl c.units) J DR<|jS (zT ady c (jP 1) sj) jZ)<|jS (jP 0)<|jS (nZ jZ) jZ))
def Hv:FnScope xw xy (j9 xh):=uH rfl rfl rfl ∅
def G6(F:Fun K "_law_cell" "_law_cell" xh f fd)(J:mg "len" = none):FnOk P w K mg base qG 1 f fd xy (rP K 2 rE):=uG (m:=xg) F Hv λe B c s H E d=>
 jX (nU (lG (VL d.units) (jP 1)<|kW tM J pU<|jS (jP 0) jZ)
 (j4<|kM<|mJ (jP 0)<|jP 1)
 lI)
 (j4<|kM jY)
def xo:FnScope zf zE (j9 yQ):=uH rfl rfl rfl ∅
def Jj(F:Fun K "_law_bag" "_law_bag" yQ f fd)(J:mg "abs" = none):FnOk P w K mg base qG 1 f fd zE (rP K 2 qW):=uG (m:=zA) F xo λe B c s H E d=>
 jX (kB (i:=2) xo.nd<|kW ab9 J aaP<|jS (jP 0) jZ)
 (jX (nU (lG (VL d.units) (jP 2)<|kh ac_ jY jY)
 (j4<|kB (i:=2) xo.nd jY)
 lI)
 (j4<|kM<|nZ<|jS (jP 2)<|jS (kh DF (kh m8 (kh m8 (kh Gw (kh DF (jP 0) jY) jY)<|kh Gw jY<|jP 1) jY) jY) jZ))
def Ed:FnScope uP vJ (j9 vM):=uH rfl rfl rfl ∅
def FQ(F:Fun K "_law_mixed" "_law_mixed" vM f fd):FnOk P w K mg base qG 1 f fd vJ (rP K 1 o4):=uG (m:=vc) F Ed λd B c s H E e=>
 jX (pG (kh DF (kh m8 (kh Gw (mJ (jP 0) jY) jY) jY) jY)<|FI (jP 0) jY)
 (j4<|kM<|kh RZ (kh DF (kh Gw (mJ (jP 0) jY) jY) jY) jY)
def pK:FnScope r_ qi (j9 uT):=uH rfl rfl rfl ∅
def Fp(F:Fun K "_law_digit" "_law_digit" uT f fd)(U:mg "range" = none)(J:n8 P w K mg base 1 "_law_mixed" vJ o4):FnOk P w K mg base qG 2 f fd qi (rP K 2 kP):=uG (m:=sf) F pK λe B d s H E c=>
 jX (nU (lG (DM c.units) (mJ (jP 0) jY) jY)
 (jX (kB (i:=2) pK.nd<|kh DF (mJ (jP 0) jY)<|jP 1)
 (jX (pG (kh RZ (mJ (jP 0) jY)<|jP 1)<|FI (jP 0) jY)
 (j4<|kM<|jP 2)))
 lI)
 (jX (kB (i:=2) pK.nd<|Nf J c<|jP 0)
 (jX (nU (lG (DM c.units) (jP 1) jY)
 (j4 (nk bX rfl (wk U jY) (ku (i:=3) pK.nd)
 (j4<|kB (i:=2) pK.nd<|kh m8 (kh Gw (jP 2) jY)<|Nf J c<|jP 0)))
 lI)
 (j4<|kM<|kh DF (jP 2)<|jP 1)))
def qJ:FnScope vW vj (j9 uI):=uH rfl rfl rfl ∅
def D3(F:Fun K "_law_order" "_law_order" uI f fd)(U:mg "list" = none)(J:mg "range" = none)(aae:mg "len" = none)(aas:mg "tuple" = none)(aa9:n8 P w K mg base 2 "_law_digit" qi kP):FnOk P w K mg base qG 3 f fd vj (rP K 2 nH):=uG (m:=vX) F qJ λe B c s H E d=>
 jX (kB (i:=2) qJ.nd<|mD (IX rfl) U EO<|jS (mD GX J Hf<|jS jY<|jS (kh m8 (jP 1) jY) jZ) jZ)
 (jX (kB (i:=3) qJ.nd<|nZ jZ)
 (jX (nk bX rfl (wk J<|jP 1) (ku (i:=4) qJ.nd)
 (j4<|m5<|GD PySem.F.slot_list_append PySem.F.type_list_append HU (jP 3)<|jS (GD PySem.F.slot_list_pop PySem.F.type_list_pop LX (jP 2)<|jS (zT aa9 d (jP 0)<|kW tM aae pU<|jS (jP 2) jZ) jZ) jZ))
 (j4<|kM<|mD (yH rfl) aas u0<|jS (jP 3) jZ)))
def yZ:FnScope qv oE (j9 qA):=uH rfl rfl rfl ∅
def zc(F:Fun K "_law_exchanged" "_law_exchanged" qA f fd):FnOk P w K mg base qG 1 f fd oE (rP K 2 lO):=uG (m:=qz) F yZ λd B c s H E e=>
 j4 (kM<|kh m8 (kh m8 (XU (jP 0) Ll<|MS<|kh u5 (jP 1) jY)<|sX<|jS (mJ (jP 0)<|jP 1)<|jS (mJ (jP 0)<|kh u5 (jP 1) jY) jZ)<|XU (jP 0) (MS<|kh m8 (jP 1) jY) Ll)
def qp:FnScope w4 xD (j9 xJ):=uH rfl rfl rfl ∅
def GQ(F:Fun K "_law_word" "_law_word" xJ f fd)(J:mg "range" = none)(U:mg "len" = none)(acL:n8 P w K mg base 1 "_law_exchanged" oE lO):FnOk P w K mg base qG 2 f fd xD (rP K 1 rJ):=uG (m:=w9) F qp λe B d s H E c=>
 jX (kB (i:=1) qp.nd<|nZ jZ)
 (jX (DY (i:=2) (N:=["_law_k", "_law_order_here"]) (cap:=[none,some 0]) qp.nd rfl (yI ["_law_order_here"] rfl ∅ ∅ ∅ ∅ ∅ (cP.mpr ⟨by first|exact Or.inl rfl|exact Or.inr rfl,(nofun)⟩) ⟨rfl,by decide +kernel,trivial⟩) (tR J jY<|kW tM U pU<|jS (jP 0) jZ) (λ_ _ _ _=>ku (i:=0) (show(["_law_k", "_law_order_here"]:ar).Nodup by decide +kernel) rfl (Or.inl rfl)<|.inr rfl) (λ_ _ _ _=>uy<|lG (DM c.units) (mJ (jP 1)<|kh u5 (jP 0) jY)<|mJ (jP 1)<|jP 0) λ_ _ _ _=>jP 0)
 (jX (RQ 1000000 bX (lG (J2 c.units) (jP 2)<|nZ jZ)
 (jX (kB (i:=0) qp.nd<|zT acL c (jP 0)<|mJ (jP 2)<|A3 jY)
 (jX (m5<|GD PySem.F.slot_list_append PySem.F.type_list_append HU (jP 1)<|jS (mJ (jP 2)<|A3 jY) jZ)
 (j4<|DY (i:=2) (N:=["_law_k", "_law_order_here"]) (cap:=[none,some 0]) qp.nd rfl (yI ["_law_order_here"] rfl ∅ ∅ ∅ ∅ ∅ (cP.mpr ⟨by first|exact Or.inl rfl|exact Or.inr rfl,(nofun)⟩) ⟨rfl,by decide +kernel,trivial⟩) (tR J jY<|kW tM U pU<|jS (jP 0) jZ) (λ_ _ _ _=>ku (i:=0) (show(["_law_k", "_law_order_here"]:ar).Nodup by decide +kernel) rfl (Or.inl rfl)<|.inr rfl) (λ_ _ _ _=>uy<|lG (DM c.units) (mJ (jP 1)<|kh u5 (jP 0) jY)<|mJ (jP 1)<|jP 0) λ_ _ _ _=>jP 0))))
 (j4<|kM<|ZC<|jP 1)))
def nN:FnScope uX vL (j9 uW):=uH rfl rfl rfl ∅
def E9(F:Fun K "_law_lower" "_law_lower" uW f fd)(J:mg "range" = none)(U:mg "len" = none)(aas:mg "tuple" = none)(adA:n8 P w K mg base 2 "_law_word" xD rJ)(aa9:n8 P w K mg base 2 "_law_digit" qi kP)(acL:n8 P w K mg base 1 "_law_exchanged" oE lO):FnOk P w K mg base qG 3 f fd vL (rP K 3 oZ):=uG (m:=uZ) F nN λe B d s H E c=>
 jX (kB (i:=3) nN.nd<|Nf adA c<|jP 1)
 (jX (nk bX rfl (wk J<|zT aa9 c (jP 0)<|kh m8 (jP 2) jY) (ku (i:=4) nN.nd)
 (j4 (nU (lG (J2 c.units) (jP 3)<|nZ jZ)
 (j4<|m5<|GD PySem.F.slot_list_pop PySem.F.type_list_pop LX (jP 3)<|jS (zT aa9 c (jP 0)<|kW tM U pU<|jS (jP 3) jZ) jZ)
 lI)))
 (jX (kB (i:=5) nN.nd<|mD (yH rfl) aas u0<|jS (mD GX J Hf<|jS jY<|jS (kh m8 (kW tM U pU<|jS (jP 1) jZ) jY) jZ) jZ)
 (jX (nk bX rfl (qa<|jP 3) (ku (i:=6) nN.nd)
 (j4 (nU (lG (VL c.units) (mJ (jP 5)<|kh u5 (jP 6) jY)<|mJ (jP 5)<|jP 6)
 (j4<|kB (i:=5) nN.nd<|zT acL c (jP 5)<|jP 6)
 lI)))
 (j4<|kM<|jP 5))))
def Bj:FnScope sH qb (j9 sF):=uH rfl rfl rfl ∅
def Br(F:Fun K "_law_swapped" "_law_swapped" sF f fd)(J:mg "tuple" = none):FnOk P w K mg base qG 1 f fd qb (rP K 2 mH):=uG (m:=sN) F Bj λe B c s H E d=>
 j4 (kM<|mD (yH rfl) J u0<|jS (v5 (N:=["_law_thing", "_law_k"]) (cap:=[none,some 1]) rfl (yI ["_law_k"] rfl ∅ ∅ ∅ ∅ ∅ (cP.mpr ⟨by first|exact Or.inl rfl|exact Or.inr rfl,(nofun)⟩) ⟨rfl,by decide +kernel,trivial⟩) (qa<|jP 0) (λ_ _ _ _=>ku (i:=0) (show(["_law_thing", "_law_k"]:ar).Nodup by decide +kernel) rfl (Or.inl rfl)<|.inr rfl) (λ_ _ _ _=>KW) λ_ _ _ _=>Ba bV cD (Jz d.units) (ZX (jP 1) (kh m8 (jP 1) jY) (kh m8 (jP 1) jY)<|jP 1)<|jS (jP 0)<|jS (jP 0) jZ) jZ)
def xE:FnScope zb wz (j9 zy):=uH rfl rfl rfl ∅
def I0(F:Fun K "_law_put" "_law_put" zy f fd):FnOk P w K mg base qG 1 f fd wz (rP K 5 nj):=uG (m:=yY) F xE λe B d s H E c=>
 jX (kB (i:=5) xE.nd<|Ba bV cD (Pu c.units) (jP 0)<|jS (jP 1)<|jS vE jZ)
 (jX (nk bX rfl (Gv<|jP 2) (ku (i:=6) xE.nd)
 (j4<|pG (kh m8 (Ea bV cD (Fl c.units) (jP 5)<|jS (kh m8 (jP 6)<|jP 3)<|jS jY jZ)<|kh QI (jP 4)<|Ey c.units (jP 2)<|jP 6)<|Ae c.units (jP 5)<|kh m8 (jP 6)<|jP 3))
 (j4<|pG (jP 5)<|ue c.units (jP 0)<|jP 1))
def mZ:FnScope ny mz (j9 nu):=uH rfl rfl rfl ∅
def uv(F:Fun K "_law_without_noughts" "_law_without_noughts" nu f fd):FnOk P w K mg base qG 1 f fd mz (rP K 1 kX):=uG (m:=nv) F mZ λe B d s H E c=>
 jX (kB (i:=1) mZ.nd vE)
 (jX (nk bX rfl (Gv<|jP 0) (ku (i:=2) mZ.nd)
 (j4 (nU (lG (J2 c.units) (Ey c.units (jP 0)<|jP 2) jY)
 (j4<|pG (Ey c.units (jP 0)<|jP 2)<|Ae c.units (jP 1)<|jP 2)
 lI)))
 (j4<|kM<|jP 1))
def lB:FnScope rK p5 (j9 uD):=uH rfl rfl rfl ∅
def GA{Fs:ae->jT->R A}(F:Fun K "_law_kept" "_law_kept" uD f fd)(aar:mg "range" = none)(aae:mg "len" = none)(aaR:mg "int" = none)(U:n8 P w K mg base 1 "_law_swapped" qb mH)(J:n8 P w K mg base 1 "_law_put" wz nj)(acN:n8 P w K mg base 1 "_law_without_noughts" mz kX)(ac9:n8 P w K mg base (2+kr) "_law_kept" p5 Fs):FnOk P w K mg base qG (2+kr+1) f fd p5 (rP K 2<|lZ rK<|rB Fs):=uG (m:=rB Fs) F lB λe B d s H E c=>
 jX (nU (lG (adg c.units) (jP 0)<|jP 1)
 (j4<|kM<|Eg c.units (jP 1)<|jP 0)
 lI)
 (jX (DY (i:=2) (N:=["_law_k", "_law_order_here"]) (cap:=[none,some 0]) lB.nd rfl (yI ["_law_order_here"] rfl ∅ ∅ ∅ ∅ ∅ (cP.mpr ⟨by first|exact Or.inl rfl|exact Or.inr rfl,(nofun)⟩) ⟨rfl,by decide +kernel,trivial⟩) (tR aar jY<|kW tM aae pU<|jS (jP 0) jZ) (λ_ _ _ _=>ku (i:=0) (show(["_law_k", "_law_order_here"]:ar).Nodup by decide +kernel) rfl (Or.inl rfl)<|.inr rfl) (λ_ _ _ _=>uy<|lG (DM c.units) (Fc (jP 1)<|jS (jP 0) jZ)<|Fc (jP 1)<|jS (kh m8 (jP 0) jY) jZ) λ_ _ _ _=>jP 0)
 (jX (kB (i:=3) lB.nd sj)
 (jX (nU (lG (YF c.units) (jP 2)<|nZ jZ)
 (j4<|pG (ZA jY jY)<|ue c.units (jP 3)<|jP 0)
 (jX (kB (i:=4) lB.nd<|mJ (jP 2)<|A3 jY)
 (jX (kB (i:=5) lB.nd<|nG ac9 (c.mono ()) (jS (nG U (c.mono ()) (jS (jP 0)<|jS (jP 4) jZ)<|j8<|j8 ly)<|jS (jP 1) jZ)<|j8<|j8 ly)
 (j4 (nk bX rfl (BJ<|jP 5) (ku (i:=6) lB.nd)
 (jX (kB (i:=7) lB.nd<|S_ (DM c.units) (Fc (jP 6)<|jS (jP 4) jZ)<|Fc (jP 6)<|jS (kh m8 (jP 4) jY) jZ)
 (jX (m5<|nG J (c.mono ()) (jS (jP 3)<|jS (nG U (c.mono ()) (jS (jP 6)<|jS (jP 4) jZ)<|j8<|j8 ly)<|jS (zv c.units (jP 5)<|jP 6)<|jS jY<|jS jY jZ)<|j8<|j8<|j8<|j8<|j8 ly)
 (jX (m5<|nG J (c.mono ()) (jS (jP 3)<|jS (jP 6)<|jS (zv c.units (jP 5)<|jP 6)<|jS (mJ (nZ<|jS jY<|jS (A3 jY) jZ)<|mD aa2 aaR Jq<|jS (jP 7) jZ)<|jS jY jZ)<|j8<|j8<|j8<|j8<|j8 ly)
 (j4 (nU (AW.at<|Jx (wY<|jP 7)<|DZ<|lG (J2 c.units) (Ba bV cD (Jz c.units) (zv c.units (jP 5)<|jP 6)<|jS jY<|jS jY jZ) jY)
 (jX (kB (i:=8) lB.nd<|nG ac9 (c.mono ()) (jS (jP 6)<|jS (jP 1) jZ)<|j8<|j8 ly)
 (j4 (nk bX rfl (BJ<|jP 8) (ku (i:=9) lB.nd)
 (j4<|m5<|nG J (c.mono ()) (jS (jP 3)<|jS (jP 9)<|jS (zv c.units (jP 8)<|jP 9)<|jS jY<|jS (kh u5 jY<|Ey c.units (zv c.units (jP 5)<|jP 6) jY) jZ)<|j8<|j8<|j8<|j8<|j8 ly))))
 lI))))))))))
 (jX (kB (i:=10) lB.nd sj)
 (jX (nk bX rfl (BJ<|jP 3) (ku (i:=6) lB.nd)
 (jX (kB (i:=11) lB.nd<|nG acN (c.mono ()) (jS (zv c.units (jP 3)<|jP 6) jZ)<|j8 ly)
 (j4 (nU (lG (abB c.units) (jP 11) vE)
 (j4<|pG (jP 11)<|ue c.units (jP 10)<|jP 6)
 lI))))
 (jX (pG (jP 10)<|ue c.units (jP 1)<|jP 0)
 (j4<|kM<|jP 10)))))))
theorem xU(F:Fun K "_law_kept" "_law_kept" uD f fd)(J:mg "range" = none)(U:mg "len" = none)(aaR:mg "int" = none)(abJ:n8 P w K mg base 1 "_law_swapped" qb mH)(abm:n8 P w K mg base 1 "_law_put" wz nj)(acN:n8 P w K mg base 1 "_law_without_noughts" mz kX)(hm:mg "_law_kept" = some (.ref f))(hk:PySem.W.keepIn K (.ref f)=true)(hb:Binds K fd p5 []):∀kr,FnOk P w K mg base qG (2+kr) f fd p5 (rP K 2<|mU kr)
 | 0=>PD rfl
 | kr+1=>GA F J U aaR abJ abm acN ⟨f,fd,xU F J U aaR abJ abm acN hm hk hb kr,hm,hk,hb⟩
def EW:FnScope vK uJ (j9 ve):=uH rfl rfl rfl ∅
def Ew(F:Fun K "_law_whole" "_law_whole" ve f fd)(J:mg "isinstance" = none)(U:mg "bool" = none)(aaR:mg "int" = none):FnOk P w K mg base qG 1 f fd uJ (rP K 1 qj):=uG (m:=vC) F EW λd B c s H E e=>
 j4 (kM<|B4 (kW Ka J qc<|jS (jP 0)<|jS (L_ aaR Jq) jZ)<|B9<|UT<|kW Ka J qc<|jS (jP 0)<|jS (L_ U KD) jZ)
def p8:FnScope zo yX (j9 za):=uH rfl rfl rfl ∅
def Jo(F:Fun K "_law_all" "_law_all" za f fd)(J:mg "range" = none):FnOk P w K mg base qG 1 f fd yX (rP K 1 qV):=uG (m:=zC) F p8 λe B c s H E d=>
 jX (kB (i:=1) p8.nd<|nZ<|jS (sX jZ) jZ)
 (jX (nk bX rfl (wk J<|jP 0) (ku (i:=2) p8.nd)
 (jX (kB (i:=3) p8.nd<|nZ jZ)
 (jX (nk bX rfl (qa<|jP 1) (ku (i:=4) p8.nd)
 (j4<|m5<|GD PySem.F.slot_list_extend PySem.F.type_list_extend RJ (jP 3)<|jS (v5 (N:=["_law_thing", "_law_some"]) (cap:=[none,some 4]) rfl (yI ["_law_some"] rfl ∅ ∅ ∅ ∅ ∅ (cP.mpr ⟨by first|exact Or.inl rfl|exact Or.inr rfl,(nofun)⟩) ⟨rfl,by decide +kernel,trivial⟩) (tR J jY<|kh m8 (jP 0) jY) (λ_ _ _ _=>ku (i:=0) (show(["_law_thing", "_law_some"]:ar).Nodup by decide +kernel) rfl (Or.inl rfl)<|.inr rfl) (λ_ _ _ _=>uy<|lG (V1 d.units) (jP 0)<|jP 1) λ_ _ _ _=>kh m8 (jP 1)<|sX<|jS (jP 0) jZ) jZ))
 (j4<|kB (i:=1) p8.nd<|jP 3))))
 (j4<|kM<|jP 1))
def xW:FnScope vN uS (j9 vF):=uH rfl rfl rfl ∅
def E6(F:Fun K "_law_right" "_law_right" vF f fd)(J:n8 P w K mg base 30 "lead" J0 BI)(U:n8 P w K mg base 1 "_law_whole" uJ qj):FnOk P w K mg base qG 31 f fd uS (rP K 3 l9):=uG (m:=vP) F xW λe B d s H E c=>
 jX (kB (i:=3) xW.nd<|zT J c (jP 0)<|jP 1)
 (j4<|kM<|B4 (Nf U c<|jP 3)<|B9<|S_ (YF c.units) (jP 3)<|Ba bV cD (Jz c.units) (Ba bV cD (Pu c.units) (jP 2)<|jS (jP 0)<|jS vE jZ)<|jS jY<|jS jY jZ)
def xM:FnScope UN Yk (j9 Pk):=uH rfl rfl rfl ∅
set_option smartUnfolding false in
theorem ZL(F:Fun K "law" "law" Pk f fd)(adD:mg "all" = none)(aae:mg "len" = none)(aas:mg "tuple" = none)(abb:mg "sorted" = none)(adE:n8 P w K mg base 1 "_law_bag" zE qW)(adF:n8 P w K mg base 1 "_law_cell" xy rE)(U:n8 P w K mg base 2 "_law_digit" qi kP)(adk:n8 P w K mg base 3 "_law_order" vj nH)(adG:n8 P w K mg base 3 "_law_lower" vL oZ)(J:n8 P w K mg base 31 "_law_right" uS l9)(ado:n8 P w K mg base 14 "_law_kept" p5 qX)(adH:n8 P w K mg base 1 "_law_all" yX qV):FnOk P w K mg base qG 32 f fd Yk (rP K 1 C_):=uG (m:=PR) F xM λe B d s H E c=>
 jX (kB (i:=1) xM.nd<|zT adE c (zT adF c (jP 0) jY) jY)
 (jX (nU (lG (YF c.units) (zT U c (jP 1) jY) jY)
 (jX (kB (i:=2) xM.nd<|zT adk c (jP 1) jY)
 (jX (kB (i:=3) xM.nd<|zT adk c (jP 1) jY)
 (jX (nU (lG (DM c.units) (zT U c (jP 1) jY) jY)
 (j4<|kB (i:=3) xM.nd<|UW adG c (jP 1) (jP 2) jY)
 lI)
 (j4<|kM<|UW J c (jP 3) (jP 2)<|zT ado c (jP 2) sj))))
 lI)
 (jX (kB (i:=2) xM.nd<|zT adk c (jP 1)<|mJ (nZ<|jS jY<|jS jY<|jS jY<|jS jY<|jS jY<|jS jY jZ)<|zT U c (jP 1) jY)
 (jX (kB (i:=4) xM.nd<|zT ado c (jP 2) sj)
 (jX (nU (Sq<|wY<|kW (abz rfl) adD aaT<|jS (v5 (N:=["_law_one", "_law_order_here", "_law_due"]) (cap:=[none,some 2,some 4]) rfl (yI ["_law_order_here", "_law_due"] rfl ∅ ∅ ∅ ∅ ∅ (cP.mpr ⟨by first|exact Or.inl rfl|exact Or.inr rfl,(cP.mpr ⟨by first|exact Or.inl rfl|exact Or.inr rfl,(nofun)⟩)⟩) ⟨rfl,by decide +kernel,⟨rfl,by decide +kernel,trivial⟩⟩) (qa<|Nf adH c<|kW tM aae pU<|jS (jP 2) jZ) (λ_ _ _ _=>ku (i:=0) (show(["_law_one", "_law_order_here", "_law_due"]:ar).Nodup by decide +kernel) rfl (Or.inl rfl)<|.inr rfl) (λ_ _ _ _=>KW) λ_ _ _ _=>UW J c (jP 0) (jP 1)<|jP 2) jZ)
 (j4<|kM ac8)
 lI)
 (j4<|kM<|B4 (UW J c (jP 2) (jP 2)<|jP 4)<|B9<|UW J c (mD (yH rfl) aas u0<|jS (kW aaB abb zq<|jS (jP 2) jZ) jZ) (jP 2)<|jP 4)))))
end
end K42
namespace Po
open Am
meta abbrev Pl:=List<|Int×Int
abbrev val (d:Pl)(k:Int):Int:=((d.find? λp=>decide<|p.1=k).map (·.2)).getD 0
abbrev has (d:Pl)(k:Int):Bool:=d.any λp=>decide<|p.1=k
abbrev put (d:Pl)(k v:Int):Pl:=if has d k=true then d.map (λp=>if p.1=k then(p.1,v)else p)else d++[(k,v)]
abbrev acc (d:Pl)(k v:Int):Pl:=put d k<|val d k+v
abbrev cf:Pl->Int->Int
 | [],_=>0
 | p::l,k=>(if p.1=k then p.2 else 0)+cf l k
def pD{p:Int×Int}{d:Pl}{k:Int}:val (p::d) k=if p.1=k then p.2 else val d k:=by
 unfold val;rw[cF];by_cases h:p.1=k
 ·rw[a_ h,aJ h];rfl
 ·rw[bq h,aI h]
def Bx{p:Int×Int}{d:Pl}{k:Int}:has (p::d) k=(decide (p.1=k) || has d k):=rfl
def uz{d:Pl}{k:Int}:has d k=true ↔ k∈d.map Prod.fst:=by
 unfold has;rw[gC,aW];constructor
 ·rintro⟨p,h1,h2⟩;exact⟨p,h1,bP h2⟩
 ·rintro⟨p,h1,h2⟩;exact⟨p,h1,a_ h2⟩
def Ju{d:Pl}{k:Int}(h:has d k=false):val d k=0:=by
 induction d with
 | nil=>rfl
 | cons p d c=>
  rw[Bx,iS]at h;rw[pD,aI<|dQ h.1,c h.2]
def Xd{d:Pl}{k v j:Int}(h:has d k=false):val (d++[(k,v)]) j=if j=k then v else val d j:=by
 induction d with
 | nil=>
  show val [(k,v)] j=_;rw[pD];by_cases c:k=j
  ·rw[aJ c,aJ c.symm]
  ·rw[aI c,aI λz=>c z.symm]
 | cons p d e=>
  rw[Bx,iS]at h;have:=dQ h.1;rw[List.cons_append,pD,pD,e h.2];by_cases c:p.1=j
  ·rw[aJ c,aJ c,aI λz=>this<|c.trans z]
  ·rw[aI c,aI c]
def Wu{d:Pl}{k v j:Int}:val (d.map λp=>if p.1=k then(p.1,v)else p) j=if j=k/\has d k=true then v else val d j:=by
 induction d with
 | nil=>
  rw[aI λz=>by cases z.2];rfl
 | cons p d f=>
  rw[bH,pD,pD,f,Bx];by_cases c:p.1=k
  ·rw[aJ c,a_ c,Bool.true_or];by_cases e:j=k
   ·rw[aJ<|show p.1=j by lia,aJ ⟨e,rfl⟩]
   ·rw[aI<|show ¬p.1=j by lia,aI λz=>e z.1,aI λz=>e z.1,aI<|show ¬p.1=j by lia]
  ·rw[aI c,bq c,jw];by_cases e:p.1=j
   ·rw[aJ e,aJ e,aI λz=>c<|e.trans z.1]
   ·rw[aI e,aI e]
def W2{d:Pl}{k v j:Int}:val (put d k v) j=if j=k then v else val d j:=by
 unfold put
 cases h:has d k with
 | true=>
  rw[aJ rfl,Wu,h];by_cases c:j=k
  ·rw[aJ ⟨c,rfl⟩,aJ c]
  ·rw[aI λz=>c z.1,aI c]
 | false=>rw[aI<|by simp,Xd h]
def Vt{d:Pl}{k v j:Int}:val (acc d k v) j=val d j+if k=j then v else 0:=by
 unfold acc;rw[W2];by_cases c:j=k
 ·subst c;rw[aJ rfl,aJ rfl]
 ·rw[aI c,aI λz=>c z.symm,b8]
def Qa{d:Pl}{k v:Int}:(put d k v).map Prod.fst=if has d k=true then d.map Prod.fst else d.map Prod.fst++[k]:=by
 unfold put;split
 ·rw[bB];apply dh;intro p _;show(if p.1=k then(p.1,v)else p).1=p.1;split<;>rfl
 ·rw[bQ];rfl
def aao{d:Pl}{k v:Int}(h:(d.map Prod.fst).Nodup):((put d k v).map Prod.fst).Nodup:=by
 rw[Qa];split
 ·exact h
 ·rename_i c;rw[cO];refine⟨h,cB _ _,λa f b e z=>c ?_⟩;rw[aP]at e;rw[uz,<- e,<- z];exact f
def VX{d:Pl}{k v:Int}:(put d k v).length<=d.length+1:=by
 unfold put;split
 ·rw[aG];lia
 ·rw[bg];exact aO _
abbrev Bd (c:Nat)(d:Pl):Prop:=∀p∈d,p.2.natAbs<=c
theorem Bd.val{c:Nat}{d:Pl}(h:Bd c d)(k:Int):(val d k).natAbs<=c:=by
 induction d with
 | nil=>exact bL _
 | cons p d f=>
  rw[pD];split
  ·exact h p (aL ..)
  ·exact f λq e=>h q<|aN _ e
abbrev pW (d ps:Pl):Pl:=ps.foldl (λd p=>acc d p.1 p.2) d
def OW(d:Pl):pW d []=d:=rfl
def x_(d ps J:Pl):pW d (ps++J)=pW (pW d ps) J:=by unfold pW;rw[dw]
def vR(ps:Pl):∀(d:Pl) (k:Int),val (pW d ps) k=val d k+cf ps k:=by
 induction ps with
 | nil=>intro d k;rw[OW];show _=_+0;rw[b8]
 | cons p ps c=>
  intro d k;show val (pW (acc d p.1 p.2) ps) k=_;rw[c,Vt];show _=_+(_+_);rw[dP]
def um(ps:Pl):∀{d:Pl},(d.map Prod.fst).Nodup->((pW d ps).map Prod.fst).Nodup:=by
 induction ps with
 | nil=>intro d h;exact h
 | cons p ps c=>intro d h;exact c<|aao h
def pJ(ps:Pl):∀(d:Pl),(pW d ps).length<=d.length+ps.length:=by
 induction ps with
 | nil=>intro d;exact aO _
 | cons p ps c=>
  intro d;have h1:=c<|acc d p.1 p.2;have h2:(acc d p.1 p.2).length<=d.length+1:=VX;show(pW (acc d p.1 p.2) ps).length<=_;rw[bA]
  lia
structure Ok (l:Pl):Prop where
 up:l.Pairwise λp q=>p.1<q.1
 nz:∀p∈l,p.2≠0
def Ok.tail{p:Int×Int}{l:Pl}(h:Ok (p::l)):Ok l:=⟨(bY.mp h.up).2,λq c=>h.nz q<|aN _ c⟩
def F_{l:Pl}{k:Int}(h:∀p∈l,k<p.1):cf l k=0:=by
 induction l with
 | nil=>rfl
 | cons p l d=>
  show(if p.1=k then p.2 else 0)+cf l k=0;have:=h p<|aL ..;rw[aI (),d λq c=>h q<|aN _ c];rfl
def Ok.head{p:Int×Int}{l:Pl}(h:Ok (p::l)):cf (p::l) p.1=p.2:=by
 show(if p.1=p.1 then p.2 else 0)+cf l p.1=p.2;rw[aJ rfl,F_ (bY.mp h.up).1,b8]
def Ok.low{p:Int×Int}{l:Pl}(h:Ok (p::l)){k:Int}(J:k<p.1):cf (p::l) k=0:=F_ λq c=>by
 rcases bG.mp c with rfl|z
 ·exact J
 ·have:=(bY.mp h.up).1 q z;lia
theorem uniq:∀{l m:Pl},Ok l->Ok m->(∀k,cf l k=cf m k)->l=m
 | [],[],_,_,_=>rfl
 | [],q::m,_,h,e=>by
  have:=e q.1;rw[h.head]at this;exact absurd this.symm<|h.nz q<|aL ..
 | p::l,[],h,_,e=>by
  have:=e p.1;rw[h.head]at this;exact absurd this<|h.nz p<|aL ..
 | p::l,q::m,h,h',e=>by
  have f:=h.nz p<|aL ..;have d:=h'.nz q<|aL ..;have e1:p.1=q.1:=by
   rcases Int.lt_trichotomy p.1 q.1 with c|c|c
   ·have:=e p.1;rw[h.head,h'.low c]at this;exact absurd this f
   ·exact c
   ·have:=e q.1;rw[h'.head,h.low c]at this;exact absurd this.symm d
  have e2:p.2=q.2:=by
   have:=e p.1;rw[h.head,e1,h'.head]at this;exact this
  have e3:p=q:=Prod.ext e1 e2;subst e3;rw[uniq h.tail h'.tail λk=>by
   have:(if p.1=k then p.2 else 0)+cf l k=(if p.1=k then p.2 else 0)+cf m k:=e k
   lia]
abbrev L8 (d:Pl):Pl:=((sortI<|d.map Prod.fst).filter λk=>val d k != 0).map λk=>(k,val d k)
def WV{ks:ag}(h:ks.Nodup):(sortI ks).Pairwise (· < ·):=by
 have p:=yd ks;have n:(sortI ks).Nodup:=(sortI_perm ks).nodup_iff.mpr h;have:(sortI ks).Pairwise λa b=>a<=b/\a≠b:=p.and n;exact this.imp λ⟨a,b⟩=>()
def IJ{d:Pl}(h:(d.map Prod.fst).Nodup):Ok (L8 d):=by
 refine⟨?_,λp c=>?_⟩
 ·unfold L8;rw[cK];exact(WV h).filter _
 ·obtain⟨k,e,rfl⟩:=aW.mp c;have:=(bK.mp e).2;simpa using this
theorem Pw{d:Pl}{k:Int}:∀{ks:ag},ks.Nodup->cf (ks.map λj=>(j,val d j)) k=if k∈ks then val d k else 0
 | [],_=>by rw[aI<|by simp];rfl
 | j::ks,h=>by
  obtain⟨h1,h2⟩:=cN.mp h;show(if j=k then val d j else 0)+cf (ks.map λj=>(j,val d j)) k=_;rw[Pw h2];by_cases c:j=k
  ·subst c;rw[aJ rfl,aI h1,aJ<|aL ..,b8]
  ·rw[aI c,bW];by_cases e:k∈ks
   ·rw[aJ e,aJ<|aN _ e]
   ·rw[aI e,aI λz=>(bG.mp z).elim (λz=>c z.symm) e]
def EK{d:Pl}(h:(d.map Prod.fst).Nodup)(k:Int):cf (L8 d) k=val d k:=by
 unfold L8;rw[Pw<|((sortI_perm _).nodup_iff.mpr h).filter _];split
 ·rfl
 ·rename_i c
  cases e:has d k with
  | false=>exact(Ju e).symm
  | true=>
   by_cases z:val d k=0
   ·exact z.symm
   ·exact absurd (bK.mpr ⟨(sortI_perm _).mem_iff.mpr<|uz.mp e,by simpa using z⟩) c
def Z3{d e:Pl}(h:(d.map Prod.fst).Nodup)(h':(e.map Prod.fst).Nodup)(hv:∀k,val d k=val e k):L8 d=L8 e:=
 uniq (IJ h) (IJ h') λk=>by rw[EK h,EK h',hv]
def Ok.nd{l:Pl}(h:Ok l):(l.map Prod.fst).Nodup:=by
 unfold List.Nodup;rw[cK];exact h.up.imp λa=>()
def zh{l:Pl}(h:(l.map Prod.fst).Nodup)(k:Int):val l k=cf l k:=by
 induction l with
 | nil=>rfl
 | cons p l d=>
  obtain⟨h1,h2⟩:=cN.mp h;rw[pD];show _=(if p.1=k then p.2 else 0)+cf l k;rw[<- d h2];by_cases c:p.1=k
  ·have:has l k=false:=by
    cases e:has l k with
    | false=>rfl
    | true=>exact absurd (uz.mp e)<|by rw[<- c];exact h1
   rw[aJ c,aJ c,Ju this,b8]
  ·rw[aI c,aI c,bW]
abbrev TV (d ps:Pl):Pl:=ps.foldl (λd p=>put d p.1 p.2) d
theorem Kx:∀(ps d:Pl),((d++ps).map Prod.fst).Nodup->TV d ps=d++ps
 | [],d,_=>by rw[cI];rfl
 | p::ps,d,h=>by
  have hn:has d p.1=false:=by
   cases e:has d p.1 with
   | false=>rfl
   | true=>
    rw[bQ,cO]at h;exact absurd rfl<|h.2.2 _ (uz.mp e) p.1<|fL<|aL ..
  have e:put d p.1 p.2=d++[p]:=by unfold put;rw[hn];rfl
  show TV (put d p.1 p.2) ps=_;rw[e,Kx ps (d++[p])<|by rw[cA];exact h,cA];rfl
def J7{l:Pl}(h:Ok l):TV [] l=l:=Kx l [] h.nd
abbrev plus (a b:Pl):Pl:=L8<|pW a b
abbrev qk (a b:Pl):Pl:=L8<|pW []<|a++b
def VS{a b:Pl}(h:Ok a):plus a b=qk a b:=by
 refine Z3 (um _ h.nd) (um _ dO) λk=>?_;rw[vR,vR,zh h.nd];have:∀(a b:Pl),cf (a++b) k=cf a k+cf b k:=λa b=>by
  induction a with
  | nil=>exact(bW _).symm
  | cons p a c=>
   show _+cf (a++b) k=_+_+_;rw[c,dP]
 rw[this];show _=0+_;rw[bW]
def Hr(a b:Pl):Ok (qk a b):=IJ<|um _ dO
abbrev Ie (a b:Pl):Pl:=a.flatMap λp=>b.map λq=>(p.1+q.1,p.2 * q.2)
abbrev times (a b:Pl):Pl:=L8<|pW []<|Ie a b
def OP(a:Pl)(p:Int×Int)(b:Pl):Ie (a++[p]) b=Ie a b++b.map λq=>(p.1+q.1,p.2 * q.2):=by
 unfold Ie;rw[i6,dz,jB,cI]
def E3(a b:Pl):(Ie a b).length=a.length * b.length:=by
 induction a with
 | nil=>simp[Ie]
 | cons p a c=>
  show((b.map _)++Ie a b).length=_;rw[bg,aG,c,bA,fX]
  lia
def Mw(d:Pl):(L8 d).length<=d.length:=by
 unfold Po.L8;rw[aG];refine bD (cC _ _) ?_;rw[(sortI_perm _).length_eq,aG];exact aO _
abbrev turn (a:Pl):Pl:=a.reverse.map λp=>(-p.1,p.2)
abbrev iv (d:Pl):List (Int×A):=d.map λp=>(p.1,.int p.2)
abbrev pA (p:Int×Int):A:=.tup [.int p.1,.int p.2]
abbrev pl (l:Pl):ae:=l.map pA
def Ar(d:Pl)(k:Int):l_ (iv d) k=(d.find? λp=>decide<|p.1=k).map λp=>.int p.2:=by
 unfold l_ iv;rw[iA,eX];rfl
def yS(d:Pl)(k:Int):(l_ (iv d) k).getD (.int 0)=.int (val d k):=by
 rw[Ar];unfold val
 cases d.find? λp=>decide (p.1=k)<;>rfl
def vg{d:Pl}{k:Int}(h:k∈d.map Prod.fst):l_ (iv d) k=some (.int<|val d k):=by
 have:=uz.mpr h;unfold has at this;rw[Ar];unfold val
 cases e:d.find? λp=>decide (p.1=k)with
 | some p=>rfl
 | none=>
  obtain⟨p,f,c⟩:=gC.mp this;exact absurd c<|fZ.mp e p f
def zl(d:Pl)(k v:Int):sZ (iv d) k (.int v)=iv (put d k v):=by
 have e:(l_ (iv d) k).isSome=has d k:=by
  rw[Ar,gf];unfold has;rw[Bool.eq_iff_iff,gg,gC]
 unfold sZ put;rw[e];unfold iv;split
 ·rw[bB,bB];apply dh;intro p _;show(if p.1=k then(p.1,A.int v)else(p.1,.int p.2))=_;show _=((if p.1=k then(p.1,v)else p).1,A.int (if p.1=k then(p.1,v)else p).2);split<;>rfl
 ·rw[bQ];rfl
def Wy(d:Pl):(iv d).map Prod.fst=d.map Prod.fst:=by
 unfold iv;rw[bB];rfl
theorem OV:∀l:Pl,VY (pl l)=some (iv l)
 | []=>rfl
 | p::l=>by
  show(VY<|pl l).map _=_;rw[OV l];rfl
def KY(l:Pl):Wn (iv l)=iv (TV [] l):=by
 have:∀(l d:Pl),(iv l).foldl (λacc p=>sZ acc p.1 p.2) (iv d)=iv (TV d l):=by
  intro l
  induction l with
  | nil=>intro d;rfl
  | cons p l c=>
   intro d;show(iv l).foldl _ (sZ (iv d) p.1<|.int p.2)=_;rw[zl,c];rfl
 exact this l []
end Po
namespace Tb
abbrev fg (r:ag)(x:Int):Nat:=r.findIdx λy=>decide<|x<y
abbrev put:List (ag)->Int->List (ag)
 | [],x=>[[x]]
 | r::rs,x=>if fg r x=r.length then(r++[x])::rs else r.set (fg r x) x::put rs (r.getD (fg r x) 0)
abbrev row:List (ag)->Int->Nat
 | [],_=>0
 | r::rs,x=>if fg r x=r.length then 0 else row rs (r.getD (fg r x) 0)+1
abbrev add:List (ag)->Nat->Int->List (ag)
 | [],_,k=>[[k]]
 | q::qs,0,k=>(q++[k])::qs
 | q::qs,i+1,k=>q::add qs i k
abbrev gs (r:ag)(x:Int):am:=(List.range r.length).filter λk=>decide<|x<r.getD k 0
end Tb
namespace Am
open PySem L2
abbrev Rows (S:jT):am->List (ag)->Prop
 | [],[]=>True
 | r::rs,x::T=>jU S r=some (x.map .int)/\Rows S rs T
 | _,_=>False
def eq_nil{a b:Nat}{xs:ae}(h:jU S a=some xs)(h':jU S b=some []):Xg S 12 (.ref a) (.ref b)=some xs.isEmpty:=by
 show(jU S a).bind (λxs=>(jU S b).bind λys=>abZ (Xg S 11) xs ys)=_;rw[h,iK,h',iK]
 cases xs<;>rfl
def YE{a b:A}{k:Bool}(h:Xg S 12 a b=some k):yN false a b S=.ok (.bl k) S:=by unfold yN;rw[h];rfl
def SH{a b:A}{k:Bool}(h:Xg S 12 a b=some k):yN true a b S=.ok (.bl<|!k) S:=by unfold yN;rw[h];rfl
def Pa{xs:ae}{n:Nat}{src:Ic}{t:Te}{e:Ex}{S:jT}(hs:src τ S=.ok (nY n xs.length) S)(J:jU S n=some xs)(p:A->Bool)(f:A->A)
  (U:∀x∈xs,t (x::nV cap τ) S=.ok (p x) S) (he:∀x∈xs,p x=true->e (x::nV cap τ) S=.ok (f x) S) (hl:xs.length<=16777216) :
  mR (none::cap) src (kY 0) t e τ S=.ok (.ref S.length) (S++[.lst<|(xs.filter p).map f]):=by
 have c:∀i,i<xs.length->xs.getD i .unb∈xs:=λi hi=>by
  rw[aK,aE hi];exact fP hi
 rw[Di hs (λi=>xs.getD i .unb) (λi=>p<|xs.getD i .unb) (λi=>f<|xs.getD i .unb) (λi hi=>by
  have hi:i<xs.length:=hi;show(jU S n).bind _=_;rw[J,iK,aK,aE hi];rfl) (by
   show(match jU S n with
    | some ys=>decide (ys.length<=xs.length)
    | none=>false)=true
   rw[J];simp) (λi hi=>U _<|c i hi) (λi hi=>he _<|c i hi) hl]
 have:=p6 xs p f .unb;show R.ok _ (S++[O.lst<|((List.range xs.length).filter _).map _])=_;rw[this]
def getD_at{r:ag}{k:Nat}(h:k<r.length):r[k]?=some (r.getD k 0):=by rw[aK,aE h];rfl
end Am
namespace Am
open PySem L2 Po
def R_(l:Pl):(pl l).length=l.length:=aG ..
def NQ{xs:ae}{n:Nat}{src:Ic}{t:Te}{e:Ex}{S1:jT}(hs:src τ S=.ok (nY n xs.length) S1)(J:jU S1 n=some xs)(p:A->Bool)(f:A->A)
  (U:∀x∈xs,t (x::nV cap τ) S1=.ok (p x) S1) (he:∀x∈xs,p x=true->e (x::nV cap τ) S1=.ok (f x) S1) (hl:xs.length<=16777216) :
  mR (none::cap) src (kY 0) t e τ S=.ok (.ref S1.length) (S1++[.lst<|(xs.filter p).map f]):=by
 have:=Pa (S:=S1) (src:=λ_ _=>.ok (nY n xs.length) S1) (τ:=τ) rfl J p f U he hl;unfold mR at this ⊢;rw[hs];exact this
def t7{S:jT}{d:List<|Int×A}:kQ (S++[.nX d]) S.length=some d:=rV IF
def YS{o:O}{n:Nat}{d:List<|Int×A}(h:kQ S n=some d):kQ (S++[o]) n=some d:=by
 have h':=mK h;exact rV<|by rw[bE (aF.mp h').1];exact h'
def DG{S:jT}{n:Nat}{d:List<|Int×A}(h:kQ S n=some d):n<S.length:=(aF.mp<|mK h).1
def Fg{S:jT}{n:Nat}{d:List<|Int×A}(h:n<S.length):kQ (S.set n<|.nX d) n=some d:=rV<|bO h
def Kp.dk{b:Nat->Prop}(h:Kp b S S')(n:Nat)(d:List<|Int×A)(J:¬b n)(e:kQ S n=some d):kQ S' n=some d:=rV<|h.obj n _ J<|mK e
def Mb{n:Nat}{d:List<|Int×A}(h:kQ S n=some d)(h':jU S m=some xs):n≠m:=λz=>by
 subst z;have e1:=mK h;rw[kc h']at e1
 cases e1
def Ag{f:A->ae->jT->R A}{co:Ex}{d:qQ}:GP f co d τ S=(co τ S).bind λx S1=>opt (dk? x S1) λ_=>(d τ S1).bind λas S2=>f x as S2:=rfl
def EM{n:Nat}:dk? (.ref n) S=(kQ S n).map λ_=>Unit.unit:=rfl
def yo{n:Nat}{k:Int}:wQ (.ref n) [.int k,y] S=opt (kQ S n) λkvs=>.ok ((l_ kvs k).getD y) S:=rfl
def Aq{co J:Ex}{a:A}:Ga co J a τ S=(co τ S).bind λo S1=>(J τ S1).bind λi S2=>(Dg o i a S2).bind λ_ S3=>.ok τ S3:=rfl
def ym{n:Nat}{k:Int}{v:A}{S:jT}:Dg (.ref n) (.int k) v S=opt (kQ S n) λkvs=>gd (kvs.length<sizeLine) (.ok Unit.unit<|S.set n<|.nX<|sZ kvs k v):=rfl
def LL{n:Nat}{k:Int}:B6 (.ref n) (.int k) S=opt (kQ S n) λkvs=>opt (l_ kvs k) λv=>.ok v S:=rfl
def qT{S:jT}:uK τ S=.ok (.ref S.length) (S++[.nX []]):=rfl
def NK{n:Nat}{S:jT}:BW (.ref n) S=opt (kQ S n) λkvs=>.ok (.ref S.length) (S++[.lst<|(sortI<|kvs.map Prod.fst).map .int]):=rfl
def Dr{n:Nat}{S:jT}:EG (.ref n) S=opt (jU S n) λxs=>opt (VY xs) λps=>.ok (.ref S.length) (S++[.nX<|Wn ps]):=rfl
def ab2{i j:Int}(h:i.natAbs<big)(h':j.natAbs<big):GY (.int i) (.int j) S=.ok (.int<|i * j) S:=nS ⟨h,h'⟩
def FW(d:Pl):(iv d).length=d.length:=aG ..
meta abbrev ZE:Sm:=kR (j6 mF (GP wQ (jR 2)<|jQ (jR 3)<|jQ (eC<|.int 0)<|j5)<|jR 4)<|Ga (jR 2)<|jR 3
def acc_step{S:jT}{d:Nat}{D:Pl}{k v:Int}(J:kQ S d=some (iv D))(U:D.length<16777216):ZE [x0,x1,.ref d,.int k,.int v] S=.nx [x0,x1,.ref d,.int k,.int v] (S.set d<|.nX<|iv<|acc D k v):=by
 unfold ZE;dsimp[kL,bools,Ag,EM,J,dB,yo,yS,Aq,ym,uE<|show(iv D).length<16777216 by rw[FW];exact U,zl];rfl
meta abbrev OL:Tg:=Iw 2<|yM (kY 3)<|yM (kY 4) JK
def Wa{d n:Nat}{D l:Pl}{src:Ic}(hs:src [x0,x1,.ref d,x3,x4] S=.ok (nY n (pl l).length) S1)(hn:jU S1 n=some (pl l))(J:kQ S1 d=some (iv D))(U:D.length+l.length<16777216) :
  ∃y3 y4 S',mw src OL ZE [x0,x1,.ref d,x3,x4] S=.nx [x0,x1,.ref d,y3,y4] S'/\kQ S' d=some (iv<|pW D l)/\Kp (·=d) S1 S':=by
 have nd:=Mb J hn;refine rY (n:=n) (xs:=pl l) hs (λi τ T=>(∃y3 y4,τ=[x0,x1,.ref d,y3,y4])/\kQ T d=some (iv<|pW D<|l.take i)/\Kp (·=d) S1 T)
  (λr=>∃y3 y4 S',r=.nx [x0,x1,.ref d,y3,y4] S'/\kQ S' d=some (iv<|pW D l)/\Kp (·=d) S1 S') ⟨⟨_,_,rfl⟩,J,Kp.refl⟩ (λi τ T h=>h.2.2.lst _ _ (di nd) hn) ?_ ?_
 ·rintro i z τ T f ⟨⟨y3,y4,rfl⟩,c,kp⟩;unfold pl at f;rw[aQ]at f;obtain⟨p,g,rfl⟩:=aY.mp f;refine⟨[x0,x1,.ref d,.int p.1,.int p.2],T,rfl,.inl ?_⟩;have e:=pJ (l.take i) D;have hi:=(aF.mp g).1;rw[bI]at e;refine⟨_,_,acc_step c<|by omega,⟨_,_,rfl⟩,?_,kp.yW<|.inl rfl⟩;rw[Fg<|DG c,cL,g,x_];rfl
 ·rintro τ T ⟨⟨y3,y4,rfl⟩,c,kp⟩;rw[R_,cH]at c;exact⟨y3,y4,T,rfl,c,kp⟩
meta abbrev Vi:Sm:=kR (j6 mF (GP wQ (jR 2)<|jQ (j6 mF (jR 3)<|jR 5)<|jQ (eC<|.int 0)<|j5)<|j6 GY (jR 4)<|jR 6)<|Ga (jR 2)<|j6 mF (jR 3)<|jR 5
meta abbrev g56:Tg:=Iw 2<|yM (kY 5)<|yM (kY 6) JK
def UR{S:jT}{d:Nat}{D:Pl}{k v j u:Int}(J:kQ S d=some (iv D))(U:D.length<16777216)(hv:v.natAbs<big)(hu:u.natAbs<big):Vi [x0,x1,.ref d,.int k,.int v,.int j,.int u] S=.nx [x0,x1,.ref d,.int k,.int v,.int j,.int u] (S.set d<|.nX<|iv<|acc D (k+j)<|v * u):=by
 unfold Vi;dsimp[kL,bools,Ag,EM,J,dB,yo,yS,ab2 hv hu,Aq,ym,uE<|show(iv D).length<16777216 by rw[FW];exact U,zl];rfl
def WQ{d n:Nat}{D l:Pl}{k v:Int}(hn:jU S n=some (pl l))(J:kQ S d=some (iv D))(hl:D.length+l.length<16777216)(hv:v.natAbs<big)(U:∀p∈l,p.2.natAbs<big) :
  ∃y5 y6 S',mw (pV<|jR 1) g56 Vi [x0,.ref n,.ref d,.int k,.int v,x5,x6] S=.nx [x0,.ref n,.ref d,.int k,.int v,y5,y6] S'/\kQ S' d=some (iv<|pW D<|l.map λq=>(k+q.1,v * q.2))/\Kp (·=d) S S':=by
 have nd:=Mb J hn;refine rY (n:=n) (xs:=pl l) (S1:=S) (qy (by dsimp[kL,bools]) hn) (λi τ T=>(∃y5 y6,τ=[x0,.ref n,.ref d,.int k,.int v,y5,y6])/\kQ T d=some (iv<|pW D<|(l.take i).map λq=>(k+q.1,v * q.2))/\Kp (·=d) S T)
  (λr=>∃y5 y6 S',r=.nx [x0,.ref n,.ref d,.int k,.int v,y5,y6] S'/\kQ S' d=some (iv<|pW D<|l.map λq=>(k+q.1,v * q.2))/\Kp (·=d) S S') ⟨⟨_,_,rfl⟩,J,Kp.refl⟩ (λi τ T h=>h.2.2.lst _ _ (di nd) hn) ?_ ?_
 ·rintro i z τ T g ⟨⟨y5,y6,rfl⟩,e,kp⟩;unfold pl at g;rw[aQ]at g;obtain⟨p,f,rfl⟩:=aY.mp g;refine⟨[x0,.ref n,.ref d,.int k,.int v,.int p.1,.int p.2],T,rfl,.inl ?_⟩;have c:=pJ ((l.take i).map λq=>(k+q.1,v * q.2)) D;have hi:=(aF.mp f).1;rw[aG,bI]at c;refine⟨_,_,UR e (by omega) hv<|U p<|aX f,⟨_,_,rfl⟩,?_,kp.yW<|.inl rfl⟩;rw[Fg<|DG e,cL,f,bQ,x_];rfl
 ·rintro τ T ⟨⟨y5,y6,rfl⟩,e,kp⟩;rw[R_,cH]at e;exact⟨y5,y6,T,rfl,e,kp⟩
meta abbrev ZV:Sm:=mw (pV<|jR 1) g56 Vi
def IK(f:Int×Int->A)(hf:∀p τ S,OL (f p) τ S=OL (pA p) τ S){d n:Nat}{a b:Pl}(hn:jU S n=some (a.map f))(hm:jU S m=some (pl b))(U:kQ S d=some [])(hl:a.length * b.length<16777216)(ha:∀p∈a,p.2.natAbs<big)(hb:∀p∈b,p.2.natAbs<big) :
  ∃y3 y4 y5 y6 S',mw (pV<|jR 0) OL ZV [.ref n,.ref m,.ref d,x3,x4,x5,x6] S=.nx [.ref n,.ref m,.ref d,y3,y4,y5,y6] S'/\kQ S' d=some (iv<|pW []<|Ie a b)/\Kp (·=d) S S':=by
 have nd:=Mb U hn;have G:=Mb U hm;refine rY (n:=n) (xs:=a.map f) (S1:=S) (qy (by dsimp[kL,bools]) hn) (λi τ T=>(∃y3 y4 y5 y6,τ=[.ref n,.ref m,.ref d,y3,y4,y5,y6])/\kQ T d=some (iv<|pW []<|Ie (a.take i) b)/\Kp (·=d) S T)
  (λr=>∃y3 y4 y5 y6 S',r=.nx [.ref n,.ref m,.ref d,y3,y4,y5,y6] S'/\kQ S' d=some (iv<|pW []<|Ie a b)/\Kp (·=d) S S') ⟨⟨_,_,_,_,rfl⟩,U,Kp.refl⟩ (λi τ T h=>h.2.2.lst _ _ (di nd) hn) ?_ ?_
 ·rintro i z τ T F ⟨⟨y3,y4,y5,y6,rfl⟩,g,kp⟩;rw[aQ]at F;obtain⟨p,q,rfl⟩:=aY.mp F;refine⟨[.ref n,.ref m,.ref d,.int p.1,.int p.2,y5,y6],T,hf _ _ _,.inl ?_⟩;have c:=pJ (Ie (a.take i) b) [];have hi:=(aF.mp q).1;rw[E3,bI,iV<|i9 hi,cX,cU]at c;have C:i * b.length+b.length<=a.length * b.length:=by rw[<- fX];exact c7 _ hi
  obtain⟨K,L,J,e,j,B⟩:=WQ (x0:=.ref n) (x5:=y5) (x6:=y6) (k:=p.1) (v:=p.2) (kp.lst _ _ (di G) hm) g () (ha p<|aX q) hb;refine⟨_,_,e,⟨_,_,_,_,rfl⟩,?_,kp.trans B⟩;rw[j,cL,q,Option.toList_some,OP,x_]
 ·rintro τ T ⟨⟨y3,y4,y5,y6,rfl⟩,g,kp⟩;rw[aG,cH]at g;exact⟨y3,y4,y5,y6,T,rfl,g,kp⟩
meta abbrev aeF:Ex:=mR [none,some 0] (pV<|kG (f1 BW)<|jQ (jR 0)<|j5) (kY 0) (uf<|j6 (yN true) (j6 B6 (jR 1)<|jR 0)<|eC<|.int 0)<|wJ<|jQ (jR 0)<|jQ (j6 B6 (jR 1)<|jR 0)<|j5
def aaz{S:jT}{d:Nat}{D:Pl}(J:kQ S d=some (iv D))(U:D.length<=16777216):∃S',aeF [.ref d] S=.ok (.ref<|S.length+1) S'/\jU S' (S.length+1)=some (pl<|L8 D)/\nt S S':=by
 have f:kQ (S++[.lst<|(sortI<|D.map Prod.fst).map .int]) d=some (iv D):=YS J;have j:(S++[O.lst<|(sortI<|D.map Prod.fst).map A.int]).length=S.length+1:=by simp
 have m:=NQ (n:=S.length) (xs:=(sortI<|D.map Prod.fst).map A.int) (cap:=[some 0]) (src:=pV<|kG (f1 BW)<|jQ (jR 0)<|j5) (t:=uf<|j6 (yN true) (j6 B6 (jR 1)<|jR 0)<|eC<|.int 0) (e:=wJ<|jQ (jR 0)<|jQ (j6 B6 (jR 1)<|jR 0)<|j5) (τ:=[.ref d]) (S:=S) (S1:=S++[.lst<|(sortI<|D.map Prod.fst).map .int])
  (qy (by dsimp[kL,bools,NK,J,Wy]) ki) ki (λx=>match x with | .int k=>val D k != 0|_=>false) (λx=>match x with | .int k=>pA (k,val D k)|_=>.non) (λx g=>by
   obtain⟨k,c,rfl⟩:=aW.mp g;have c:=(sortI_perm _).mem_iff.mp c;dsimp[kL,bools,LL,f,vg c];rfl) (λx g _=>by
   obtain⟨k,c,rfl⟩:=aW.mp g;have c:=(sortI_perm _).mem_iff.mp c;dsimp[kL,bools,LL,f,vg c];exact vA<|show 2<=16777216 by decide) (by rw[aG,(sortI_perm _).length_eq,aG];exact U)
 refine⟨_,m.trans<|by rw[j],?_,Kp.refl.lay.lay⟩;rw[<- j,ki];congr 1;unfold pl L8;rw[bB,jJ,bB];rfl
end Am
namespace Su
open Am Po PySem L2
meta abbrev En:=ag×Nat×Pl
meta abbrev Es:=List En
abbrev ent (e:En):A:=.tup [.tup<|e.1.map .int,.ref e.2.1]
abbrev kv (e:En):ag×A:=(e.1,.ref e.2.1)
abbrev At (S:jT)(es:Es):Prop:=∀e∈es,jU S e.2.1=some (pl e.2.2)
meta abbrev Ps:=List<|ag×Pl
abbrev sm (es:Es):Ps:=es.map λe=>(e.1,e.2.2)
def vI(es:Es):(sm es).length=es.length:=aG ..
def zz(a b:Es):sm (a++b)=sm a++sm b:=bQ
abbrev vS (D:Ps)(o:ag):Pl:=((D.find? λe=>decide<|e.1=o).map (·.2)).getD []
abbrev hS (D:Ps)(o:ag):Bool:=D.any λe=>decide<|e.1=o
abbrev zx (D:Ps)(o:ag)(p:Pl):Ps:=if hS D o=true then D.map (λe=>if e.1=o then(e.1,p)else e)else D++[(o,p)]
abbrev B0 (D:Ps)(o:ag)(p:Pl):Ps:=zx D o<|qk (vS D o) p
abbrev adds (D l:Ps):Ps:=l.foldl (λD e=>B0 D e.1 e.2) D
def Uj(D a b:Ps):adds D (a++b)=adds (adds D a) b:=by unfold adds;rw[dw]
abbrev toS (D:Ps):Ps:=((mO<|D.map Prod.fst).filter λo=>!(vS D o).isEmpty).map λo=>(o,vS D o)
abbrev fE (D:Es)(o:ag):Option En:=D.find? λe=>decide<|e.1=o
abbrev mT (D:Es)(o:ag)(r:Nat)(p:Pl):Es:=if (fE D o).isSome=true then D.map (λe=>if e.1=o then(e.1,r,p)else e)else D++[(o,r,p)]
def W4(D:Es)(o:ag):(sm D).find? (λe=>decide<|e.1=o)=(fE D o).map λe=>(e.1,e.2.2):=by
 unfold sm fE;rw[iA];rfl
def F6(D:Es)(o:ag):vS (sm D) o=((fE D o).map λe=>e.2.2).getD []:=by
 unfold vS;rw[W4,eX];rfl
def aem(D:Es)(o:ag):hS (sm D) o=(fE D o).isSome:=by
 unfold hS sm fE;rw[List.any_map,Bool.eq_iff_iff,gg,gC];rfl
def EL(D:Es)(o:ag)(r:Nat)(p:Pl):sm (mT D o r p)=zx (sm D) o p:=by
 unfold mT zx;rw[aem];unfold sm;split
 ·rw[bB,bB];apply dh;intro e _;show((if e.1=o then(e.1,r,p)else e).1,(if e.1=o then(e.1,r,p)else e).2.2)=if e.1=o then(e.1,p)else(e.1,e.2.2)
  split<;>rfl
 ·rw[bQ];rfl
def nP(D:Es)(o:ag):lg (D.map kv) o=(fE D o).map λe=>.ref e.2.1:=by
 unfold lg fE;rw[iA,eX];rfl
def BR(D:Es)(o:ag)(r:Nat)(p:Pl):putD (D.map kv) o (.ref r)=(mT D o r p).map kv:=by
 unfold putD mT;rw[nP,gf];split
 ·rw[bB,bB];apply dh;intro e _;show(if e.1=o then(e.1,A.ref r)else(e.1,.ref e.2.1))=kv (if e.1=o then(e.1,r,p)else e);split<;>rfl
 ·rw[bQ];rfl
def oz{D:Es}{r:Nat}{p:Pl}{e:En}(h:e∈mT D o r p):e∈D\/e=(o,r,p):=by
 unfold mT at h;split at h
 ·obtain⟨d,h1,rfl⟩:=aW.mp h;split
  ·rename_i c;exact .inr (by rw[c])
  ·exact .inl h1
 ·rcases br.mp h with z|z
  ·exact .inl z
  ·exact .inr<|aP.mp z
def Wz{D:Es}{r:Nat}{p:Pl}:(mT D o r p).length<=D.length+1:=by
 unfold mT;split
 ·rw[aG];lia
 ·rw[bg];exact aO _
def pT{D:Es}{e:En}(h:fE D o=some e):e∈D/\e.1=o:=⟨e_ h,by
 unfold fE at h;have:=iW h;simpa using this⟩
def At.put{D:Es}{r:Nat}{p:Pl}(h:At S D)(J:jU S r=some (pl p)):At S (mT D o r p):=λe c=>by
 rcases oz c with z|z
 ·exact h e z
 ·rw[z];exact J
def At.kp{D:Es}{b:Nat->Prop}(h:At S D)(k:Kp b S S')(J:∀e∈D,¬b e.2.1):At S' D:=λe c=>k.lst _ _ (J e c)<|h e c
def At.yC{D:Es}(h:At S D)(k:nt S S'):At S' D:=h.kp k λ_ _ z=>z
def At.app{a b:Es}(h:At S a)(h':At S b):At S (a++b):=λe c=>(br.mp c).elim (h e)<|h' e
def uq{n:Nat}{d:List<|ag×A}(h:kj S n=some d)(h':jU S m=some xs):n≠m:=λz=>by
 subst z;have e1:=mL h;rw[kc h']at e1
 cases e1
def At.Oi{D:Es}{d:Nat}(h:At S D)(k:Kp (·=d) S S')(J:kj S d=some kvs):At S' D:=h.kp k λe c z=>uq J (h e c) z.symm
abbrev Vl (k b:Nat)(D:Es):Prop:=∀e∈D,Ok e.2.2/\e.2.2.length<=k/\b<=e.2.1
def Vl.mono{k b:Nat}{D:Es}(h:Vl k b D)(J:k<=k'):Vl k' b D:=λe c=>⟨(h e c).1,bD (h e c).2.1 J,(h e c).2.2⟩
def Vl.v{k b:Nat}{D:Es}(h:Vl k b D)(o:ag):Ok (vS (sm D) o)/\(vS (sm D) o).length<=k:=by
 rw[F6]
 cases e:fE D o with
 | none=>exact⟨⟨List.Pairwise.nil,nofun⟩,bL _⟩
 | some c=>exact⟨(h c (pT e).1).1,(h c (pT e).1).2.1⟩
def NZ(a b:Pl):(qk a b).length<=a.length+b.length:=by
 refine bD (Mw _)<|bD (pJ _ _) ?_;rw[bg,cX];lia
def CW(a b:Pl):(times a b).length<=a.length * b.length:=by
 refine bD (Mw _)<|bD (pJ _ _) ?_;rw[E3,cX];lia
def Vl.add{k b r:Nat}{D:Es}{p:Pl}(h:Vl k b D)(U:p.length<=j)(J:b<=r):Vl (k+j) b (mT D o r<|qk (vS (sm D) o) p):=λe c=>by
 rcases oz c with z|z
 ·exact(h.mono<|iL _ _) e z
 ·rw[z];refine⟨Hr _ _,?_,J⟩;have:=NZ (vS (sm D) o) p;have:=(h.v o).2;show(qk (vS (sm D) o) p).length<=_
  lia
def o8{S:jT}:kj (S++[.dct xs]) S.length=some xs:=tB IF
def LG{o:O}{n:Nat}(h:kj S n=some xs):kj (S++[o]) n=some xs:=by
 have h':=mL h;exact tB<|by rw[bE (aF.mp h').1];exact h'
def oS{S:jT}{n:Nat}(h:kj S n=some xs):n<S.length:=(aF.mp<|mL h).1
def wD{S:jT}{n:Nat}(h:n<S.length):kj (S.set n<|.dct ys) n=some ys:=tB<|bO h
def LQ{f:A->ae->jT->R A}{co:Ex}{d:qQ}:WB f co d τ S=(co τ S).bind λx S1=>opt (dct? x S1) λ_=>(d τ S1).bind λas S2=>f x as S2:=rfl
def M9{n:Nat}:dct? (.ref n) S=(kj S n).map λ_=>Unit.unit:=rfl
def oh{S:jT}:vG τ S=.ok (.ref S.length) (S++[.dct []]):=rfl
def ug{co J:Ex}{a:A}:Co co J a τ S=(co τ S).bind λo S1=>(J τ S1).bind λi S2=>(yu o i a S2).bind λ_ S3=>.ok τ S3:=rfl
def MB{n:Nat}{o:ag}:Sk (.ref n) [.tup<|o.map .int,y] S=opt (kj S n) λkvs=>.ok ((lg kvs o).getD y) S:=by
 show opt (kj S n) (λkvs=>opt (A.ints<|o.map .int) λk=>.ok ((lg kvs k).getD y) S)=_;rw[ints_map];rfl
def tF{n:Nat}{o:ag}{v:A}{S:jT}:yu (.ref n) (.tup<|o.map .int) v S=opt (kj S n) λkvs=>gd (kvs.length<sizeLine) (.ok Unit.unit<|S.set n<|.dct<|putD kvs o v):=by
 show opt (kj S n) (λkvs=>opt (A.ints<|o.map .int) λc=>gd (kvs.length<sizeLine)<|.ok Unit.unit<|S.set n<|.dct<|putD kvs c v)=_;rw[ints_map];rfl
def yL{n:Nat}{o:ag}:zZ (.ref n) (.tup<|o.map .int) S=opt (kj S n) λkvs=>opt (lg kvs o) λv=>.ok v S:=by
 show opt (kj S n) (λkvs=>opt (A.ints<|o.map .int) λc=>opt (lg kvs c) λv=>.ok v S)=_;rw[ints_map];rfl
def get_or{S:jT}{d:Nat}{D:Es}(U:kj S d=some (D.map kv))(J:At S D):∃x:Nat,(lg (D.map kv) o).getD (.ref S.length)=.ref x/\jU (S++[.lst []]) x=some (pl<|vS (sm D) o):=by
 rw[nP,F6]
 cases e:fE D o with
 | none=>exact⟨S.length,rfl,ki⟩
 | some c=>exact⟨c.2.1,rfl,k_<|J c (pT e).1⟩
def Az{α:Type}{xs:List α}(g:α->A){n:Nat}{src:Ic}{t:Te}{e:Ex}(hs:src τ S=.ok (nY n (xs.map g).length) S1)(J:jU S1 n=some (xs.map g))(d:α)(p:α->Bool)(f:α->A)
  (step:∀x∈xs,∀T,nt S1 T->∃T1,t (g x::nV cap τ) T=.ok (p x) T1/\nt S1 T1/\(p x=true->∃T2,e (g x::nV cap τ) T1=.ok (f x) T2/\nt S1 T2)) (U:xs.length<=16777216) :
  ∃S',mR (none::cap) src (kY 0) t e τ S=.ok (.ref S'.length) (S'++[.lst<|(xs.filter p).map f])/\nt S1 S':=by
 have m:∀i,i<xs.length->xs.getD i d∈xs:=λi hi=>by
  rw[aK,aE hi];exact fP hi
 have k:(xs.map g).length=xs.length:=aG ..;obtain⟨S',h1,h2⟩:=yr (s:=nY n (xs.map g).length) (g:=kY 0) (t:=t) (e:=e) (P:=λT=>nt S1 T) (T:=λc=>∃y,c=y::nV cap τ) (λi=>g<|xs.getD i d) (λi=>p<|xs.getD i d) (λi=>f<|xs.getD i d) (λi T hi h=>by
   have hi:i<(xs.map g).length:=hi;show(jU T n).bind _=_;rw[h.lst _ _ (λz=>z) J,iK,aQ,aE (),aK,aE ()];rfl) (λT h=>by
   show(match jU T n with
    | some ys=>decide (ys.length<=(xs.map g).length)
    | none=>false)=true
   rw[h.lst _ _ (λz=>z) J];simp)
  (λi c T hi ⟨y,q⟩ h=>by
   have hi:i<(xs.map g).length:=hi;subst q;obtain⟨T1,e1,j,e2⟩:=step _ (m i ()) T h;exact⟨g (xs.getD i d)::nV cap τ,T,T1,rfl,e1,⟨_,rfl⟩,λ_=>j,e2⟩) (xs.map g).length 0 (nV (none::cap) τ) S1 rfl ⟨_,rfl⟩ Kp.refl
 refine⟨S',?_,h2⟩;unfold mR;rw[hs,R.oq];show(rD (nY n (xs.map g).length) (kY 0) t e (xs.map g).length 0 (nV (none::cap) τ) S1).ye _=_;rw[h1,R.oX,<- gq,k,p6 xs p f d];refine lK ?_;rw[aG];exact bD (cC _ _) U
def Hx{D:Es}{o:ag}(h:o∈D.map Prod.fst):∃e,fE D o=some e:=by
 unfold fE
 cases e:D.find? λe=>decide (e.1=o)with
 | some x=>exact⟨x,rfl⟩
 | none=>
  obtain⟨x,c,rfl⟩:=aW.mp h;exact absurd (a_ rfl)<|fZ.mp e x c
abbrev Cp (k:ag):A:=.tup<|k.map .int
def O1{S:jT}{d:Nat}{D:Es}(U:kj S d=some (D.map kv))(J:∀e∈D,e.1≠[]):E_ (.ref d) S=.ok (.ref S.length) (S++[.lst<|(mO<|D.map Prod.fst).map Cp]):=by
 have c:(D.map kv).map Prod.fst=D.map Prod.fst:=by rw[bB];rfl
 show opt (kj S d) _=_;rw[U,kg];have:((D.map kv).map Prod.fst).all (λks=>!ks.isEmpty)=true:=by
  rw[c,all_map,eS];intro e f;have:=J e f;show(!(e.1).isEmpty)=true
  cases h:e.1 with
  | nil=>exact absurd h this
  | cons=>rfl
 rw[c]at this ⊢;rw[this];rfl
abbrev xm (D:Es)(p:Pl->Bool):Es:=((mO<|D.map Prod.fst).filter λo=>p<|vS (sm D) o).map λo=>(o,((fE D o).map λe=>e.2.1).getD 0,vS (sm D) o)
def Et(D:Es):sm (xm D λp=>!p.isEmpty)=toS (sm D):=by
 unfold xm toS sm;rw[bB,bB];rfl
def FG{D:Es}{p:Pl->Bool}{e:En}(h:e∈xm D p):e∈D/\p e.2.2=true:=by
 obtain⟨o,d,rfl⟩:=aW.mp h;obtain⟨h1,h2⟩:=bK.mp d;obtain⟨e,c⟩:=Hx<|(kO _).mem_iff.mp h1;rw[F6,c]at h2;rw[F6,c];obtain⟨m,rfl⟩:=pT c;exact⟨m,h2⟩
def QT{S:jT}{d:Nat}{D:Es}{src:Ic}{t:Te}{e:Ex}(U:kj S d=some (D.map kv))(J:At S D)(hs:src τ S=.ok (nY S.length ((mO<|D.map Prod.fst).map Cp).length) (S++[.lst<|(mO<|D.map Prod.fst).map Cp]))(p:Pl->Bool)
  (ht:∀(o:ag) (r:Nat) (q:Pl) (T:jT),kj T d=some (D.map kv)->lg (D.map kv) o=some (.ref r)->jU T r=some (pl q)->∃T1,t (Cp o::nV cap τ) T=.ok (p q) T1/\nt T T1)
  (he:∀(o:ag) (r:Nat) (T:jT),kj T d=some (D.map kv)->lg (D.map kv) o=some (.ref r)->e (Cp o::nV cap τ) T=.ok (.tup [Cp o,.ref r]) T) (hl:D.length<=16777216) :
  ∃(n:Nat) (S':jT),mR (none::cap) src (kY 0) t e τ S=.ok (.ref n) S'/\jU S' n=some ((xm D p).map ent)/\At S' (xm D p)/\S.length<n/\nt S S':=by
 have B:nt S (S++[.lst<|(mO<|D.map Prod.fst).map Cp]):=Kp.refl.lay;obtain⟨S',e1,m⟩:=Az Cp (t:=t) (e:=e) (cap:=cap) hs ki [] (λo=>p<|vS (sm D) o) (λo=>ent (o,((fE D o).map λe=>e.2.1).getD 0,vS (sm D) o)) (λo G T j=>by
  obtain⟨g,c⟩:=Hx<|(kO _).mem_iff.mp G;have k:lg (D.map kv) o=some (.ref g.2.1):=by rw[nP,c];rfl
  have f:=B.trans j;have dT:=f.dct _ _ (λz=>z) U;have F:=f.lst _ _ (λz=>z)<|J g (pT c).1;obtain⟨T1,h1,h2⟩:=ht o g.2.1 g.2.2 T dT k F;rw[F6,c];exact⟨T1,h1,j.trans h2,λ_=>⟨T1,he o g.2.1 T1 (h2.dct _ _ (λz=>z) dT) k,j.trans h2⟩⟩) (by
  rw[(kO _).length_eq,aG];exact hl)
 have C:=B.trans m;refine⟨S'.length,_,e1,?_,(?_:At S'<|xm D p).yC Kp.refl.lay,?_,C.lay⟩
 ·rw[ki];unfold xm;rw[bB];rfl
 ·exact λe h=>C.lst _ _ (λz=>z) (J e (FG h).1)
 ·have:=m.len;rw[bg]at this;exact this
abbrev FF (F:ae->jT->R A):Prop:=∀{S:jT}{d r:Nat}{D:Es}{o:ag}{p:Pl}{k b:Nat},kj S d=some (D.map kv)->At S D->Vl k b D->jU S r=some (pl p)->D.length<16777216->k+p.length<16777216 ->
  ∃(L:Nat) (c:jT),F [.ref d,.tup<|o.map .int,.ref r] S=.ok .non c/\kj c d=some ((mT D o L<|qk (vS (sm D) o) p).map kv)/\At c (mT D o L<|qk (vS (sm D) o) p)/\S.length<=L/\Kp (·=d) S c
abbrev Ap (D:Es):Prop:=D.Pairwise λe f=>e.1≠f.1/\e.2.1≠f.2.1
def Ap.put{D:Es}{r:Nat}{p:Pl}(h:Ap D)(J:∀e∈D,e.2.1≠r):Ap (mT D o r p):=by
 unfold mT;split
 ·unfold Ap;rw[cK];refine List.Pairwise.imp_of_mem (λ{e f} d hf z=>?_) h;by_cases c1:e.1=o
  ·have c2:¬f.1=o:=λg=>z.1<|c1.trans g.symm;rw[aJ c1,aI c2];exact⟨z.1,λy=>J f hf y.symm⟩
  ·rw[aI c1];by_cases c2:f.1=o
   ·rw[aJ c2];exact⟨z.1,J e d⟩
   ·rw[aI c2];exact z
 ·rename_i c;unfold Ap;rw[cj];refine⟨h,cB _ _,λe d f hf=>?_⟩;rw[aP.mp hf];refine⟨λz=>c ?_,J e d⟩;unfold fE;rw[gg];exact⟨e,d,a_ z⟩
theorem Ap.at{D:Es}(h:Ap D):∀e∈D,∀f∈D,e.1≠f.1->e.2.1≠f.2.1:=by
 unfold Ap at h
 induction h with
 | nil=>exact λe c=>nomatch c
 | @cons a D d _ g=>
  intro e c f hf z
  rcases bG.mp c with h1|h1<;>rcases bG.mp hf with h2|h2
  ·exact absurd (by rw[h1,h2]) z
  ·rw[h1];exact(d f h2).2
  ·rw[h2];exact(d e h1).2.symm
  ·exact g e h1 f h2 z
def Ap.nd{D:Es}(h:Ap D):(D.map Prod.fst).Nodup:=by
 unfold List.Nodup;rw[cK];exact h.imp λz=>z.1
def Ap.out{D:Es}(h:Ap D)(p:Pl->Bool):Ap (xm D p):=by
 unfold Ap xm;rw[cK];have n:(mO<|D.map Prod.fst).Pairwise (·≠·):=(kO _).nodup_iff.mpr h.nd;refine List.Pairwise.imp_of_mem (λ{a b} ha hb z=>?_)<|n.filter _;obtain⟨e,c⟩:=Hx<|(kO _).mem_iff.mp (bK.mp ha).1;obtain⟨f,hf⟩:=Hx<|(kO _).mem_iff.mp (bK.mp hb).1;obtain⟨d,e1⟩:=pT c;obtain⟨g,e2⟩:=pT hf;refine⟨z,?_⟩;rw[c,hf];exact h.at e d f g<|by rw[e1,e2];exact z
structure Fil (T:jT)(d b i j:Nat)(P:Ps)(D:Es):Prop where
 dd:kj T d=some (D.map kv)
 aa:At T D
 ss:sm D=P
 vv:Vl (i * j) b D
 kk:∀e∈D,e.1≠[]
 ll:D.length<=i
 pw:Ap D
def Fil.mono{d b:Nat}{P:Ps}{D:Es}(h:Fil T d b i j P D)(hi:i<=i'):Fil T d b i' j P D:=⟨h.dd,h.aa,h.ss,h.vv.mono<|c7 _ hi,h.kk,bD h.ll hi,h.pw⟩
def Fil.new{d b:Nat}(J:kj S d=some []):Fil S d b 0 j [] []:=⟨J,(nofun),rfl,(nofun),(nofun),aO _,List.Pairwise.nil⟩
def Fil.yC{d b:Nat}{P:Ps}{D:Es}(h:Fil S d b i j P D)(k:nt S T):Fil T d b i j P D:=⟨k.dct _ _ (λz=>z) h.dd,h.aa.yC k,h.ss,h.vv,h.kk,h.ll,h.pw⟩
def Fil.add{F:ae->jT->R A}(J:FF F){T:jT}{d b r:Nat}{P:Ps}{D:Es}{o:ag}{p:Pl}(h:Fil T d b i j P D)(U:jU T r=some (pl p))(hp:p.length<=j)(ho:o≠[])(hb:b<=T.length)(hl:i * j+j<16777216)(hi:i<16777216) :
  ∃(D':Es) (T':jT),F [.ref d,.tup<|o.map .int,.ref r] T=.ok .non T'/\Fil T' d b (i+1) j (B0 P o p) D'/\Kp (·=d) T T':=by
 have f:=h.ll;obtain⟨L,T',e,h1,h2,h3,g⟩:=J (o:=o) h.dd h.aa h.vv U () ();refine⟨_,T',e,⟨h1,h2,by rw[EL,h.ss];rfl,?_,λe c=>?_,?_,h.pw.put λe c z=>by have:=pF<|h.aa e c;lia⟩,g⟩
 ·have:=h.vv.add (o:=o) (p:=p) (j:=j) hp (show b<=L by lia);rw[fX];exact this
 ·rcases oz c with z|z
  ·exact h.kk e z
  ·rw[z];exact ho
 ·have:=Wz (D:=D) (o:=o) (r:=L) (p:=qk (vS (sm D) o) p)
  lia
def UZ{d n b w:Nat}{P:Ps}{es:Es}{src:Ic}{c:Sm}(G:En->Ps->Ps)(hs:src (x0::x1::.ref d::x3::x4::xs) S=.ok (nY n (es.map ent).length) S1)(hn:jU S1 n=some (es.map ent))(J:Fil S1 d b i0 j P D0)
  (step:∀(i:Nat) (e:En) (T:jT) (Q:Ps) (D:Es),i<es.length->e∈es->Kp (·=d) S1 T->Fil T d b (i0+w * i) j Q D->∃(D':Es) (T':jT),c (x0::x1::.ref d::.tup (e.1.map .int)::.ref e.2.1::xs) T=.nx (x0::x1::.ref d::.tup (e.1.map .int)::.ref e.2.1::xs) T'/\Fil T' d b (i0+w * (i+1)) j (G e Q) D'/\Kp (·=d) T T') :
  ∃(y3 y4:A) (D:Es) (S':jT),mw src OL c (x0::x1::.ref d::x3::x4::xs) S=.nx (x0::x1::.ref d::y3::y4::xs) S'/\Fil S' d b (i0+w * es.length) j (es.foldl (λQ e=>G e Q) P) D/\Kp (·=d) S1 S':=by
 have k:(es.map ent).length=es.length:=aG ..;refine rY (n:=n) (xs:=es.map ent) (S1:=S1) hs (λi τ T=>(∃y3 y4,τ=x0::x1::.ref d::y3::y4::xs)/\(∃D,Fil T d b (i0+w * i) j ((es.take i).foldl (λQ e=>G e Q) P) D)/\Kp (·=d) S1 T)
  (λr=>∃(y3 y4:A) (D:Es) (S':jT),r=.nx (x0::x1::.ref d::y3::y4::xs) S'/\Fil S' d b (i0+w * es.length) j (es.foldl (λQ e=>G e Q) P) D/\Kp (·=d) S1 S') ⟨⟨_,_,rfl⟩,⟨D0,J⟩,Kp.refl⟩ (λi τ T h=>h.2.2.lst _ _ (di<|uq J.dd hn) hn) ?_ ?_
 ·rintro i z τ T m ⟨⟨y3,y4,rfl⟩,⟨D,f⟩,kp⟩;rw[aQ]at m;obtain⟨e,g,rfl⟩:=aY.mp m;refine⟨x0::x1::.ref d::.tup (e.1.map .int)::.ref e.2.1::xs,T,rfl,.inl ?_⟩;obtain⟨D',T',e1,q,p⟩:=step i e T _ D (aF.mp g).1 (aX g) kp f;refine⟨_,T',e1,⟨_,_,rfl⟩,⟨D',?_⟩,kp.trans p⟩;rw[cL,g,dw];exact q
 ·rintro τ T ⟨⟨y3,y4,rfl⟩,⟨D,f⟩,kp⟩;rw[k,cH]at f;exact⟨y3,y4,D,T,rfl,f,kp⟩
def Og(P:Ps)(es:Es):es.foldl (λQ e=>B0 Q e.1 e.2.2) P=adds P (sm es):=by
 unfold adds sm;rw[jL]
def NX(q:Pl)(P:Ps)(es:Es):es.foldl (λQ e=>B0 Q e.1<|times q e.2.2) P=adds P ((sm es).map λe=>(e.1,times q e.2)):=by
 unfold adds sm;rw[jL,jL]
def Vk{F:ae->jT->R A}(hF:FF F){S1:jT}{d n b:Nat}{P:Ps}{es:Es}{src:Ic}(hs:src (x0::x1::.ref d::x3::x4::xs) S=.ok (nY n (es.map ent).length) S1)(hn:jU S1 n=some (es.map ent))(hA:At S1 es)(J:Fil S1 d b i0 j P D0)(hb:b<=S1.length)
  (U:∀e∈es,e.2.2.length<=j/\e.1≠[]) (hl:(i0+es.length) * j+j<16777216) (hl':i0+es.length<16777216) :
  ∃(y3 y4:A) (D:Es) (S':jT),mw src OL (pI<|eFn F<|jQ (jR 2)<|jQ (jR 3)<|jQ (jR 4) j5) (x0::x1::.ref d::x3::x4::xs) S=.nx (x0::x1::.ref d::y3::y4::xs) S'/\Fil S' d b (i0+es.length) j (adds P<|sm es) D/\Kp (·=d) S1 S':=by
 have:=UZ (w:=1) (c:=pI<|eFn F<|jQ (jR 2)<|jQ (jR 3)<|jQ (jR 4) j5) (λe Q=>B0 Q e.1 e.2.2) hs hn J λi e T Q D hi g kp f=>by
  have k:=kp.len;rw[gv]at f ⊢;have m:(i0+i) * j<=(i0+es.length) * j:=c7 _ ();obtain⟨p,q,e1,B,C⟩:=f.add hF (o:=e.1) ((hA.Oi kp J.dd) e g) (U e g).1 (U e g).2 () () ();exact⟨p,q,by dsimp[kL,bools,e1],B,C⟩
 rw[gv,Og]at this;exact this
def G3{d n b w:Nat}{P:Ps}{es:Es}{src:Ic}{c:Sm}{g:Tg}(J:A->A->ae->ae)(Z:ae->Prop)(G:En->Ps->Ps)(hg:∀(e:En) (y z:A) (xs:ae) (T:jT),g (ent e) (J y z xs) T=.ok (J (.tup<|e.1.map .int) (.ref e.2.1) xs) T)
  {x3 x4:A} {xs0:ae} (U:Z xs0) (hs:src (J x3 x4 xs0) S=.ok (nY n (es.map ent).length) S1) (hn:jU S1 n=some (es.map ent)) (hd:Fil S1 d b i0 j P D0)
  (step:∀(i:Nat) (e:En) (T:jT) (Q:Ps) (D:Es) (xs:ae),i<es.length->e∈es->Z xs->Kp (·=d) S1 T->Fil T d b (i0+w * i) j Q D->∃(D':Es) (T':jT) (xs':ae),Z xs'/\c (J (.tup<|e.1.map .int) (.ref e.2.1) xs) T=.nx (J (.tup<|e.1.map .int) (.ref e.2.1) xs') T'/\Fil T' d b (i0+w * (i+1)) j (G e Q) D'/\Kp (·=d) T T') :
  ∃(y3 y4:A) (xs:ae) (D:Es) (S':jT),Z xs/\mw src g c (J x3 x4 xs0) S=.nx (J y3 y4 xs) S'/\Fil S' d b (i0+w * es.length) j (es.foldl (λQ e=>G e Q) P) D/\Kp (·=d) S1 S':=by
 have m:(es.map ent).length=es.length:=aG ..;refine rY (n:=n) (xs:=es.map ent) (S1:=S1) hs (λi τ T=>(∃y3 y4 xs,τ=J y3 y4 xs/\Z xs)/\(∃D,Fil T d b (i0+w * i) j ((es.take i).foldl (λQ e=>G e Q) P) D)/\Kp (·=d) S1 T)
  (λr=>∃(y3 y4:A) (xs:ae) (D:Es) (S':jT),Z xs/\r=.nx (J y3 y4 xs) S'/\Fil S' d b (i0+w * es.length) j (es.foldl (λQ e=>G e Q) P) D/\Kp (·=d) S1 S') ⟨⟨_,_,_,rfl,U⟩,⟨D0,hd⟩,Kp.refl⟩ (λi τ T h=>h.2.2.lst _ _ (di<|uq hd.dd hn) hn) ?_ ?_
 ·rintro i z τ T U ⟨⟨y3,y4,xs,rfl,p⟩,⟨D,f⟩,kp⟩;rw[aQ]at U;obtain⟨e,k,rfl⟩:=aY.mp U;refine⟨J (.tup<|e.1.map .int) (.ref e.2.1) xs,T,hg _ _ _ _ _,.inl ?_⟩;obtain⟨D',T',xs',q,e1,C,B⟩:=step i e T _ D xs (aF.mp k).1 (aX k) p kp f;refine⟨_,T',e1,⟨_,_,_,rfl,q⟩,⟨D',?_⟩,kp.trans B⟩;rw[cL,k,dw];exact C
 ·rintro τ T ⟨⟨y3,y4,xs,rfl,p⟩,⟨D,f⟩,kp⟩;rw[m,cH]at f;exact⟨y3,y4,xs,D,T,p,rfl,f,kp⟩
end Su
namespace Bl
open L2
abbrev cnt:ag->Int->Int
 | [],_=>0
 | x::l,j=>(if j<=x then 1 else 0)+cnt l j
abbrev Below (xs ys:ag):Prop:=∀(i:Nat) (j:Int),cnt (xs.take i) j<=cnt (ys.take i) j
abbrev tX (a b:ag):Prop:=a.length=b.length/\∀(p:Nat) (h:p<a.length),b[(a[p]-1).toNat]?=some ((p:Int)+1)
end Bl
namespace Wd
open Bl L2
abbrev ex (l:ag)(k:Nat):ag:=(l.set (k-1)<|l.getD k 0).set k<|l.getD (k-1) 0
abbrev led (l:ag)(w:am):ag:=w.foldl ex l
def mW{l:ag}{k:Nat}(h:k<l.length):l.getD k 0=l[k]:=by rw[aK,aE h];rfl
def MM{l:ag}{k:Nat}(h0:1<=k)(h:k<l.length):ex l k=(l.set (k-1) l[k]).set k (l[k-1]'()):=by
 unfold ex;rw[mW h,mW<|show k-1<l.length by lia]
def nA(l:ag)(k:Nat):(ex l k).length=l.length:=by unfold ex;rw[cE,cE]
theorem Ei:∀(w:am) (l:ag),(led l w).length=l.length
 | [],_=>rfl
 | k::w,l=>by show(led (ex l k) w).length=_;rw[Ei w,nA]
def DQ{l:ag}{k:Nat}(h0:1<=k)(h:k<l.length):(ex l k).Perm l:=by
 rw[MM h0 h];exact List.set_set_perm () h
def Aw(a b:am)(l:ag):led l (a++b)=led (led l a) b:=dw
abbrev kC:ag->am->Prop
 | _,[]=>True
 | l,k::w=>1<=k/\k<l.length/\l.getD (k-1) 0<l.getD k 0/\kC (ex l k) w
theorem kC.snoc:∀{w:am}{l:ag}{k:Nat},kC l w->1<=k->k<l.length->(led l w).getD (k-1) 0<(led l w).getD k 0->kC l (w++[k])
 | [],l,k,_,h0,h1,h2=>⟨h0,h1,h2,trivial⟩
 | m::w,l,k,h,h0,h1,h2=>⟨h.1,h.2.1,h.2.2.1,kC.snoc h.2.2.2 h0 (by rw[nA];exact h1) h2⟩
theorem kC.valid:∀{w:am}{l:ag},kC l w->∀k∈w,1<=k/\k<l.length
 | [],_,_,k,hk=>by cases hk
 | m::w,l,h,k,hk=>by
  rcases bG.mp hk with z|z
  ·rw[z];exact⟨h.1,h.2.1⟩
  ·have:=kC.valid h.2.2.2 k z;rw[nA]at this;exact this
abbrev sw (k:Nat)(x:Int):Int:=if x=k then(k:Int)+1 else if x=(k:Int)+1 then k else x
def ex_map(f:Int->Int){l:ag}{k:Nat}(h0:1<=k)(h:k<l.length):ex (l.map f) k=(ex l k).map f:=by
 rw[MM h0 h,MM h0<|by rw[aG];exact h,jG,jG,dD,dD]
theorem Nj(f:Int->Int):∀{w:am}{l:ag},(∀k∈w,1<=k/\k<l.length)->led (l.map f) w=(led l w).map f
 | [],_,_=>rfl
 | k::w,l,h=>by
  have c:=h k<|aL ..;show led (ex (l.map f) k) w=(led (ex l k) w).map f;rw[ex_map f c.1 c.2,Nj f λm d=>by rw[nA];exact h m<|aN _ d]
def oJ{n p:Nat}(h:p<n):(mh 1<|(n:Int)+1)[p]?=some ((p:Int)+1):=by
 unfold mh;rw[aQ,d7 ()];simp;lia
def j_(n:Nat):(mh 1<|(n:Int)+1).length=n:=by rw[uM];lia
def p9{l:ag}{k:Nat}(h0:1<=k)(h:k<l.length)(p:Nat):(ex l k)[p]?=if p=k then l[k-1]? else if p=k-1 then l[k]? else l[p]?:=by
 rw[MM h0 h,List.getElem?_set];by_cases h1:k=p
 ·rw[aJ h1,aJ h1.symm,aJ<|by rw[cE];lia,aE]
 ·rw[aI h1,aI λz=>h1 z.symm,List.getElem?_set];by_cases h2:k-1=p
  ·rw[aJ h2,aJ h2.symm,aJ (),aE]
  ·rw[aI h2,aI λz=>h2 z.symm]
def QN{n k:Nat}(h0:1<=k)(h:k<n):ex (mh 1<|(n:Int)+1) k=(mh 1<|(n:Int)+1).map (sw k):=by
 apply dm;intro p;rw[p9 h0<|by rw[j_];exact h,aQ];by_cases c:p<n
 ·rw[oJ c,oJ h,oJ<|show k-1<n by lia];show _=some (sw k<|(p:Int)+1);unfold sw;by_cases h1:p=k
  ·rw[aJ h1,aI (),aJ ()];congr 1;lia
  ·rw[aI h1];by_cases h2:p=k-1
   ·rw[aJ h2,aJ ()]
   ·rw[aI h2,aI (),aI ()]
 ·have e:(mh 1<|(n:Int)+1)[p]?=none:=b9 (by rw[j_];lia);rw[aI (),aI (),e];rfl
def C9{A B:ag}{k:Nat}(h0:1<=k)(h:k<A.length)(J:tX A B):tX (ex A k) (B.map<|sw k):=by
 refine⟨by rw[nA,aG];exact J.1,λp c=>?_⟩;rw[nA]at c;have hg:(ex A k)[p]'(by rw[nA];exact c)=if p=k then A[k-1]'()else if p=k-1 then A[k]else A[p]:=by
  have:=p9 h0 h p;rw[aE<|by rw[nA];exact c]at this;by_cases h1:p=k
  ·rw[aJ h1,aE<|show k-1<A.length by lia]at this;rw[aJ h1];exact bz this
  ·rw[aI h1]at this;rw[aI h1];by_cases h2:p=k-1
   ·rw[aJ h2,aE h]at this;rw[aJ h2];exact bz this
   ·rw[aI h2,aE c]at this;rw[aI h2];exact bz this
 rw[hg,aQ];by_cases h1:p=k
 ·rw[aJ h1,J.2 (k-1) ()];show some (sw k _)=_;unfold sw;rw[aJ ()];congr 1;lia
 ·rw[aI h1];by_cases h2:p=k-1
  ·rw[aJ h2,J.2 k h];show some (sw k _)=_;unfold sw;rw[aI (),aJ ()];congr 1;lia
  ·rw[aI h2,J.2 p c];show some (sw k _)=_;unfold sw;rw[aI (),aI ()]
theorem nJ{n:Nat}:∀(w:am),(∀k∈w,1<=k/\k<n)->tX (led (mh 1<|(n:Int)+1) w.reverse) (led (mh 1<|(n:Int)+1) w)
 | [],_=>⟨rfl,λp c=>by
  have c:p<n:=by rw[show([]:am).reverse=[]from rfl]at c;have:p<(mh 1<|(n:Int)+1).length:=c;rw[j_]at this;exact this
  have e:(mh 1<|(n:Int)+1)[p]'(by rw[j_];exact c)=(p:Int)+1:=by
   have:=oJ c;rw[aE<|by rw[j_];exact c]at this;exact bz this
  show(mh 1<|(n:Int)+1)[(((mh 1<|(n:Int)+1)[p]'(by rw[j_];exact c))-1).toNat]?=_;rw[e,show((p:Int)+1-1).toNat=p by lia];exact oJ c⟩
 | k::w,h=>by
  have d:=h k<|aL ..;have hw:=λm f=>h m<|aN k f;have g:=nJ w hw;rw[c5,Aw];show tX (ex (led (mh 1<|(n:Int)+1) w.reverse) k) (led (ex (mh 1<|(n:Int)+1) k) w);rw[QN d.1 d.2,Nj (sw k) λm f=>by rw[j_];exact hw m f];exact C9 d.1 (by rw[Ei,j_];exact d.2) g
end Wd
namespace Iv
open L2 Bl
abbrev inv:ag->Nat
 | []=>0
 | x::l=>l.countP (λy=>decide<|y<x)+inv l
abbrev pO (a b:ag):Nat:=(a.map λx=>b.countP λy=>decide<|y<x).sum
def xq(x:Int)(a b:ag):pO (x::a) b=b.countP (λy=>decide<|y<x)+pO a b:=rfl
theorem mX:∀(a b:ag),inv (a++b)=inv a+inv b+pO a b
 | [],b=>by show inv b=0+inv b+0;lia
 | x::a,b=>by
  show(a++b).countP _+inv (a++b)=(a.countP _+inv a)+inv b+pO (x::a) b;rw[List.countP_append,mX a b,xq];lia
theorem yk:∀{a b:am},a.Perm b->a.sum=b.sum
 | _,_,.nil=>rfl
 | _,_,.cons x h=>by rw[gK,gK,yk h]
 | _,_,.swap x y l=>by rw[gK,gK,gK,gK];lia
 | _,_,.trans h k=>(yk h).trans<|yk k
def Wk{a:ag}(b:ag)(h:a.Perm a'):pO a b=pO a' b:=yk<|h.map _
def Xb(a:ag){b:ag}(h:b.Perm b'):pO a b=pO a b':=by
 unfold pO;congr 1;refine dh λx _=>h.countP_eq _
def El{M:ag}{x y:Int}(h:∀m∈M,m<x\/y<m)(J:x<y):M.countP (λm=>decide<|m<x)=M.countP (λm=>decide<|m<y):=by
 refine List.countP_congr λm c=>?_;rw[jh,jh]
 rcases h m c with z|z<;>omega
theorem zI:∀{M:ag}{x y:Int},(∀m∈M,m<x\/y<m)->x<y->pO M [x]=pO M [y]
 | [],_,_,_,_=>rfl
 | m::M,x,y,h,hxy=>by
  rw[xq,xq,zI (λd e=>h d<|aN _ e) hxy];congr 1;have:=h m<|aL ..;dsimp[jC,List.countP_nil];by_cases c:x<m
  ·rw[a_ c,a_<|show y<m by omega]
  ·rw[bq c,bq<|show ¬y<m by omega]
def mid{M:ag}{x y:Int}(h:∀m∈M,m<x\/y<m)(J:x<y):inv ([y]++M++[x])=inv ([x]++M++[y])+1:=by
 rw[mX,mX,mX<|[x]++M,mX [x]];have e1:pO [y] M=pO [x] M:=by
  show M.countP _+0=M.countP _+0;rw[El h J]
 have e2:pO ([y]++M) [x]=1+pO M [x]:=by
  show[x].countP _+pO M [x]=_;rw[jC,a_ J];rfl
 have e3:pO ([x]++M) [y]=pO M [y]:=by
  show[y].countP _+pO M [y]=_;rw[jC,bq (by lia:¬y<x)];simp
 rw[e1,e2,e3,zI h J]
 skip
 lia
def RM(M:ag)(x y:Int):([y]++M++[x]).Perm ([x]++M++[y]):=by
 refine(List.perm_append_comm (l₁:=[y]++M) (l₂:=[x])).trans ?_
 skip
 exact .cons x<|List.perm_append_comm (l₁:=[y]) (l₂:=M)
def step{P M R:ag}{x y:Int}(h:∀m∈M,m<x\/y<m)(J:x<y):inv (P++([y]++M++[x])++R)=inv (P++([x]++M++[y])++R)+1:=by
 have p:=RM M x y;rw[mX,mX P,mX<|P++([x]++M++[y]),mX P,mid h J,Xb P p,Wk R<|p.append_left P]
 lia
theorem Je:∀(l:ag),inv l<=l.length * l.length
 | []=>aO _
 | x::l=>by
  show l.countP _+inv l<=(l.length+1) * (l.length+1);have h1:=List.countP_le_length (p:=λy=>decide<|y<x) (l:=l);have h2:=Je l;rw[jn,jM]
  lia
abbrev sw (a:ag)(i j:Nat):ag:=(a.set i<|a.getD j 0).set j<|a.getD i 0
def IY(a:ag)(i j:Nat):(sw a i j).length=a.length:=by unfold sw;rw[cE,cE]
def split{a:ag}(hij:i<j)(U:j<a.length):∃P M R:ag,a=P++([a.getD i 0]++M++[a.getD j 0])++R/\P=a.take i/\(∀m∈M,∃k,i<k/\k<j/\a[k]?=some m)/\sw a i j=P++([a.getD j 0]++M++[a.getD i 0])++R:=by
 have J:a.getD i 0=a[i]:=by rw[aK,aE ()];rfl
 have F:a.getD j 0=a[j]:=by rw[aK,aE U];rfl
 obtain⟨M,p⟩:∃M,M=(a.drop<|i+1).take (j-i-1):=⟨_,rfl⟩;have G:M.length=j-i-1:=by rw[p,bI,dU];lia
 have q:a=a.take i++([a.getD i 0]++M++[a.getD j 0])++a.drop (j+1):=by
  have h1:a.drop i=a[i]::a.drop (i+1):=dH ();have h2:a.drop (i+1)=M++a.drop j:=by
   rw[p];have:=iD (j-i-1)<|a.drop<|i+1;rw[List.drop_drop,show i+1+(j-i-1)=j by lia]at this;exact this.symm
  have h3:a.drop j=a[j]::a.drop (j+1):=dH U
  conv=>lhs;rw[<- iD i a,h1,h2,h3]
  rw[J,F];simp
 refine⟨a.take i,M,a.drop<|j+1,q,rfl,λm B=>?_,?_⟩
 ·rw[p]at B;obtain⟨k,f⟩:=gu B;have e:k<j-i-1:=by
   have:=(aF.mp f).1;rw[bI]at this;lia
  rw[dN e,gQ]at f;exact⟨i+1+k,(),(),f⟩
 ·have g:∀(P R:ag) (x y d c:Int),P.length=i->((P++([x]++M++[y])++R).set i c).set j d=P++([c]++M++[d])++R:=λP R x y d c C=>by
   rw[cA,f9 _ _ (),C,jF];show(P++(c::((M++[y])++R))).set j d=_;rw[f9 _ _ (),C,show j-i=(j-i-1)+1 by lia,List.set_cons_succ,cA,f9 _ _ (),G,jF];simp
  have:=g (a.take i) (a.drop<|j+1) (a.getD i 0) (a.getD j 0) (a.getD i 0) (a.getD j 0) (by rw[bI];lia);rw[<- q]at this;exact this
def Lc{a:ag}{i:Nat}(h:i<a.length):a[i]?=some (a.getD i 0):=by rw[aK,aE h];rfl
def Q7{a:ag}(J:i<j)(U:j<a.length)(p:Nat):(sw a i j).getD p 0=if p=j then a.getD i 0 else if p=i then a.getD j 0 else a.getD p 0:=by
 unfold sw;rw[aK];by_cases c:p=j
 ·subst c;rw[aJ rfl,bO<|by rw[cE];exact U];rfl
 ·rw[aI c,bM<|di c];by_cases d:p=i
  ·subst d;rw[aJ rfl,bO ()];rfl
  ·rw[aI d,bM<|di d,<- aK]
end Iv
namespace Fw
open PySem L2 Bl
open Wd (ex led)
meta abbrev rg (n:Nat):ag:=mh 1<|(n:Int)+1
theorem se{l:ag}{k:Nat}(h0:1<=k)(h:k<l.length):ex (ex l k) k=l:=by
 apply dm;intro p;have h':k<(ex l k).length:=by rw[Wd.nA];exact h
 rw[Wd.p9 h0 h',Wd.p9 h0 h,Wd.p9 h0 h,Wd.p9 h0 h];by_cases c3:p=k
 ·rw[aJ c3,aI (),aJ rfl,c3]
 ·rw[aI c3];by_cases c2:p=k-1
  ·rw[aJ c2,aJ rfl,c2]
  ·rw[aI c2,aI c3,aI c2]
def Ux{l:ag}{k:Nat}(h0:1<=k)(h:k<l.length):(ex l k).getD k 0=l.getD (k-1) 0:=by
 rw[aK,Wd.p9 h0 h,aJ rfl,aK]
def RU{l:ag}{k:Nat}(h0:1<=k)(h:k<l.length):(ex l k).getD (k-1) 0=l.getD k 0:=by
 rw[aK,Wd.p9 h0 h,aI (),aJ rfl,aK]
def Bm{l:ag}{k:Nat}(h0:1<=k)(h:k<l.length)(J:l.getD (k-1) 0<l.getD k 0):Iv.inv (ex l k)=Iv.inv l+1:=by
 obtain⟨P,M,R,e,_,d,es⟩:=Iv.split (a:=l) (i:=k-1) (j:=k) () h;have:=Iv.step (P:=P) (M:=M) (R:=R) (x:=l.getD (k-1) 0) (y:=l.getD k 0) (λm c=>by obtain⟨_,_,_,_⟩:=d m c;lia) J;rw[<- es,<- e]at this;exact this
def vO{l:ag}{k:Nat}(h0:1<=k)(h:k<l.length)(J:l.getD k 0<l.getD (k-1) 0):Iv.inv l=Iv.inv (ex l k)+1:=by
 have:=Bm (l:=ex l k) h0 (by rw[Wd.nA];exact h) (by rw[Ux h0 h,RU h0 h];exact J);rw[se h0 h]at this;exact this
def VF{l:ag}{k:Nat}(h0:1<=k)(h:k<l.length):Iv.inv (ex l k)<=Iv.inv l+1:=by
 rcases Int.lt_trichotomy (l.getD (k-1) 0) (l.getD k 0)with c|c|c
 ·exact Nat.le_of_eq (Bm h0 h c)
 ·have:ex l k=l:=by
   apply dm;intro p;have e1:l[k]?=some (l.getD k 0):=Iv.Lc h;have e2:l[k-1]?=some (l.getD (k-1) 0):=Iv.Lc ();rw[Wd.p9 h0 h];by_cases c3:p=k
   ·rw[aJ c3,c3,e1,e2,c]
   ·rw[aI c3];by_cases c2:p=k-1
    ·rw[aJ c2,c2,e1,e2,c]
    ·rw[aI c2]
  rw[this];lia
 ·have:=vO h0 h c;lia
abbrev Va (n:Nat)(w:am):Prop:=∀k∈w,1<=k/\k<n
def Va.tail{n k:Nat}{w:am}(h:Va n (k::w)):Va n w:=λj c=>h j<|aN _ c
def Va.head{n k:Nat}{w:am}(h:Va n (k::w)):1<=k/\k<n:=h k<|aL ..
theorem B5:∀{w:am}{l:ag},Va l.length w->led (led l w) w.reverse=l
 | [],l,_=>rfl
 | k::w,l,h=>by
  rw[c5,Wd.Aw];show led (led (led (ex l k) w) w.reverse) [k]=l;rw[B5 (w:=w) (l:=ex l k)<|by rw[Wd.nA];exact h.tail];exact se h.head.1 h.head.2
theorem IL:∀{l:ag},l.Pairwise (·<=·)->Iv.inv l=0
 | [],_=>rfl
 | x::l,h=>by
  show l.countP (λy=>decide<|y<x)+Iv.inv l=0;rw[IL (bY.mp h).2,List.countP_eq_zero.mpr λa c z=>by have:=bP z;have:=(bY.mp h).1 a c;lia]
def Be(n:Nat):Iv.inv (rg n)=0:=IL<|Ma _ _
abbrev DE (l:ag)(k:Nat):Prop:=1<=k/\k<l.length/\l.getD k 0<l.getD (k-1) 0
def X_{l:ag}(h:∀k,¬DE l k):l.Pairwise (·<=·):=by
 have c:∀d i,i+d<l.length->l.getD i 0<=l.getD (i+d) 0:=by
  intro d
  induction d with
  | zero=>intro i _;exact le_refl _
  | succ d g=>
   intro i hi;have h1:=g i ();have h2:¬l.getD (i+d+1) 0<l.getD (i+d) 0:=λz=>h (i+d+1) ⟨(),hi,z⟩;rw[<- gH];lia
 rw[dG];intro i j hi e f;have:=c (j-i) i ();rw[show i+(j-i)=j by lia,Wd.mW hi,Wd.mW e]at this;exact this
def Kr{l:ag}{n:Nat}(p:l.Perm<|rg n)(h:∀k,¬DE l k):l=rg n:=
 eo (λx y _ _ h1 h2=>Int.le_antisymm h1 h2) (X_ h) (Ma _ _) p
def Wf{l:ag}(h:0<Iv.inv l):∃k,DE l k:=by
 refine eZ λz=>?_;rw[IL<|X_ λk c=>z ⟨k,c⟩]at h;exact absurd h<|f7 _
abbrev Dn:ag->am->Prop
 | l,[]=>∀k,¬DE l k
 | l,k::ks=>(DE l k/\∀j,DE l j->k<=j)/\Dn (ex l k) ks
def om{l:ag}{n k:Nat}(p:l.Perm<|rg n)(h0:1<=k)(h:k<l.length):(ex l k).Perm (rg n):=(Wd.DQ h0 h).trans p
def Dn.va:∀{ks:am}{l:ag},Dn l ks->Va l.length ks
 | [],l,_=>λk d=>absurd d (by simp)
 | k::ks,l,h=>λj c=>by
  rcases bG.mp c with rfl|z
  ·exact⟨h.1.1.1,h.1.1.2.1⟩
  ·have:=h.2.va j z
   rwa [Wd.nA]at this
theorem Dn.led:∀{ks:am}{l:ag}{n:Nat},Dn l ks->l.Perm (rg n)->led l ks=rg n
 | [],l,n,h,p=>Kr p h
 | k::ks,l,n,h,p=>Dn.led (ks:=ks) h.2<|om p h.1.1.1 h.1.1.2.1
theorem Sy:∀(m:Nat) (l:ag),Iv.inv l<=m->∃ks,Dn l ks
 | 0,l,h=>⟨[],λk d=>by have:=vO d.1 d.2.1 d.2.2;lia⟩
 | m+1,l,h=>by
  by_cases c:∃k,DE l k
  ·obtain⟨k,d,e⟩:∃k,DE l k/\∀j,DE l j->k<=j:=by
    obtain⟨k,d⟩:=c
    induction k using Nat.strongRecOn with
    | ind k q=>
     by_cases z:∃j,DE l j/\j<k
     ·obtain⟨j,f,g⟩:=z;exact q j g f
     ·exact⟨k,d,λj f=>gz λy=>z ⟨j,f,y⟩⟩
   have:=vO d.1 d.2.1 d.2.2;obtain⟨ks,p⟩:=Sy m (ex l k) ();exact⟨k::ks,⟨d,e⟩,p⟩
  ·exact⟨[],λk d=>c ⟨k,d⟩⟩
def Wg{l:ag}{n k:Nat}(p:l.Perm<|rg n)(h0:1<=k)(h:k<l.length):l.getD (k-1) 0≠l.getD k 0:=λz=>by
 have nd:l.Nodup:=p.nodup_iff.mpr<|rL _ _;rw[Wd.mW h,Wd.mW<|show k-1<l.length by lia]at z;have:=(cZ nd).mp z
 lia
def Oo{a b c:ag}{n:Nat}(J:a.Perm<|rg n)(h1:tX a b)(h2:tX b c):a=c:=by
 have m:=h1.1;have j:=h2.1;refine List.ext_getElem () λq e d=>?_;have e1:=h1.2 q e;have k:=(pM.mp<|J.mem_iff.mp<|fP e);obtain⟨g,f⟩:=aF.mp e1;have e2:=h2.2 _ g;rw[f,show((q:Int)+1-1).toNat=q by lia,aE d]at e2;have:=bz e2
 lia
structure Two (n:Nat)(o u:ag):Prop where
 po:o.Perm (rg n)
 pu:u.Perm (rg n)
 ou:tX o u
def Two.lu{n:Nat}{u:ag}(t:Two n o u):u.length=n:=by rw[t.pu.length_eq,Wd.j_]
def Two.lo{n:Nat}{o:ag}(t:Two n o u):o.length=n:=by rw[t.po.length_eq,Wd.j_]
def Two.led{n:Nat}{ks:am}(t:Two n o u)(h:Dn u ks):Wd.led (rg n) ks=o:=by
 have v:Va n ks:=by have:=h.va;rwa [t.lu]at this
 have e:=h.led t.pu;have e2:u=Wd.led (rg n) ks.reverse:=by rw[<- e,B5<|by rw[t.lu];exact v]
 have b:=Wd.nJ ks v;rw[<- show u=Wd.led (mh 1<|(n:Int)+1) ks.reverse from e2]at b;exact(Oo t.po t.ou b).symm
def Two.uo{n:Nat}(t:Two n o u):tX u o:=by
 obtain⟨ks,h⟩:=Sy _ u<|aO _;have v:Va n ks:=by have:=h.va;rwa [t.lu]at this
 have e:=h.led t.pu;have e2:u=Wd.led (rg n) ks.reverse:=by rw[<- e,B5<|by rw[t.lu];exact v]
 have b:=Wd.nJ ks v;rw[<- show u=Wd.led (mh 1<|(n:Int)+1) ks.reverse from e2,show Wd.led (mh 1<|(n:Int)+1) ks=o from t.led h]at b;exact b
def Two.flip{n:Nat}(t:Two n o u):Two n u o:=⟨t.pu,t.po,t.uo⟩
def Two.step{n k:Nat}{o:ag}(t:Two n o u)(h0:1<=k)(h:k<n):Two n (o.map<|Wd.sw k) (ex u k):=by
 have lu:=t.lu;have b:=Wd.C9 h0 () t.uo;have p1:=om t.pu h0 ();have p2:(o.map<|Wd.sw k).Perm (rg n):=(t.po.map _).trans (by rw[<- Wd.QN h0 h];exact Wd.DQ h0<|by rw[Wd.j_];exact h);exact(Two.mk p1 p2 b).flip
end Fw
namespace Su
open Am Po PySem L2
abbrev cS (l:Ps)(o:ag)(t:Int):Int:=match l with
 | []=>0
 | e::l=>(if e.1=o then cf e.2 t else 0)+cS l o t
def oO(a b:Ps)(o:ag)(t:Int):cS (a++b) o t=cS a o t+cS b o t:=by
 induction a with
 | nil=>exact(bW _).symm
 | cons e a c=>
  show _+cS (a++b) o t=_+_+_;rw[c,dP]
def zg(a b:Pl)(k:Int):cf (a++b) k=cf a k+cf b k:=by
 induction a with
 | nil=>exact(bW _).symm
 | cons p a c=>
  show _+cf (a++b) k=_+_+_;rw[c,dP]
def Sb(a b:Pl)(k:Int):cf (qk a b) k=cf a k+cf b k:=by
 unfold qk;rw[EK<|um _ (d:=[]) dO,vR,zg];show 0+_=_;rw[bW]
def BZ(a b:Pl)(k:Int):cf (times a b) k=cf (Ie a b) k:=by
 unfold times;rw[EK<|um _ (d:=[]) dO,vR];show 0+_=_;rw[bW]
theorem Ku(s:Int):∀(b:Pl) (k c:Int),cf (b.map λq=>(c+q.1,s * q.2)) k=s * cf b (k-c)
 | [],k,c=>(eu s).symm
 | q::b,k,c=>by
  show(if c+q.1=k then s * q.2 else 0)+cf (b.map λq=>(c+q.1,s * q.2)) k=s * ((if q.1=k-c then q.2 else 0)+cf b (k-c));rw[Ku s b k c,iT];by_cases h:c+q.1=k
  ·rw[aJ h,aJ ()]
  ·rw[aI h,aI (),eu]
meta abbrev AF:Pl:=[((-1:Int),(1:Int)),((1:Int),(-1:Int))]
def abI(b:Pl)(k:Int):cf (times AF b) k=cf b (k+1)-cf b (k-1):=by
 rw[BZ];show cf ((b.map λq=>((-1:Int)+q.1,(1:Int) * q.2))++((b.map λq=>((1:Int)+q.1,(-1:Int) * q.2))++[])) k=_;rw[cI,zg,Ku,Ku,jo,show k - -1=k+1 by lia]
 lia
def Us{D:Ps}{p:Pl}:vS (zx D o p) o'=if o'=o then p else vS D o':=by
 have cons:∀(e:ag×Pl) (D:Ps) (x:ag),vS (e::D) x=if e.1=x then e.2 else vS D x:=λe D x=>by
  unfold vS;rw[cF];by_cases h:e.1=x
  ·rw[a_ h,aJ h];rfl
  ·rw[bq h,aI h]
 unfold zx
 cases h:hS D o with
 | true=>
  rw[aJ rfl]
  induction D with
  | nil=>cases h
  | cons e D d=>
   rw[bH,cons,cons];have hc:hS (e::D) o=(decide (e.1=o) || hS D o):=rfl;rw[hc]at h;by_cases c:e.1=o
   ·rw[aJ c]
    skip
    by_cases c2:o'=o
    ·rw[aJ<|c.trans c2.symm,aJ c2]
    ·rw[aI λz=>c2<|z.symm.trans c,aI c2,aI λz=>c2<|z.symm.trans c];clear d h hc
     induction D with
     | nil=>rfl
     | cons f D g=>
      rw[bH,cons,cons,g];by_cases c3:f.1=o
      ·rw[aJ c3]
       skip
       rw[aI λz=>c2<|z.symm.trans c3,aI λz=>c2<|z.symm.trans c3]
      ·rw[aI c3]
   ·rw[aI c];rw[bq c,jw]at h;rw[d h];by_cases c2:e.1=o'
    ·rw[aJ c2,aI λz=>c<|c2.trans z,aJ c2]
    ·rw[aI c2,aI c2]
 | false=>
  rw[aI<|by simp]
  induction D with
  | nil=>
   show vS [(o,p)] o'=_;rw[cons];by_cases c:o=o'
   ·rw[aJ c,aJ c.symm]
   ·rw[aI c,aI λz=>c z.symm]
  | cons e D d=>
   have hc:hS (e::D) o=(decide (e.1=o) || hS D o):=rfl;rw[hc,iS]at h;rw[List.cons_append,cons,cons,d h.2];have:=dQ h.1;by_cases c:e.1=o'
   ·rw[aJ c,aJ c,aI λz=>this<|c.trans z]
   ·rw[aI c,aI c]
def Ir(l:Ps):∀(D:Ps) (o:ag) (t:Int),cf (vS (adds D l) o) t=cf (vS D o) t+cS l o t:=by
 induction l with
 | nil=>intro D o t;exact(b8 _).symm
 | cons e l c=>
  intro D o t;show cf (vS (adds (B0 D e.1 e.2) l) o) t=_+((if e.1=o then cf e.2 t else 0)+cS l o t);rw[c];unfold B0;rw[Us];by_cases h:o=e.1
  ·rw[aJ h,aJ h.symm,Sb,h,dP]
  ·rw[aI h,aI λz=>h z.symm,bW]
structure Gd (D:Ps):Prop where
 nd:(D.map Prod.fst).Nodup
 ok:∀e∈D,Ok e.2
def T8{D:Ps}{o:ag}:hS D o=true ↔ o∈D.map Prod.fst:=by
 unfold hS;rw[gC,aW];constructor
 ·rintro⟨p,h1,h2⟩;exact⟨p,h1,bP h2⟩
 ·rintro⟨p,h1,h2⟩;exact⟨p,h1,a_ h2⟩
def De{D:Ps}{o:ag}{p:Pl}:(zx D o p).map Prod.fst=if hS D o=true then D.map Prod.fst else D.map Prod.fst++[o]:=by
 unfold zx;split
 ·rw[bB];apply dh;intro e _;show(if e.1=o then(e.1,p)else e).1=e.1;split<;>rfl
 ·rw[bQ];rfl
def Gd.put{D:Ps}{p:Pl}(h:Gd D)(J:Ok p):Gd (zx D o p):=by
 refine⟨?_,λe d=>?_⟩
 ·rw[De];split
  ·exact h.nd
  ·rename_i c;rw[cO];refine⟨h.nd,cB _ _,λa j b g z=>c ?_⟩;rw[aP]at g;rw[T8,<- g,<- z];exact j
 ·unfold zx at d;split at d
  ·obtain⟨f,hf,rfl⟩:=aW.mp d;split
   ·exact J
   ·exact h.ok f hf
  ·rcases br.mp d with z|z
   ·exact h.ok e z
   ·rw[aP.mp z];exact J
theorem Gd.adds(l:Ps):∀{D:Ps},Gd D->Gd (adds D l):=by
 induction l with
 | nil=>intro D h;exact h
 | cons e l c=>intro D h;exact c<|h.put<|Hr _ _
def Gd.nil:Gd []:=⟨dO,nofun⟩
def vY{D:Ps}:(∃e∈D,e.1=o/\vS D o=e.2)\/(o∉D.map Prod.fst/\vS D o=[]):=by
 unfold vS
 cases h:D.find? λe=>decide (e.1=o)with
 | some e=>
  have h1:=iW h;exact .inl ⟨e,e_ h,by simpa using h1,rfl⟩
 | none=>
  refine .inr ⟨λz=>?_,rfl⟩;obtain⟨e,c,d⟩:=aW.mp z;exact fZ.mp h e c<|a_ d
def Gd.v{D:Ps}(h:Gd D)(o:ag):Ok (vS D o):=by
 rcases vY (D:=D) (o:=o)with⟨e,h1,_,h2⟩|⟨_,h2⟩
 ·rw[h2];exact h.ok e h1
 ·rw[h2];exact⟨List.Pairwise.nil,nofun⟩
def Ff.anti{a b:ag}(h1:Ff a b)(h2:Ff b a):a=b:=(Sx.yD h1 h2).symm
def Vo{D:Ps}(h:Gd D)(h':Gd E)(hv:∀o,vS D o=vS E o):toS D=toS E:=by
 have c:∀(D:Ps),Gd D->∀o,o∈(mO<|D.map Prod.fst).filter (λo=>!(vS D o).isEmpty) ↔ (vS D o)≠[]:=λD h o=>by
  rw[bK,(kO _).mem_iff];constructor
  ·rintro⟨_,h2⟩ z;rw[z]at h2;cases h2
  ·intro z;refine⟨?_,by cases e:vS D o with|nil=>exact absurd e z|cons=>rfl⟩
   rcases vY (D:=D) (o:=o)with⟨e,h1,h2,_⟩|⟨_,h2⟩
   ·exact aW.mpr ⟨e,h1,h2⟩
   ·exact absurd h2 z
 have d:∀(D:Ps),((mO<|D.map Prod.fst).filter λo=>!(vS D o).isEmpty).Pairwise Ff:=λD=>(vt _).filter _;have nd:∀(D:Ps),Gd D->((mO<|D.map Prod.fst).filter λo=>!(vS D o).isEmpty).Nodup:=λD h=>((kO _).nodup_iff.mpr h.nd).filter _;have e:(mO<|D.map Prod.fst).filter (λo=>!(vS D o).isEmpty)=(mO<|E.map Prod.fst).filter (λo=>!(vS E o).isEmpty):=by
  refine eo (λa b _ _ h1 h2=>Ff.anti h1 h2) (d D) (d E)<|(je (nd D h)<|nd E h').mpr λo=>?_;rw[c D h,c E h',hv]
 unfold toS;rw[e];apply dh;intro o _;rw[hv]
def Ug{D:Ps}(h:Gd D)(h':Gd E)(hc:∀o t,cf (vS D o) t=cf (vS E o) t):toS D=toS E:=Vo h h' λo=>uniq (h.v o) (h'.v o)<|hc o
theorem Jy{f:ag->Pl}{o:ag}{t:Int}:∀{ks:List<|ag},ks.Nodup->cS (ks.map λk=>(k,f k)) o t=if o∈ks then cf (f o) t else 0
 | [],_=>by rw[aI<|by simp];rfl
 | j::ks,h=>by
  obtain⟨h1,h2⟩:=cN.mp h;show(if j=o then cf (f j) t else 0)+cS (ks.map λk=>(k,f k)) o t=_;rw[Jy h2];by_cases c:j=o
  ·subst c;rw[aJ rfl,aI h1,aJ<|aL ..,b8]
  ·rw[aI c,bW];by_cases e:o∈ks
   ·rw[aJ e,aJ<|aN _ e]
   ·rw[aI e,aI λz=>(bG.mp z).elim (λz=>c z.symm) e]
def DW{D:Ps}(h:Gd D)(o:ag)(t:Int):cS (toS D) o t=cf (vS D o) t:=by
 unfold toS;rw[Jy<|((kO _).nodup_iff.mpr h.nd).filter _];split
 ·rfl
 ·rename_i c
  rcases vY (D:=D) (o:=o)with⟨e,h1,h2,h3⟩|⟨_,h2⟩
  ·by_cases z:vS D o=[]
   ·rw[z];rfl
   ·refine absurd (bK.mpr ⟨(kO _).mem_iff.mpr<|aW.mpr ⟨e,h1,h2⟩,?_⟩) c
    cases e:vS D o with|nil=>exact absurd e z|cons=>rfl
  ·rw[h2];rfl
abbrev mC (o:ag)(k:Nat):Bool:=decide<|o.getD (k-1) 0>o.getD k 0
abbrev WY (k:Nat)(l:Ps):Ps:=l.flatMap λe=>(Wd.ex e.1 k,e.2)::(if mC e.1 k=true then[(e.1,times AF e.2)]else[])
abbrev bx (k:Nat)(l:Ps):Ps:=toS<|adds []<|WY k l
abbrev Go (N k:Nat)(o:ag):Prop:=o.length=N/\o.getD (k-1) 0≠o.getD k 0
def UI{N k:Nat}{o:ag}(h:o.length=N)(h1:1<=k)(h2:k<N):Wd.ex (Wd.ex o k) k=o:=Fw.se h1 ()
def XZ{k:Nat}{o:ag}(h1:1<=k)(h2:k<o.length):(Wd.ex o k).getD (k-1) 0=o.getD k 0/\(Wd.ex o k).getD k 0=o.getD (k-1) 0:=by
 constructor
 ·rw[aK,Wd.p9 h1 h2,aI (),aJ rfl,aK]
 ·rw[aK,Wd.p9 h1 h2,aJ rfl,aK]
def Go.ex{N k:Nat}(h:Go N k o)(h1:1<=k)(h2:k<N):Go N k (Wd.ex o k)/\mC (Wd.ex o k) k=!mC o k:=by
 obtain⟨d,hn⟩:=h;obtain⟨e1,e2⟩:=XZ (o:=o) h1 ();refine⟨⟨by rw[Wd.nA];exact d,by rw[e1,e2];exact λz=>hn z.symm⟩,?_⟩;unfold mC;rw[e1,e2];by_cases c:o.getD (k-1) 0>o.getD k 0
 ·rw[a_ c,bq ()];rfl
 ·rw[bq c,a_ ()];rfl
def yq{l:Ps}{t:Int}(h:∀e∈l,e.1≠o):cS l o t=0:=by
 induction l with
 | nil=>rfl
 | cons e l c=>
  show(if e.1=o then _ else 0)+cS l o t=0;rw[aI<|h e<|aL ..,c λf hf=>h f<|aN _ hf];rfl
theorem Xz{N k:Nat}(h1:1<=k)(h2:k<N):∀{l:Ps},(∀e∈l,Go N k e.1)->∀{o:ag}(t:Int),Go N k o->cS (WY k l) o t=cS l (Wd.ex o k) t+(if mC o k=true then cS l o (t+1)-cS l o (t-1)else 0)
 | [],_,o,t,_=>by show(0:Int)=0+if _ then(0:Int)-0 else 0;split<;>rfl
 | e::l,h,o,t,ho=>by
  have g:=h e<|aL ..;have j:=Xz h1 h2 (l:=l) (λf hf=>h f<|aN _ hf) t ho;have d:(Wd.ex e.1 k=o) ↔ (e.1=Wd.ex o k):=⟨λz=>by rw[<- z,UI g.1 h1 h2],λz=>by rw[z,UI ho.1 h1 h2]⟩;show cS (((Wd.ex e.1 k,e.2)::(if mC e.1 k=true then[(e.1,times AF e.2)]else[]))++WY k l) o t=_;rw[oO,j];show(if Wd.ex e.1 k=o then cf e.2 t else 0)+cS (if mC e.1 k=true then[(e.1,times AF e.2)]else[]) o t+_=((if e.1=Wd.ex o k then cf e.2 t else 0)+cS l (Wd.ex o k) t)+(if mC o k=true then((if e.1=o then cf e.2 (t+1)else 0)+cS l o (t+1))-((if e.1=o then cf e.2 (t-1)else 0)+cS l o (t-1))else 0);have h3:cS (if mC e.1 k=true then[(e.1,times AF e.2)]else[]) o t=if mC o k=true then((if e.1=o then cf e.2 (t+1)else 0)-(if e.1=o then cf e.2 (t-1)else 0))else 0:=by
   by_cases c:e.1=o
   ·rw[c,aJ rfl,aJ rfl]
    cases mC o k with
    | false=>rfl
    | true=>
     rw[aJ rfl,aJ rfl];show(if o=o then cf (times AF e.2) t else 0)+0=_;rw[aJ rfl,abI,b8]
   ·rw[aI c,aI c];have:cS (if mC e.1 k=true then[(e.1,times AF e.2)]else[]) o t=0:=yq λf hf=>by
     split at hf
     ·rw[aP.mp hf];exact c
     ·cases hf
    rw[this];split<;>rfl
  rw[h3];by_cases c:Wd.ex e.1 k=o
  ·rw[aJ c,aJ<|d.mp c];split<;>lia
  ·rw[aI c,aI λz=>c<|d.mpr z];split<;>lia
def qU{P:ag->Prop}(l:Ps):∀{D:Ps},(∀e∈D,P e.1)->(∀e∈l,P e.1)->∀e∈adds D l,P e.1:=by
 induction l with
 | nil=>intro D h _;exact h
 | cons f l d=>
  intro D h h';refine d (λe c=>?_) λe c=>h' e<|aN _ c;have c:e∈zx D f.1 (qk (vS D f.1) f.2):=c;unfold zx at c;split at c
  ·obtain⟨g,hg,rfl⟩:=aW.mp c;split
   ·exact h g hg
   ·exact h g hg
  ·rcases br.mp c with z|z
   ·exact h e z
   ·rw[aP.mp z];exact h' f<|aL ..
def tP{P:ag->Prop}{D:Ps}(h:∀e∈D,P e.1):∀e∈toS D,P e.1:=λe c=>by
 obtain⟨o,d,rfl⟩:=aW.mp c;obtain⟨f,hf,e⟩:=aW.mp ((kO _).mem_iff.mp (bK.mp d).1)
 skip
 rw[<- e];exact h f hf
abbrev gX (k:Nat)(e:En)(Q:Ps):Ps:=if mC e.1 k=true then B0 (B0 Q (Wd.ex e.1 k) e.2.2) e.1 (times AF e.2.2)else B0 Q (Wd.ex e.1 k) e.2.2
theorem Nb(k:Nat):∀(es:Es) (P:Ps),es.foldl (λQ e=>gX k e Q) P=adds P (WY k<|sm es)
 | [],P=>rfl
 | e::es,P=>by
  show es.foldl (λQ e=>gX k e Q) (gX k e P)=adds P (((Wd.ex e.1 k,e.2.2)::(if mC e.1 k=true then[(e.1,times AF e.2.2)]else[]))++WY k (sm es));rw[Nb k es,Uj];congr 1;unfold gX
  cases mC e.1 k<;>rfl
def abK{p:Pl}(h:Ok p)(J:Bd C p)(t:Int):(cf p t).natAbs<=C:=by
 rw[<- zh h.nd];exact J.val t
def Ok.aav{l:Pl}(h:Ok l){p:Int×Int}(J:p∈l):cf l p.1=p.2:=by
 induction l with
 | nil=>cases J
 | cons q l c=>
  rcases bG.mp J with z|z
  ·rw[z];exact h.head
  ·show(if q.1=p.1 then q.2 else 0)+cf l p.1=p.2;have:=(bY.mp h.up).1 p z;rw[aI (),c h.tail z,bW]
end Su
namespace He
open PySem L2 Am
open Fw (Two rg DE)
open Bl (tX)
open Su (mC)
meta abbrev Fn:=ag->Int->Int
abbrev dl (g:Int->Int)(t:Int):Int:=g (t+1)-g (t-1)
abbrev X (k:Nat)(f:Fn):Fn:=λo t=>f (Wd.ex o k) t+if mC o k=true then dl (f o) t else 0
def oW{n:Nat}{v:ag}(h:Two n o u)(h':Two n o v):u=v:=by
 have k:=h.lu;have f:=h'.lu;have g:=h.lo;apply dm;intro q;by_cases j:q<n
 ·obtain⟨p,c,ep⟩:∃p,∃c:p<o.length,o[p]=(q:Int)+1:=by
   have:(q:Int)+1∈o:=h.po.mem_iff.mpr<|pM.mpr ⟨(),()⟩;obtain⟨p,c,ep⟩:=List.getElem_of_mem this;exact⟨p,c,ep⟩
  have d:=h.ou.2 p c;have e:=h'.ou.2 p c;rw[ep,show((q:Int)+1-1).toNat=q by lia]at d e;rw[d,e]
 ·rw[b9 (),b9 ()]
abbrev bk (o:ag):ag:=(List.range o.length).map λi:Nat=>((o.idxOf ((i:Int)+1):Nat):Int)+1
def pX{n:Nat}{o:ag}(h:o.Perm<|rg n):Two n o (bk o):=by
 have lo:o.length=n:=by rw[h.length_eq,Wd.j_]
 have nd:o.Nodup:=h.nodup_iff.mpr<|rL _ _;have d:∀i,i<n->(i:Int)+1∈o:=λi hi=>h.mem_iff.mpr<|pM.mpr ⟨(),()⟩;have e:∀i,i<n->o.idxOf ((i:Int)+1)<n:=λi hi=>by rw[<- lo];exact fJ.mpr (d i hi)
 have get:∀i (hi:i<n),o[o.idxOf<|(i:Int)+1]'(by rw[lo];exact e i hi)=(i:Int)+1:=λi hi=>ji _;refine⟨h,?_,?_,λp k=>?_⟩
 ·have p:=Am.wX (N:=n) (g:=λi=>o.idxOf<|(i:Int)+1) e λi j f C z=>by
   have a:=get i ();have b:=get j C;dsimp[z]at a;rw[b]at a
   lia
  have p2:=p.map λi:Nat=>(i:Int)+1;rw[bB]at p2;unfold bk;rw[lo];refine List.Perm.trans p2 ?_;have:(List.range n).map (λi:Nat=>(i:Int)+1)=rg n:=by
   apply dm;intro q;rw[aQ];by_cases c:q<n
   ·rw[d7 c,Wd.oJ c];rfl
   ·rw[b9<|by rw[cJ];lia,b9<|by rw[Wd.j_];lia];rfl
  rw[this]
 ·unfold bk;rw[aG,cJ]
 ·have m:=pM.mp<|h.mem_iff.mp<|fP k;have B:(o[p]-1).toNat<o.length:=()
  unfold bk;rw[aQ,d7 B];show some (((o.idxOf (((o[p]-1).toNat:Int)+1):Nat):Int)+1)=_;rw[show((o[p]-1).toNat:Int)+1=o[p]by lia,nd.idxOf_getElem]
def oU{n:Nat}{o:ag}(h:o.Perm<|rg n):bk (bk o)=o:=oW (pX (pX h).pu) (pX h).flip
def lX{n:Nat}{o:ag}(h:o.Perm<|rg n):(bk o).Perm (rg n):=(pX h).pu
def G5{n k:Nat}{o:ag}(h:o.Perm<|rg n)(h0:1<=k)(h1:k<n):bk (o.map<|Wd.sw k)=Wd.ex (bk o) k:=by
 have t:=(pX h).step h0 h1;exact oW (pX t.po) t
def abQ{n k:Nat}{o:ag}(h:o.Perm<|rg n)(h0:1<=k)(h1:k<n):bk (Wd.ex o k)=(bk o).map (Wd.sw k):=by
 have t:=((pX h).flip.step h0 h1).flip;exact oW (pX t.po) t
def wB{n k p:Nat}{o u:ag}(t:Two n o u)(h1:1<=k)(h2:k<=n)(J:o.getD p 0=(k:Int))(U:p<n):u.getD (k-1) 0=(p:Int)+1:=by
 have lo:=t.lo;have c:p<o.length:=()
 have:=t.ou.2 p c;rw[Wd.mW c]at J;rw[J,show((k:Int)-1).toNat=k-1 by lia]at this;rw[aK,this];rfl
def nb{n k:Nat}{o:ag}(h:o.Perm<|rg n)(h0:1<=k)(h1:k<n):o.getD (k-1) 0≠o.getD k 0:=λz=>by
 have lo:o.length=n:=by rw[h.length_eq,Wd.j_]
 have nd:o.Nodup:=h.nodup_iff.mpr<|rL _ _;rw[Wd.mW (),Wd.mW ()]at z;have:=(cZ nd).mp z
 lia
abbrev Pr (o:ag)(k j:Nat):Prop:=(o.getD (k-1) 0=j/\o.getD k 0=(j:Int)+1)\/(o.getD (k-1) 0=(j:Int)+1/\o.getD k 0=j)
def SD{n k:Nat}{u:ag}(h:u.Perm<|rg n)(h0:1<=j)(h1:j<n):(Pr u j k->mC (u.map<|Wd.sw k) j=!mC u j)/\(¬Pr u j k->mC (u.map<|Wd.sw k) j=mC u j):=by
 have lu:u.length=n:=by rw[h.length_eq,Wd.j_]
 have e:=nb h h0 h1;have e1:(u.map<|Wd.sw k).getD (j-1) 0=Wd.sw k (u.getD (j-1) 0):=by
  rw[Wd.mW<|by rw[aG];lia,Wd.mW (),dD]
 have e2:(u.map<|Wd.sw k).getD j 0=Wd.sw k (u.getD j 0):=by
  rw[Wd.mW<|by rw[aG];lia,Wd.mW (),dD]
 unfold mC Pr;rw[e1,e2];generalize u.getD (j-1) 0=a at *
 generalize u.getD j 0=b at *
 constructor
 ·rintro(⟨d,c⟩|⟨d,c⟩)
  ·subst d;subst c;unfold Wd.sw;rw[aJ rfl,aI (),aJ rfl,a_ (),bq ()];rfl
  ·subst d;subst c;unfold Wd.sw;rw[aI (),aJ rfl,aJ rfl,bq (),a_ ()];rfl
 ·intro z;rw[gD];unfold Wd.sw;split<;>split<;>(try split)<;>(try split)<;>lia
def AJ{n k:Nat}(t:Two n o u)(h0:1<=k)(h1:k<n)(h2:1<=j)(h3:j<n)(h:Pr o k j):Pr u j k:=by
 rcases h with⟨d,c⟩|⟨d,c⟩
 ·have a:=wB t h2 () d ();have b:=wB t (k:=j+1) () () (by rw[c];lia) h1;rw[gP]at b;exact .inl ⟨by rw[a];lia,by rw[b]⟩
 ·have a:=wB t (k:=j+1) () () (by rw[d];lia) (show k-1<n by lia);have b:=wB t h2 () c h1;rw[gP]at a;exact .inr ⟨by rw[b],by rw[a];lia⟩
def aaF{n k:Nat}(t:Two n o u)(h0:1<=k)(h1:k<n)(h2:1<=j)(h3:j<n)(h:Pr o k j):mC u j=mC o k:=by
 have a:∀x y:ag,∀i m:Nat,x.getD (i-1) 0=(m:Int)->x.getD i 0=(m:Int)+1->mC x i=false:=λx y i m p q=>by
  unfold mC;rw[p,q];exact bq ()
 have b:∀x y:ag,∀i m:Nat,x.getD (i-1) 0=(m:Int)+1->x.getD i 0=(m:Int)->mC x i=true:=λx y i m p q=>by
  unfold mC;rw[p,q];exact a_ ()
 rcases h with⟨c,d⟩|⟨c,d⟩
 ·rw[a o [] k j c d]
  rcases AJ t h0 h1 h2 h3 (.inl ⟨c,d⟩)with⟨f,e⟩|⟨f,e⟩
  ·exact a u [] j k f e
  ·have:=wB t h2 () c ();lia
 ·rw[b o [] k j c d]
  rcases AJ t h0 h1 h2 h3 (.inr ⟨c,d⟩)with⟨f,e⟩|⟨f,e⟩
  ·have:=wB t h2 () d h1;lia
  ·exact b u [] j k f e
abbrev L (j:Nat)(f:Fn):Fn:=λo t=>f (o.map<|Wd.sw j) t+if mC (bk o) j=true then dl (f o) t else 0
def K9{n k:Nat}{o:ag}(h:o.Perm<|rg n)(h0:1<=k)(h1:k<n)(J:Pr o k j):o.map (Wd.sw j)=Wd.ex o k:=by
 have lo:o.length=n:=by rw[h.length_eq,Wd.j_]
 have nd:o.Nodup:=h.nodup_iff.mpr<|rL _ _;apply dm;intro p;rw[Wd.p9 h0 (),aQ];unfold Pr at J;rw[Wd.mW (),Wd.mW ()]at J;by_cases c1:p=k
 ·subst c1;rw[aJ rfl,aE (),aE (),dB];congr 1;unfold Wd.sw
  rcases J with⟨d,c⟩|⟨d,c⟩
  ·rw[d,c,aI (),aJ rfl]
  ·rw[d,c,aJ rfl]
 ·rw[aI c1];by_cases c2:p=k-1
  ·subst c2;rw[aJ rfl,aE (),aE (),dB];congr 1;unfold Wd.sw
   rcases J with⟨d,c⟩|⟨d,c⟩
   ·rw[d,c,aJ rfl]
   ·rw[d,c,aI (),aJ rfl]
  ·rw[aI c2];by_cases c3:p<o.length
   ·rw[aE c3,dB];congr 1;have f:o[p]≠o[k]:=λz=>c1<|(cZ nd).mp z;have e:o[p]≠o[k-1]:=λz=>c2<|(cZ nd).mp z;unfold Wd.sw
    rcases J with⟨d,c⟩|⟨d,c⟩
    ·rw[aI<|by rw[<- d];exact e,aI<|by rw[<- c];exact f]
    ·rw[aI<|by rw[<- c];exact f,aI<|by rw[<- d];exact e]
   ·rw[b9 ()];rfl
def XX(j:Nat)(o:ag):(o.map<|Wd.sw j).map (Wd.sw j)=o:=by
 rw[bB];have:(Wd.sw j ∘ Wd.sw j)=id:=funext λx=>by
  show Wd.sw j (Wd.sw j x)=x;unfold Wd.sw;split<;>(try split)<;>(try split)<;>lia
 rw[this,jN]
def comm{n k:Nat}(f:Fn){o:ag}(h:o.Perm<|rg n)(h0:1<=k)(h1:k<n)(h2:1<=j)(h3:j<n)(t:Int):X k (L j f) o t=L j (X k f) o t:=by
 have lo:o.length=n:=by rw[h.length_eq,Wd.j_]
 have d:=pX h;have e1:(Wd.ex o k).map (Wd.sw j)=Wd.ex (o.map<|Wd.sw j) k:=(Wd.ex_map _ h0 ()).symm;have e2:=abQ h h0 h1;have f1:=SD (k:=j) h h0 h1;have f2:=SD (k:=k) d.pu h2 h3;unfold X L dl;dsimp only;rw[e1,e2];by_cases c:Pr o k j
 ·have e:=AJ d h0 h1 h2 h3 c;have e3:=K9 h h0 h1 c;rw[f1.1 c,f2.1 e,aaF d h0 h1 h2 h3 c,<- e3]
 ·have e:¬Pr (bk o) j k:=λz=>c<|AJ d.flip h2 h3 h0 h1 z;rw[f1.2 c,f2.2 e]
  cases mC o k<;>cases mC (bk o) j
  ·dsimp[bF,cG]
  ·dsimp[bF,dj,cG];lia
  ·dsimp[bF,dj,cG];lia
  ·dsimp[dj];lia
abbrev mV (n:Nat)(f g:Fn):Prop:=∀o:ag,o.Perm (rg n)->∀t,f o t=g o t
def mV.refl{n:Nat}{f:Fn}:mV n f f:=λ_ _ _=>rfl
def mV.symm{n:Nat}{f g:Fn}(h:mV n f g):mV n g f:=λo p t=>(h o p t).symm
def mV.trans{n:Nat}{f g e:Fn}(h:mV n f g)(h':mV n g e):mV n f e:=λo p t=>(h o p t).trans<|h' o p t
def om{n k:Nat}{o:ag}(h:o.Perm<|rg n)(h0:1<=k)(h1:k<n):(Wd.ex o k).Perm (rg n):=(Wd.DQ h0<|by rw[h.length_eq,Wd.j_];exact h1).trans h
def CQ{n k:Nat}{o:ag}(h:o.Perm<|rg n)(h0:1<=k)(h1:k<n):(o.map<|Wd.sw k).Perm (rg n):=((pX h).step h0 h1).po
def SW{n k:Nat}{f g:Fn}(h:mV n f g)(h0:1<=k)(h1:k<n):mV n (X k f) (X k g):=λo p t=>by
 unfold X dl;rw[h _<|om p h0 h1,h o p,h o p]
def YL{n k:Nat}{f g:Fn}(h:mV n f g)(h0:1<=k)(h1:k<n):mV n (L k f) (L k g):=λo p t=>by
 unfold L dl;rw[h _<|CQ p h0 h1,h o p,h o p]
abbrev Va (n:Nat)(w:am):Prop:=∀k∈w,1<=k/\k<n
abbrev Xw (w:am)(f:Fn):Fn:=w.foldl (λf k=>X k f) f
abbrev Lw (w:am)(f:Fn):Fn:=w.foldl (λf k=>L k f) f
theorem DJ{n:Nat}:∀{w:am}{f g:Fn},Va n w->mV n f g->mV n (Xw w f) (Xw w g)
 | [],_,_,_,h=>h
 | k::w,_,_,v,h=>DJ (w:=w) (λj c=>v j<|aN _ c)<|SW h (v k<|aL ..).1 (v k<|aL ..).2
theorem Lp{n:Nat}:∀{w:am}{f g:Fn},Va n w->mV n f g->mV n (Lw w f) (Lw w g)
 | [],_,_,_,h=>h
 | k::w,_,_,v,h=>Lp (w:=w) (λj c=>v j<|aN _ c)<|YL h (v k<|aL ..).1 (v k<|aL ..).2
theorem acQ{n:Nat}(h2:1<=j)(h3:j<n):∀{w:am}{f:Fn},Va n w->mV n (Xw w<|L j f) (L j<|Xw w f)
 | [],_,_=>.refl
 | k::w,f,v=>by
  have v1:=v k<|aL ..;have v2:Va n w:=λj c=>v j (aN _ c)
  skip
  exact(DJ v2 λo p t=>comm f p v1.1 v1.2 h2 h3 t).trans (acQ h2 h3 v2)
theorem XQ{n:Nat}{w:am}(v:Va n w):∀{u:am}{f:Fn},Va n u->mV n (Xw w<|Lw u f) (Lw u<|Xw w f)
 | [],_,_=>.refl
 | j::u,f,vu=>by
  have v1:=vu j<|aL ..;have v2:Va n u:=λi hi=>vu i (aN _ hi)
  skip
  exact(XQ v v2).trans (Lp v2<|acQ v1.1 v1.2 v)
abbrev D (u:ag)(g:Int->Int):Fn:=λo t=>if o=u then g t else 0
def X_D{n k:Nat}{u:ag}(g:Int->Int)(J:u.Perm<|rg n)(h0:1<=k)(h1:k<n):mV n (X k<|D u g) λo t=>D (Wd.ex u k) g o t+if mC u k=true then D u (dl g) o t else 0:=λo p t=>by
 have lo:o.length=n:=by rw[p.length_eq,Wd.j_]
 have lu:u.length=n:=by rw[J.length_eq,Wd.j_]
 have d:Wd.ex o k=u ↔ o=Wd.ex u k:=⟨λz=>by rw[<- z,Fw.se h0 ()],λz=>by rw[z,Fw.se h0 ()]⟩;unfold X D dl;dsimp only;by_cases c:o=u
 ·subst c;rw[aJ rfl,aJ rfl,aJ rfl];congr 1;by_cases c2:Wd.ex o k=o
  ·rw[aJ c2,aJ c2.symm]
  ·rw[aI c2,aI λz=>c2 z.symm]
 ·rw[aI c,aI c,aI c];congr 1
  ·by_cases c2:Wd.ex o k=u
   ·rw[aJ c2,aJ<|d.mp c2]
   ·rw[aI c2,aI λz=>c2<|d.mpr z]
  ·split<;>split<;>rfl
def L_D{n k:Nat}{u:ag}(g:Int->Int)(J:u.Perm<|rg n)(h0:1<=k)(h1:k<n):mV n (L k<|D u g) λo t=>D (u.map<|Wd.sw k) g o t+if mC (bk u) k=true then D u (dl g) o t else 0:=λo p t=>by
 have d:o.map (Wd.sw k)=u ↔ o=u.map (Wd.sw k):=⟨λz=>by rw[<- z,XX],λz=>by rw[z,XX]⟩;unfold L D dl;dsimp only;by_cases c:o=u
 ·subst c;rw[aJ rfl,aJ rfl,aJ rfl];congr 1;by_cases c2:o.map (Wd.sw k)=o
  ·rw[aJ c2,aJ c2.symm]
  ·rw[aI c2,aI λz=>c2 z.symm]
 ·rw[aI c,aI c,aI c];congr 1
  ·by_cases c2:o.map (Wd.sw k)=u
   ·rw[aJ c2,aJ<|d.mp c2]
   ·rw[aI c2,aI λz=>c2<|d.mpr z]
  ·split<;>split<;>rfl
def HQ{l:ag}{k:Nat}(h:l.getD (k-1) 0<l.getD k 0):mC l k=false:=bq ()
theorem ab_{n:Nat}{g:Int->Int}:∀{w:am}{u:ag},u.Perm (rg n)->Wd.kC u w->mV n (Xw w<|D u g) (D (Wd.led u w) g)
 | [],_,_,_=>.refl
 | k::w,u,hu,h=>by
  obtain⟨h1,h2,h3,c⟩:=h;have lu:u.length=n:=by rw[hu.length_eq,Wd.j_]
  have f:=om hu h1 ();have e:mV n (X k<|D u g) (D (Wd.ex u k) g):=(X_D g hu h1 ()).trans λo p t=>by
   dsimp only;rw[HQ h3,aI<|by simp,b8]
  have v:Va n w:=λj d=>by
   have:=Wd.kC.valid c j d;rw[Wd.nA,lu]at this;exact this
  skip
  exact(DJ v e).trans (ab_ f c)
theorem acz{n:Nat}{g:Int->Int}:∀{w:am}{u:ag},u.Perm (rg n)->Wd.kC (bk u) w->∃v:ag,v.Perm (rg n)/\bk v=Wd.led (bk u) w/\mV n (Lw w<|D u g) (D v g)
 | [],u,hu,_=>⟨u,hu,rfl,.refl⟩
 | k::w,u,hu,h=>by
  obtain⟨h1,h2,h3,c⟩:=h;have f:(bk u).length=n:=by rw[(lX hu).length_eq,Wd.j_]
  have C:=CQ hu h1 ();have d:bk (u.map<|Wd.sw k)=Wd.ex (bk u) k:=G5 hu h1 ();have e:mV n (L k<|D u g) (D (u.map<|Wd.sw k) g):=(L_D g hu h1 ()).trans λo p t=>by
   dsimp only;rw[HQ h3,aI<|by simp,b8]
  have v:Va n w:=λj m=>by
   have:=Wd.kC.valid c j m;rw[Wd.nA,f]at this;exact this
  rw[<- d]at c;obtain⟨x,F,q,B⟩:=acz (g:=g) C c;refine⟨x,F,?_,(Lp v e).trans B⟩;rw[q,d];rfl
def oV(n:Nat):(rg n).Perm (rg n):=.refl _
theorem wg{n:Nat}:∀(m:Nat) {u:ag},u.Perm (rg n)->Iv.inv u=m->∃w,Wd.kC (rg n) w/\Wd.led (rg n) w=u
 | 0,u,hu,hm=>by
  refine⟨[],trivial,(Fw.Kr hu λk c=>?_).symm⟩;have:=Fw.vO c.1 c.2.1 c.2.2
  lia
 | m+1,u,hu,hm=>by
  obtain⟨k,c⟩:=Fw.Wf (l:=u) ();have lu:u.length=n:=by rw[hu.length_eq,Wd.j_]
  have d:=Fw.vO c.1 c.2.1 c.2.2;obtain⟨w,h1,h2⟩:=wg m (om hu c.1<|by rw[<- lu];exact c.2.1) ();obtain⟨e1,e2⟩:=Su.XZ (o:=u) c.1 c.2.1;refine⟨w++[k],Wd.kC.snoc h1 c.1 (by rw[Wd.j_,<- lu];exact c.2.1)<|by rw[h2,e1,e2];exact c.2.2,?_⟩;rw[Wd.Aw,h2];exact Fw.se c.1 c.2.1
def Dw(n:Nat):bk (rg n)=rg n:=by
 refine oW (pX<|oV n) ⟨oV n,oV n,rfl,λp d=>?_⟩;have c:p<n:=by rw[Wd.j_]at d;exact d
 have e:=Wd.oJ c;rw[aE d]at e;have e:=bz e;rw[show((rg n)[p]-1).toNat=p by rw[e];lia];exact Wd.oJ c
def Wj{n:Nat}{u:ag}(J:u.Perm<|rg n):∃v,Va n v/\∀g,mV n (Lw v<|D (rg n) g) (D u g):=by
 obtain⟨w,h1,h2⟩:=wg _ (lX J) rfl;have v:Va n w:=λk f=>by have:=Wd.kC.valid h1 k f;rwa [Wd.j_]at this
 refine⟨w,v,λg=>?_⟩;have c:Wd.kC (bk<|rg n) w:=by rw[Dw];exact h1
 obtain⟨x,j,d,e⟩:=acz (g:=g) (oV n) c;rw[Dw,h2]at d;have:x=u:=by rw[<- oU j,d,oU J]
 rw[<- this];exact e
def aaQ{n:Nat}{w:am}(h:Wd.kC (rg n) w)(h':Wd.kC (rg n) w')(e:Wd.led (rg n) w=Wd.led (rg n) w'){u:ag}(J:u.Perm<|rg n)(g:Int->Int):mV n (Xw w<|D u g) (Xw w'<|D u g):=by
 obtain⟨v,v1,v2⟩:=Wj J;have a:∀{w:am},Wd.kC (rg n) w->mV n (Xw w<|D u g) (Lw v<|D (Wd.led (rg n) w) g):=λ{w} h=>by
  have vw:Va n w:=λk c=>by have:=Wd.kC.valid h k c;rwa [Wd.j_]at this
  exact(DJ vw (v2 g).symm).trans ((XQ vw v1).trans<|Lp v1<|ab_ (oV n) h)
 refine(a h).trans ?_;rw[e];exact(a h').symm
abbrev add (f g:Fn):Fn:=λo t=>f o t+g o t
def Ys(k:Nat)(f g:Fn):X k (add f g)=add (X k f) (X k g):=by
 funext o t
 unfold X add dl;dsimp only;split<;>lia
theorem JQ:∀(w:am) (f g:Fn),Xw w (add f g)=add (Xw w f) (Xw w g)
 | [],_,_=>rfl
 | k::w,f,g=>by
  show Xw w (X k<|add f g)=_;rw[Ys,JQ w];rfl
def Px(k:Nat):X k (λ_ _=>0)=λ_ _=>0:=by
 funext o t
 unfold X dl;split<;>rfl
theorem Fy:∀w:am,Xw w (λ_ _=>0)=λ_ _=>0
 | []=>rfl
 | k::w=>by
  show Xw w (X k _)=_;rw[Px,Fy w]
def Ep(e:ag×Po.Pl)(l:Su.Ps):Su.cS (e::l)=add (D e.1<|Po.cf e.2) (Su.cS l):=by
 funext o t
 show(if e.1=o then _ else _)+_=(if o=e.1 then _ else _)+_;by_cases c:e.1=o
 ·rw[aJ c,aJ c.symm]
 ·rw[aI c,aI λz=>c z.symm]
theorem Qe{n:Nat}{w:am}(h:Wd.kC (rg n) w)(h':Wd.kC (rg n) w')(e:Wd.led (rg n) w=Wd.led (rg n) w'):∀{l:Su.Ps},(∀x∈l,x.1.Perm<|rg n)->mV n (Xw w<|Su.cS l) (Xw w'<|Su.cS l)
 | [],_=>by
  have z:Su.cS []=λ_ _=>0:=rfl;rw[z,Fy,Fy];exact .refl
 | x::l,hx=>by
  rw[Ep,JQ,JQ];intro o p t;unfold add;rw[aaQ h h' e (hx x<|aL ..) _ o p t,Qe h h' e (λy c=>hx y<|aN _ c) o p t]
def Vh{n k:Nat}{l:Su.Ps}(h:∀x∈l,x.1.Perm<|rg n)(h0:1<=k)(h1:k<n):mV n (Su.cS<|Su.bx k l) (X k<|Su.cS l):=λo p t=>by
 have go:∀{x:ag},x.Perm (rg n)->Su.Go n k x:=λ{x} hx=>⟨by rw[hx.length_eq,Wd.j_],nb hx h0 h1⟩;unfold Su.bx;rw[Su.DW<|Su.Gd.nil.adds _,Su.Ir];show 0+_=_;rw[bW,Su.Xz h0 h1 (λe c=>go<|h e c) t<|go p];rfl
end He
namespace He
open PySem L2 Am Po
open Fw (Two rg DE)
open Su (mC Ps cS)
abbrev cv:Pl->(Int->Int)->Int->Int
 | [],_,_=>0
 | q::p,g,t=>q.2 * g (t-q.1)+cv p g t
def Jk(a b:Pl)(g:Int->Int)(t:Int):cv (a++b) g t=cv a g t+cv b g t:=by
 induction a with
 | nil=>exact(bW _).symm
 | cons q a c=>
  show _+cv (a++b) g t=_+_+_;rw[c,dP]
def zB(p:Pl)(g h:Int->Int)(t:Int):cv p (λt=>g t+h t) t=cv p g t+cv p h t:=by
 induction p with
 | nil=>rfl
 | cons q p c=>
  show q.2 * (g (t-q.1)+h (t-q.1))+cv p _ t=(q.2 * g (t-q.1)+cv p g t)+(q.2 * h (t-q.1)+cv p h t);rw[c,iT];lia
def wc(p:Pl)(t:Int):cv p (λ_=>0) t=0:=by
 induction p with
 | nil=>rfl
 | cons q p c=>
  show q.2 * 0+cv p _ t=0;rw[c,eu];rfl
def Yj(p:Pl)(g:Int->Int)(t:Int):cv p (dl g) t=dl (cv p g) t:=by
 induction p with
 | nil=>rfl
 | cons q p c=>
  show q.2 * (g (t-q.1+1)-g (t-q.1-1))+cv p (dl g) t=(q.2 * g (t+1-q.1)+cv p g (t+1))-(q.2 * g (t-1-q.1)+cv p g (t-1));rw[c,Int.mul_sub,show t-q.1+1=t+1-q.1 by lia,show t-q.1-1=t-1-q.1 by lia];show _+(cv p g (t+1)-cv p g (t-1))=_
  lia
def acW(p q:Pl)(t:Int):cf (times p q) t=cv p (cf q) t:=by
 rw[Su.BZ]
 induction p with
 | nil=>rfl
 | cons a p c=>
  show cf ((q.map λb=>(a.1+b.1,a.2 * b.2))++Ie p q) t=_;rw[Su.zg,Su.Ku,c];rfl
def Qu(p:Pl)(g:Int->Int)(t a:Int):cv p g t=cf p a * g (t-a)+cv (p.filter λq=>decide<|q.1≠a) g t:=by
 induction p with
 | nil=>show(0:Int)=0 * _+0;rw[zero_mul];rfl
 | cons q p d=>
  show q.2 * g (t-q.1)+cv p g t=((if q.1=a then q.2 else 0)+cf p a) * g (t-a)+_;rw[bZ,Int.add_mul];by_cases c:q.1=a
  ·rw[aJ c,bq<|by simpa using c,aI<|by simp,d,c];lia
  ·rw[aI c,a_ c,aJ rfl,d,zero_mul];show _=0+_+(q.2 * g (t-q.1)+cv _ g t)
   lia
def NY(p:Pl)(a b:Int):cf (p.filter λq=>decide<|q.1≠a) b=if b=a then 0 else cf p b:=by
 induction p with
 | nil=>show(0:Int)=_;split<;>rfl
 | cons q p d=>
  rw[bZ];show _=if b=a then 0 else(if q.1=b then q.2 else 0)+cf p b
  by_cases c:q.1=a
  ·rw[bq<|by simpa using c,aI<|by simp,d];by_cases e:b=a
   ·rw[aJ e,aJ e]
   ·rw[aI e,aI e,aI (),bW]
  ·rw[a_ c,aJ rfl];show(if q.1=b then q.2 else 0)+cf _ b=_;rw[d];by_cases e:b=a
   ·rw[aJ e,aJ e,aI ()];rfl
   ·rw[aI e,aI e]
def CM:∀(m:Nat) {p:Pl},p.length=m->(∀k,cf p k=0)->∀(g:Int->Int) (t:Int),cv p g t=0:=by
 intro m
 induction m using Nat.strongRecOn with
 | _ m d=>
  intro p c h g t
  cases p with
  | nil=>rfl
  | cons q p=>
   rw[Qu _ g t q.1,h,zero_mul,bW];refine d _ ?_ rfl (λk=>?_) g t
   ·rw[bZ,bq<|by simp,aI<|by simp,<- c];exact Nat.lt_succ_of_le (cC _ _)
   ·rw[NY];split
    ·rfl
    ·exact h k
def Um(p:Pl)(g:Int->Int)(t:Int):cv (p.map λq=>(q.1,-q.2)) g t=- cv p g t:=by
 induction p with
 | nil=>rfl
 | cons q p c=>
  show -q.2 * g (t-q.1)+cv (p.map _) g t=-(q.2 * g (t-q.1)+cv p g t);rw[c,Int.neg_mul];lia
def UD(p:Pl)(k:Int):cf (p.map λq=>(q.1,-q.2)) k=- cf p k:=by
 induction p with
 | nil=>rfl
 | cons q p c=>
  show(if q.1=k then -q.2 else 0)+cf (p.map _) k=-((if q.1=k then q.2 else 0)+cf p k);rw[c];split<;>lia
def Jv{p q:Pl}(h:∀k,cf p k=cf q k)(g:Int->Int)(t:Int):cv p g t=cv q g t:=by
 have:=CM _ (p:=p++q.map λq=>(q.1,-q.2)) rfl (λk=>by rw[Su.zg,UD,h];lia) g t;rw[Jk,Um]at this
 lia
def acy(p q:Pl)(g:Int->Int)(t:Int):cv p (cv q g) t=cv q (cv p g) t:=by
 induction p generalizing t with
 | nil=>exact(wc q t).symm
 | cons a p d=>
  show a.2 * cv q g (t-a.1)+cv p (cv q g) t=cv q (λt=>a.2 * g (t-a.1)+cv p g t) t;rw[d,zB];congr 1;clear d
  induction q with
  | nil=>show a.2 * 0=0;rw[eu]
  | cons b q c=>
   show a.2 * (b.2 * g (t-a.1-b.1)+cv q g (t-a.1))=b.2 * (a.2 * g (t-b.1-a.1))+cv q _ t;rw[<- c,iT,show t-a.1-b.1=t-b.1-a.1 by lia,<- mul_assoc,<- mul_assoc,Int.mul_comm a.2 b.2]
abbrev t6 (p:Pl)(f:Fn):Fn:=λo t=>cv p (f o) t
def ZS(k:Nat)(p:Pl)(f:Fn):X k (t6 p f)=t6 p (X k f):=by
 funext o t
 show cv p (f<|Wd.ex o k) t+(if mC o k=true then dl (cv p<|f o) t else 0)=cv p (λt=>f (Wd.ex o k) t+if mC o k=true then dl (f o) t else 0) t;rw[zB]
 cases mC o k with
 | true=>dsimp[dj];rw[<- Yj]
 | false=>dsimp[bF,cG];rw[wc]
abbrev sw (n:Nat)(o:ag):am:=by
 classical
 exact if h:o.Perm (rg n)then(wg _ h rfl).choose else[]
def Bh{n:Nat}{o:ag}(h:o.Perm<|rg n):Wd.kC (rg n) (sw n o)/\Wd.led (rg n) (sw n o)=o:=by
 unfold sw;rw[dif_pos h];exact(wg _ h rfl).choose_spec
def Ro{n:Nat}{o:ag}(h:o.Perm<|rg n):Va n (sw n o):=λk c=>by have:=Wd.kC.valid (Bh h).1 k c;rwa [Wd.j_]at this
abbrev RG (G:ag->Fn):Ps->Fn
 | []=>λ_ _=>0
 | e::m=>add (t6 e.2<|G e.1)<|RG G m
abbrev R (n:Nat)(m:Ps)(f:Fn):Fn:=RG (λo=>Xw (sw n o) f) m
def aad(G:ag->Fn)(a b:Ps):RG G (a++b)=add (RG G a) (RG G b):=by
 induction a with
 | nil=>funext o t;exact(bW _).symm
 | cons e a c=>
  show add _ (RG G<|a++b)=_;rw[c]
  funext o t
  exact(dP _ _ _).symm
theorem X6(G:ag->Fn)(o:ag)(t:Int)(w:ag):∀m:Ps,RG G m o t=cv ((m.filter λe=>decide<|e.1=w).flatMap λe=>e.2) (G w o) t+RG G (m.filter λe=>decide<|e.1≠w) o t
 | []=>rfl
 | e::m=>by
  show cv e.2 (G e.1 o) t+RG G m o t=_;rw[X6 G o t w m,bZ,bZ];by_cases c:e.1=w
  ·rw[a_ c,aJ rfl,bq<|by simpa using c,aI<|by simp,dz,Jk,c];lia
  ·rw[bq c,aI<|by simp,a_ c,aJ rfl];show _=_+(cv e.2 (G e.1 o) t+RG G _ o t)
   lia
theorem FN(w:ag)(t:Int):∀m:Ps,cf ((m.filter λe=>decide<|e.1=w).flatMap λe=>e.2) t=cS m w t
 | []=>rfl
 | e::m=>by
  rw[bZ];show _=(if e.1=w then cf e.2 t else 0)+cS m w t;by_cases c:e.1=w
  ·rw[a_ c,aJ rfl,aJ c,dz,Su.zg,FN w t m]
  ·rw[bq c,aI<|by simp,aI c,FN w t m,bW]
theorem y_(w o:ag)(t:Int):∀m:Ps,cS (m.filter λe=>decide<|e.1≠w) o t=if o=w then 0 else cS m o t
 | []=>by show(0:Int)=_;split<;>rfl
 | e::m=>by
  rw[bZ];show _=if o=w then 0 else(if e.1=o then cf e.2 t else 0)+cS m o t
  by_cases c:e.1=w
  ·rw[bq<|by simpa using c,aI<|by simp,y_ w o t m];by_cases d:o=w
   ·rw[aJ d,aJ d]
   ·rw[aI d,aI d,aI λz=>d<|z.symm.trans c,bW]
  ·rw[a_ c,aJ rfl];show(if e.1=o then cf e.2 t else 0)+cS _ o t=_;rw[y_ w o t m];by_cases d:o=w
   ·rw[aJ d,aJ d,aI λz=>c<|z.trans d];rfl
   ·rw[aI d,aI d]
def N5(G:ag->Fn)(o:ag)(t:Int):∀(k:Nat) {m:Ps},m.length=k->(∀w s,cS m w s=0)->RG G m o t=0:=by
 intro k
 induction k using Nat.strongRecOn with
 | _ k c=>
  intro m d h
  cases m with
  | nil=>rfl
  | cons e m=>
   rw[X6 G o t e.1];have z:cv (((e::m).filter λx=>decide<|x.1=e.1).flatMap λe=>e.2) (G e.1 o) t=0:=CM _ rfl (λs=>by rw[FN];exact h _ _) _ _;rw[z,bW];refine c _ ?_ rfl λw s=>?_
   ·rw[bZ,bq<|by simp,aI<|by simp,<- d];exact Nat.lt_succ_of_le (cC _ _)
   ·rw[y_];split
    ·rfl
    ·exact h w s
def aaA(G:ag->Fn)(h:∀w s,cS m w s=cS m' w s):RG G m=RG G m':=by
 funext o t
 have d:∀m:Ps,RG G (m.map λe=>(e.1,e.2.map λq=>(q.1,-q.2))) o t=- RG G m o t:=λm=>by
  induction m with
  | nil=>rfl
  | cons e m f=>
   show cv (e.2.map λq=>(q.1,-q.2)) (G e.1 o) t+RG G (m.map _) o t=-(cv e.2 (G e.1 o) t+RG G m o t);rw[f,Um];lia
 have c:∀(m:Ps) (w:ag) (s:Int),cS (m.map λe=>(e.1,e.2.map λq=>(q.1,-q.2))) w s=- cS m w s:=λm w s=>by
  induction m with
  | nil=>rfl
  | cons e m f=>
   show(if e.1=w then cf (e.2.map λq=>(q.1,-q.2)) s else 0)+cS (m.map _) w s=-((if e.1=w then cf e.2 s else 0)+cS m w s);rw[f,UD];split<;>lia
 have:=N5 G o t _ (m:=m++m'.map λe=>(e.1,e.2.map λq=>(q.1,-q.2))) rfl λw s=>by rw[Su.oO,c,h];lia
 rw[aad]at this;have this:RG G m o t+RG G (m'.map λe=>(e.1,e.2.map λq=>(q.1,-q.2))) o t=0:=this;rw[d]at this
 lia
def X_X{n k:Nat}(h0:1<=k)(h1:k<n)(f:Fn):mV n (X k<|X k f) λo t=>f o t+dl (X k f o) t:=λo p t=>by
 have lo:o.length=n:=by rw[p.length_eq,Wd.j_]
 have go:Su.Go n k o:=⟨lo,nb p h0 h1⟩;obtain⟨_,hf⟩:=go.ex h0 h1;unfold X dl;dsimp only;rw[Fw.se h0 (),hf]
 cases mC o k with
 | true=>dsimp[dg,bF,cG,dj];lia
 | false=>dsimp[c_,bF,cG,dj];lia
def Ez{n:Nat}{f g:Fn}(p:Pl)(h:mV n f g):mV n (t6 p f) (t6 p g):=λo c t=>by
 show cv p (f o) t=cv p (g o) t;rw[show f o=g o from funext λt=>h o c t]
def J8{n k:Nat}{m:Ps}(h0:1<=k)(h1:k<n)(J:∀x∈m,x.1.Perm<|rg n):∀x∈Su.bx k m,x.1.Perm (rg n):=Su.tP (P:=λo=>o.Perm<|rg n) (Su.qU (P:=λo=>o.Perm<|rg n) _ (nofun) λx c=>by
 obtain⟨f,hf,c⟩:=gE.mp c
 rcases bG.mp c with z|z
 ·rw[z];exact om (J f hf) h0 h1
 ·split at z
  ·rw[aP.mp z];exact J f hf
  ·cases z)
def RI(p q:Pl)(g:Int->Int)(t:Int):cv (times p q) g t=cv p (cv q g) t:=by
 have:cv (times p q) g t=cv (Ie p q) g t:=Jv (λk=>Su.BZ _ _ _) g t;rw[this];clear this
 induction p with
 | nil=>rfl
 | cons a p d=>
  show cv ((q.map λb=>(a.1+b.1,a.2 * b.2))++Ie p q) g t=a.2 * cv q g (t-a.1)+cv p (cv q g) t;rw[Jk,d];congr 1;clear d
  induction q with
  | nil=>show(0:Int)=a.2 * 0;rw[eu]
  | cons b q c=>
   show a.2 * b.2 * g (t-(a.1+b.1))+cv (q.map _) g t=a.2 * (b.2 * g (t-a.1-b.1)+cv q g (t-a.1));rw[c,iT,mul_assoc,show t-(a.1+b.1)=t-a.1-b.1 by lia]
abbrev OJ (p:Pl)(l:Ps):Ps:=l.map λx=>(x.1,times p x.2)
def BH(p:Pl)(l:Ps):cS (OJ p l)=t6 p (cS l):=by
 funext o t
 induction l with
 | nil=>exact(wc p t).symm
 | cons e l d=>
  show(if e.1=o then cf (times p e.2) t else 0)+cS (OJ p l) o t=cv p (λt=>(if e.1=o then cf e.2 t else 0)+cS l o t) t;rw[zB,d];congr 1;by_cases c:e.1=o
  ·rw[aJ c,acW,show(λt=>if e.1=o then cf e.2 t else 0)=cf e.2 from funext λt=>aJ c]
  ·rw[aI c,show(λt=>if e.1=o then cf e.2 t else(0:Int))=λ_=>0 from funext λt=>aI c,wc]
def off{n:Nat}{m:Ps}(J:∀x∈m,x.1.Perm<|rg n){o:ag}(h:¬o.Perm (rg n))(t:Int):cS m o t=0:=Su.yq λe c z=>h<|by rw[<- z];exact J e c
def J1{n:Nat}{m J:Ps}(hm:∀x∈m,x.1.Perm<|rg n)(U:∀x∈J,x.1.Perm<|rg n)(h:mV n (cS m)<|cS J):∀o t,cS m o t=cS J o t:=λo t=>by
 by_cases c:o.Perm (rg n)
 ·exact h o c t
 ·rw[off hm c,off U c]
def acI(k:Nat)(f g:Fn):L k (add f g)=add (L k f) (L k g):=by
 funext o t
 unfold L add dl;dsimp only;split<;>lia
abbrev B (f:Fn):Fn:=λo=>f<|bk o
def B_X{n k:Nat}(h0:1<=k)(h1:k<n)(f:Fn):mV n (B<|X k f) (L k<|B f):=λo p t=>by
 show f (Wd.ex (bk o) k) t+(if mC (bk o) k=true then dl (f<|bk o) t else 0)=f (bk<|o.map<|Wd.sw k) t+if mC (bk o) k=true then dl (f<|bk o) t else 0
 rw[G5 p h0 h1]
abbrev d0:Int->Int:=λt=>if t=0 then 1 else 0
def X9(p:Pl)(t:Int):cv p d0 t=cf p t:=by
 induction p with
 | nil=>rfl
 | cons q p d=>
  show q.2 * (if t-q.1=0 then 1 else 0)+cv p d0 t=(if q.1=t then q.2 else 0)+cf p t;rw[d];by_cases c:q.1=t
  ·rw[aJ c,aJ (),Int.mul_one]
  ·rw[aI c,aI (),eu]
abbrev wb (l:Ps):Ps:=l.map λe=>(bk e.1,e.2)
theorem zG{n:Nat}{o:ag}(J:o.Perm<|rg n)(t:Int):∀{l:Ps},(∀x∈l,x.1.Perm<|rg n)->cS (wb l) o t=cS l (bk o) t
 | [],_=>rfl
 | e::l,hl=>by
  show(if bk e.1=o then cf e.2 t else 0)+cS (wb l) o t=(if e.1=bk o then cf e.2 t else 0)+cS l (bk o) t;rw[zG J t λx d=>hl x<|aN _ d];have f:=hl e<|aL ..;congr 1;by_cases c:bk e.1=o
  ·rw[aJ c,aJ<|by rw[<- c,oU f]]
  ·rw[aI c,aI λz=>c<|by rw[z,oU J]]
end He
namespace He
open PySem L2 Am Po
open Fw (Two rg DE)
open Su (mC Ps cS Gd vS toS adds bx)
def TF{D:Ps}(h:Gd D){e:ag×Pl}(J:e∈D):vS D e.1=e.2:=by
 rcases Su.vY (D:=D) (o:=e.1)with⟨c,h1,h2,h3⟩|⟨h1,_⟩
 ·rw[h3,E2 h.nd c h1 e J h2]
 ·exact absurd (fL J) h1
def HE{D:Ps}(h:Gd D):(D.map Prod.fst).map (λk=>(k,vS D k))=D:=by
 rw[bB]
 conv=>rhs;rw[<- jN D]
 exact dh λe c=>by
  show(e.1,vS D e.1)=e;rw[TF h c]
def Na{D:Ps}(h:Gd D)(o:ag)(t:Int):cS D o t=cf (vS D o) t:=by
 conv=>lhs;rw[<- HE h]
 rw[Su.Jy h.nd];split
 ·rfl
 ·rename_i c
  rcases Su.vY (D:=D) (o:=o)with⟨e,h1,h2,_⟩|⟨_,h2⟩
  ·exact absurd (h2 ▸ fL h1) c
  ·rw[h2];rfl
def II{D:Ps}(h:Gd D):Gd (toS D):=by
 refine⟨?_,λe c=>?_⟩
 ·unfold toS;rw[bB,show(Prod.fst ∘ λo=>(o,vS D o))=id from rfl,jN];exact((kO _).nodup_iff.mpr h.nd).filter _
 ·obtain⟨o,_,rfl⟩:=aW.mp c;exact h.v o
structure Cn (l:Ps):Prop where
 gd:Gd l
 eq:toS l=l
theorem Cn.toS{D:Ps}(h:Gd D):Cn (toS D):=⟨II h,Su.Ug (II h) h λo t=>by rw[<- Na (II h),Su.DW h]⟩
def PC{P:Ps}(h:Gd P)(hn:∀e∈P,e.2≠[]):B7 P=toS P:=by
 symm
 have all:(mO<|P.map Prod.fst).filter (λo=>!(vS P o).isEmpty)=mO (P.map Prod.fst):=by
  rw[i7];intro o f;obtain⟨e,c,rfl⟩:=aW.mp<|(kO _).mem_iff.mp f;rw[TF h c]
  cases d:e.2 with
  | nil=>exact absurd d (hn e c)
  | cons=>rfl
 have ts:toS P=(mO<|P.map Prod.fst).map λo=>(o,vS P o):=by unfold toS;rw[all]
 refine JA h.nd ?_ ?_
 ·rw[ts];have:=(kO<|P.map Prod.fst).map λo=>(o,vS P o)
  rwa [HE h]at this
 ·rw[ts,bB,show(Prod.fst ∘ λo=>(o,vS P o))=id from rfl,jN];exact vt _
abbrev ff (o:ag):bn:=((List.range<|o.length-1).find? λi=>mC o<|i+1).map (·+1)
def DN{o:ag}{k:Nat}(h:ff o=some k):1<=k/\k<o.length/\mC o k=true:=by
 obtain⟨i,hi,rfl⟩:=aY.mp h;have h1:=cY.mp<|e_ hi;have h2:mC o (i+1)=true:=iW (p:=λi=>mC o<|i+1) hi;exact⟨(),(),h2⟩
def Xf{o:ag}(h:ff o=none):∀k,1<=k->k<o.length->mC o k=false:=λk h1 h2=>by
 have h:=Option.map_eq_none_iff.mp h;have:=fZ.mp h (k-1)<|cY.mpr ();rw[Nat.sub_add_cancel h1]at this;simpa using this
def acM(k:Nat)(l:Ps):Cn (bx k l):=.toS<|Gd.nil.adds _
def J_(l:Ps)(o:ag)(t:Int):cS (toS<|adds [] l) o t=cS l o t:=by
 rw[Su.DW<|Gd.nil.adds _,Su.Ir];exact bW _
abbrev w6 (l m:Ps):Ps:=toS<|adds []<|l++m
def AX{n:Nat}{l m:Ps}(pl:∀x∈l,x.1.Perm<|rg n)(J:∀x∈m,x.1.Perm<|rg n):Cn (w6 l m)/\(∀x∈w6 l m,x.1.Perm<|rg n)/\cS (w6 l m)=add (cS l) (cS m):=
 ⟨.toS<|Gd.nil.adds _,Su.tP (P:=λo=>o.Perm<|rg n)<|Su.qU (P:=λo=>o.Perm<|rg n) _ (nofun) λx c=>(br.mp c).elim (pl x)<|J x,funext λo=>funext λt=>by
  show cS (toS<|adds []<|l++m) o t=_;rw[J_,Su.oO];rfl⟩
abbrev one (n:Nat):Ps:=[(rg n,[((0:Int),(1:Int))])]
def Ri(o:ag){p:Pl}(J:Ok p)(h0:p≠[]):Cn [(o,p)]:=by
 have g:Gd [(o,p)]:=⟨cN.mpr ⟨(λz=>nomatch z),dO⟩,λe c=>by rw[aP.mp c];exact J⟩;exact⟨g,(PC g λe c=>by rw[aP.mp c];exact h0).symm⟩
def Ur:Ok [((0:Int),(1:Int))]:=⟨cB _ _,λp c=>by rw[aP.mp c];decide⟩
def Ti(n:Nat):∀x∈one n,x.1.Perm (rg n):=λx c=>by rw[aP.mp c]
def RL(g:Int->Int)(t:Int):cv [((0:Int),(1:Int))] g t=g t:=by
 show 1 * g (t-0)+0=_;rw[i_];lia
end He
namespace He
open PySem L2 Am Po
open Fw (Two rg DE)
open Su (mC Ps cS Gd vS toS adds bx)
abbrev arr:Nat->ag->List (ag)
 | 0,_=>[[]]
 | m+1,l=>l.flatMap λx=>(arr m<|l.erase x).map (x::·)
theorem Nh:∀{m:Nat}{l o:ag},o.Perm l->l.length=m->o∈arr m l
 | 0,l,o,p,h=>by
  have:l=[]:=dW.mp h;subst this;rw[p.eq_nil];exact aP.mpr rfl
 | m+1,l,[],p,h=>by rw[<- p.length_eq]at h;cases h
 | m+1,l,x::o,p,h=>by
  obtain⟨h1,h2⟩:=List.cons_perm_iff_perm_erase.mp p;refine gE.mpr ⟨x,h1,aW.mpr ⟨o,Nh h2 ?_,rfl⟩⟩;rw[List.length_erase_of_mem h1,h];rfl
def CS{α:Type}[DecidableEq α]{ks L:List α}(nd:ks.Nodup)(h:∀x∈ks,x∈L):ks.length<=L.length:=by
 have:=pig L.length (ks.map λx=>L.idxOf x) ?_ λi hi=>?_
 ·rwa [aG]at this
 ·refine cK.mpr<|nd.imp_of_mem λ{a b} ha hb hab z=>hab ?_;have e1:=ji<|fJ.mpr<|h a ha;have e2:=ji<|fJ.mpr<|h b hb;rw[<- e1,<- e2];congr 1
 ·obtain⟨x,c,rfl⟩:=aW.mp hi;exact fJ.mpr<|h x c
def V9:∀n,n<6->(arr n<|rg n).length<=120:=by decide +kernel
def many{n:Nat}(hn:n<6){ks:List<|ag}(nd:ks.Nodup)(h:∀o∈ks,o.Perm<|rg n):ks.length<=120:=
 bD (CS nd λo c=>Nh (h o c)<|Wd.j_ n) (V9 n hn)
structure FB (n P C:Nat)(f:Fn):Prop where
 c:∀o,o.Perm (rg n)->∀t,(f o t).natAbs<=C
 p:∀o,o.Perm (rg n)->∀t:Int,P<t.natAbs->f o t=0
def FB.mono{n P:Nat}{f:Fn}(h:FB n P C f)(J:P<=P')(hc:C<=C'):FB n P' C' f:=⟨λo d t=>bD (h.c o d t) hc,λo d t e=>h.p o d t ()⟩
def FB.eq{n P:Nat}{f g:Fn}(h:FB n P C f)(e:mV n g f):FB n P C g:=⟨λo d t=>by rw[e o d t];exact h.c o d t,λo d t j=>by rw[e o d t];exact h.p o d t j⟩
theorem FB.X{n P k:Nat}{f:Fn}(h:FB n P C f)(h0:1<=k)(h1:k<n):FB n (P+1) (3 * C) (X k f):=by
 refine⟨λo e t=>?_,λo e t g=>?_⟩
 ·have a:=h.c _ (om e h0 h1) t;have b:=h.c o e<|t+1;have d:=h.c o e<|t-1;unfold He.X dl;split<;>omega
 ·have a:=h.p _ (om e h0 h1) t (by omega);have b:=h.p o e (t+1) (by omega);have d:=h.p o e (t-1) (by omega);unfold He.X dl;split<;>omega
theorem FB.add{n P:Nat}{f g:Fn}(h:FB n P C f)(h':FB n P C' g):FB n P (C+C') (add f g):=by
 refine⟨λo d t=>?_,λo d t e=>?_⟩
 ·have a:=h.c o d t;have b:=h'.c o d t;show(f o t+g o t).natAbs<=_;omega
 ·show f o t+g o t=0;rw[h.p o d t e,h'.p o d t e];rfl
structure PB (Q c:Nat)(p:Pl):Prop where
 c:∀q∈p,q.2.natAbs<=c
 p:∀q∈p,q.1.natAbs<=Q
theorem Z7{n P c:Nat}{f:Fn}(h:FB n P C f){o:ag}(J:o.Perm<|rg n):∀{p:Pl},PB Q c p->(∀t,(cv p (f o) t).natAbs<=p.length * (c * C))/\∀t:Int,P+Q<t.natAbs->cv p (f o) t=0
 | [],_=>⟨λ_=>bL _,λ_ _=>rfl⟩
 | q::p,b=>by
  obtain⟨g,k⟩:=Z7 h J (p:=p) ⟨λx d=>b.c x<|aN _ d,λx d=>b.p x<|aN _ d⟩;have e:=b.c q<|aL ..;have m:=b.p q<|aL ..;refine⟨λt=>?_,λt j=>?_⟩
  ·show(q.2 * f o (t-q.1)+cv p (f o) t).natAbs<=(p.length+1) * (c * C);refine bD (Int.natAbs_add_le _ _) ?_;rw[Int.natAbs_mul,fX,Nat.add_comm];exact Nat.add_le_add (g t) (fQ e<|h.c o J _)
  ·show q.2 * f o (t-q.1)+cv p (f o) t=0;rw[k t j,h.p o J _<|by omega,eu];rfl
theorem FB.t6{n P c:Nat}{f:Fn}(h:FB n P C f){p:Pl}(b:PB Q c p):FB n (P+Q) (p.length * (c * C)) (t6 p f):=⟨λo d t=>(Z7 h d b).1 t,λo d t e=>(Z7 h d b).2 t e⟩
theorem rq:∀{w:am}{l:ag},Wd.kC l w->Iv.inv (Wd.led l w)=Iv.inv l+w.length
 | [],_,_=>rfl
 | k::w,l,h=>by
  have:=rq h.2.2.2;rw[Fw.Bm h.1 h.2.1 h.2.2.1]at this;show Iv.inv (Wd.led (Wd.ex l k) w)=_+(w.length+1)
  lia
def IY{n:Nat}{o:ag}(h:o.Perm<|rg n):(sw n o).length=Iv.inv o:=by
 obtain⟨a,b⟩:=Bh h;have:=rq a;rw[b,Fw.Be]at this
 lia
theorem Qj:∀{l:Pl}{a b:Int},l.Pairwise (λp q=>p.1<q.1)->(∀p∈l,a<=p.1/\p.1<=b)->l.length<=(b-a+1).toNat
 | [],_,_,_,_=>bL _
 | p::l,a,b,h,hb=>by
  obtain⟨h1,h2⟩:=bY.mp h;have p1:=hb p<|aL ..;have i:=Qj (l:=l) (a:=a+1) (b:=b) h2 λq c=>by
   have:=h1 q c;have:=hb q (aN _ c)
   lia
  rw[bA]
  lia
def aai{p:Pl}{P c:Nat}(h:Ok p)(b:PB P c p):p.length<=2 * P+1:=by
 have:=Qj (a:=-(P:Int)) (b:=P) h.up λq d=>by have:=b.p q d;omega
 omega
def FB.pb{n P:Nat}{l:Ps}(h:FB n P C<|cS l)(hc:Gd l)(pl:∀x∈l,x.1.Perm<|rg n){e:ag×Pl}(J:e∈l):PB P C e.2/\e.2.length<=2 * P+1:=by
 have ok:=hc.ok e J;have f:∀q∈e.2,cS l e.1 q.1=q.2:=λq d=>by
  rw[Na hc,TF hc J];exact Su.Ok.aav ok d
 have b:PB P C e.2:=⟨λq d=>by rw[<- f q d];exact h.c _ (pl e J) _,λq d=>by
  refine gz λz=>ok.nz q d ?_;rw[<- f q d];exact h.p _ (pl e J) _ z⟩
 exact⟨b,aai ok b⟩
structure Sz (n P C:Nat)(l:Ps):Prop where
 cn:Cn l
 pm:∀x∈l,x.1.Perm (rg n)
 fb:FB n P C<|cS l
def Sz.pb{n P:Nat}{l:Ps}(h:Sz n P C l){e:ag×Pl}(J:e∈l):PB P C e.2/\e.2.length<=2 * P+1:=h.fb.pb h.cn.gd h.pm J
def Sz.many{n P:Nat}{l:Ps}(hn:n<6)(h:Sz n P C l):l.length<=120:=by
 have:=He.many hn h.cn.gd.nd λo d=>by obtain⟨e,c,rfl⟩:=aW.mp d;exact h.pm e c
 rwa [aG]at this
def Sz.mono{n P:Nat}{l:Ps}(h:Sz n P C l)(J:P<=P')(hc:C<=C'):Sz n P' C' l:=⟨h.cn,h.pm,h.fb.mono J hc⟩
theorem Sz.bx{n P k:Nat}{l:Ps}(h:Sz n P C l)(h0:1<=k)(h1:k<n):Sz n (P+1) (3 * C) (bx k l):=⟨acM _ _,J8 h0 h1 h.pm,(h.fb.X h0 h1).eq<|Vh h.pm h0 h1⟩
def Sz.sum{n P c:Nat}{l:Ps}(h:Sz n P C l)(h':Sz n P c m):Sz n P (C+c) (w6 l m):=by
 obtain⟨a,b,d⟩:=AX h.pm h'.pm;exact⟨a,b,by rw[d];exact h.fb.add h'.fb⟩
end He
namespace Su
open Am Po PySem L2
def NL{D:Es}{r:Nat}{p:Pl}:∃e,fE (mT D o r p) o=some e/\e.2.1=r:=by
 unfold mT;by_cases c:(fE D o).isSome=true
 ·rw[aJ c];obtain⟨e,d⟩:=fG.mp c;unfold fE at d ⊢;rw[iA];have eq:((λe:En=>decide<|e.1=o) ∘ λe:En=>if e.1=o then(e.1,r,p)else e)=λe:En=>decide (e.1=o):=by
   funext x
   show decide ((if x.1=o then(x.1,r,p)else x).1=o)=_;by_cases z:x.1=o
   ·rw[aJ z]
   ·rw[aI z]
  rw[eq,d];have:=iW d;have:=bP this;exact⟨_,rfl,by show(if e.1=o then(e.1,r,p)else e).2.1=r;rw[aJ this]⟩
 ·rw[aI c];have c:fE D o=none:=Option.not_isSome_iff_eq_none.mp c;unfold fE at c ⊢;rw[List.find?_append,c];exact⟨(o,r,p),by rw[cF,a_ rfl];rfl,rfl⟩
end Su
namespace He
open PySem L2 Am Po
open Fw (Two rg DE)
open Su (mC Ps cS Gd vS toS adds bx)
def Sz.of{n P:Nat}{l:Ps}(h:Cn l)(J:∀x∈l,x.1.Perm<|rg n)(pb:∀e∈l,PB P C e.2):Sz n P C l:=by
 refine⟨h,J,⟨λo j t=>?_,λo j t k=>?_⟩⟩
 ·rw[Na h.gd]
  rcases Su.vY (D:=l) (o:=o)with⟨e,h1,_,h3⟩|⟨_,h2⟩
  ·rw[h3];exact Su.abK (h.gd.ok e h1) (λq d=>(pb e h1).c q d) t
  ·rw[h2];exact bL _
 ·rw[Na h.gd]
  rcases Su.vY (D:=l) (o:=o)with⟨e,h1,_,h3⟩|⟨_,h2⟩
  ·rw[h3];have:∀q∈e.2,q.1≠t:=λq d z=>by have:=(pb e h1).p q d;rw[z]at this;lia
   clear h3;revert this;generalize e.2=p0;intro this
   induction p0 with
   | nil=>rfl
   | cons q p g=>
    have z:=this q<|aL ..;have i:=g λx f=>this x<|aN _ f;show(if q.1=t then q.2 else 0)+cf p t=0;rw[aI z,i];rfl
  ·rw[h2];rfl
def WN{o:ag}:((mh 1 (o.length:Int)).filter λk=>decide<|o.getD (k-1).toNat 0>o.getD k.toNat 0).head?=(ff o).map λk:Nat=>(k:Int):=by
 rw[List.head?_filter];unfold mh ff;rw[iA,show((o.length:Int)-1).toNat=o.length-1 by lia,eX];have:((λk:Int=>decide<|o.getD (k-1).toNat 0>o.getD k.toNat 0) ∘ λk:Nat=>(1:Int)+(k:Int))=λi:Nat=>mC o (i+1):=by
  funext i
  show decide (o.getD ((1:Int)+(i:Int)-1).toNat 0>o.getD ((1:Int)+(i:Int)).toNat 0)=decide _;rw[show((1:Int)+(i:Int)-1).toNat=i+1-1 by lia,show((1:Int)+(i:Int)).toNat=i+1 by lia]
 rw[this];congr 1
 funext i
 show(1:Int)+(i:Int)=((i+1:Nat):Int)
 lia
end He
namespace He
open PySem L2 Am Po
open Fw (Two rg DE)
open Su (mC Ps cS Gd vS toS adds bx)
theorem DT{n:Nat}:∀{w:am}{l:ag},l.Perm (rg n)->Va n w->Iv.inv (Wd.led l w)<=Iv.inv l+w.length/\(Iv.inv (Wd.led l w)=Iv.inv l+w.length->Wd.kC l w)
 | [],l,_,_=>⟨aO _,λ_=>trivial⟩
 | k::w,l,p,v=>by
  have v1:=v k<|aL ..;have m:l.length=n:=by rw[p.length_eq,Wd.j_]
  obtain⟨e,d⟩:=DT (w:=w) (om p v1.1 v1.2) λj f=>v j<|aN _ f;have e:Iv.inv (Wd.led l (k::w))<=Iv.inv (Wd.ex l k)+w.length:=e;have d:Iv.inv (Wd.led l (k::w))=Iv.inv (Wd.ex l k)+w.length->Wd.kC (Wd.ex l k) w:=d;rw[bA]
  rcases gB 0 0 with z|_
  ·lia
  ·by_cases c:l.getD (k-1) 0<l.getD k 0
   ·have u:=Fw.Bm v1.1 () c;exact⟨(),λh=>⟨v1.1,(),c,d ()⟩⟩
   ·have g:=nb p v1.1 v1.2;have u:=Fw.vO v1.1 () (show l.getD k 0<l.getD (k-1) 0 by lia);exact⟨(),λh=>absurd h ()⟩
theorem Eh{n:Nat}:∀{w:am}{l:ag},l.Perm (rg n)->Va n w->(Wd.led l w).Perm (rg n)
 | [],_,p,_=>p
 | k::w,l,p,v=>Eh (w:=w) (om p (v k<|aL ..).1 (v k<|aL ..).2) λj c=>v j<|aN _ c
end He
namespace He
open PySem L2 Am Po
open Fw (Two rg DE)
open Su (mC Ps cS Gd vS toS adds bx)
def z_{n:Nat}{w:am}(h:Wd.kC (rg n) w):Wd.kC (rg n) w.reverse:=by
 have va:Va n w:=λk f=>by have:=Wd.kC.valid h k f;rwa [Wd.j_]at this
 have d:Va n w.reverse:=λk f=>va k<|fR.mp f;have pr:=Eh (oV n) d;obtain⟨C,j⟩:=Bh pr;have p:=Ro pr;have c:Va n (sw n<|Wd.led (rg n) w.reverse).reverse:=λk f=>p k<|fR.mp f;have g:=Wd.nJ (sw n<|Wd.led (rg n) w.reverse).reverse c;rw[fF,j]at g;have e:=oW ⟨pr,Eh (oV n) c,g⟩ ⟨pr,Eh (oV n) va,Wd.nJ w va⟩;have m:=(DT (oV n) c).1;rw[e,Fw.Be,eN,IY pr]at m;have q:=rq h;have B:=(DT (oV n) d).1;refine(DT (oV n) d).2 ?_;rw[Fw.Be,eN]at *
 lia
abbrev Y (k:Nat)(f:Fn):Fn:=λo t=>X k f o t-dl (f o) t
abbrev Yw (w:am)(f:Fn):Fn:=w.foldl (λf k=>Y k f) f
def ZU{n k:Nat}{f g:Fn}(h:mV n f g)(h0:1<=k)(h1:k<n):mV n (Y k f) (Y k g):=λo p t=>by
 unfold Y;rw[SW h h0 h1 o p t,show f o=g o from funext λt=>h o p t]
theorem Le{n:Nat}:∀{w:am}{f g:Fn},Va n w->mV n f g->mV n (Yw w f) (Yw w g)
 | [],_,_,_,h=>h
 | k::w,f,g,v,h=>Le (w:=w) (λj c=>v j<|aN _ c)<|ZU h (v k<|aL ..).1 (v k<|aL ..).2
def abo(k:Nat)(f:Fn)(o:ag)(t:Int):X k (λo t=>dl (f o) t) o t=dl (X k f o) t:=by
 unfold X dl;dsimp only;split<;>lia
def Yp(k:Nat)(f g:Fn)(o:ag)(t:Int):X k (λo t=>f o t-g o t) o t=X k f o t-X k g o t:=by
 unfold X dl;dsimp only;split<;>lia
def X_Y{n k:Nat}(h0:1<=k)(h1:k<n)(f:Fn):mV n (X k<|Y k f) f:=λo p t=>by
 have a:X k (Y k f) o t=X k (X k f) o t-X k (λo t=>dl (f o) t) o t:=Yp k (X k f) (λo t=>dl (f o) t) o t;rw[a,X_X h0 h1 f o p t,abo];dsimp only
 lia
def Y_X{n k:Nat}(h0:1<=k)(h1:k<n)(f:Fn):mV n (Y k<|X k f) f:=λo p t=>by
 show X k (X k f) o t-dl (X k f o) t=_;rw[X_X h0 h1 f o p t];dsimp only
 lia
def KG(w:am)(k:Nat)(f:Fn):Yw (w++[k]) f=Y k (Yw w f):=by unfold Yw;rw[dw];rfl
def MR(w:am)(k:Nat)(f:Fn):Xw (w++[k]) f=X k (Xw w f):=by unfold Xw;rw[dw];rfl
theorem abM{n:Nat}:∀{w:am}{f:Fn},Va n w->mV n (Xw w.reverse<|Yw w f) f
 | [],_,_=>.refl
 | k::w,f,v=>by
  have v1:=v k<|aL ..;rw[c5,MR];exact(SW (abM (w:=w) (f:=Y k f) λj c=>v j<|aN _ c) v1.1 v1.2).trans (X_Y v1.1 v1.2 f)
theorem abO{n:Nat}:∀{w:am}{f:Fn},Va n w->mV n (Yw w<|Xw w.reverse f) f
 | [],_,_=>.refl
 | k::w,f,v=>by
  have v1:=v k<|aL ..;have v2:Va n w:=λj c=>v j<|aN _ c;rw[c5,MR]
  skip
  exact(Le v2<|Y_X v1.1 v1.2 _).trans (abO v2)
abbrev LB:Pl:=[((-1:Int),(-1:Int)),((1:Int),(1:Int))]
def abt(g:Int->Int)(t:Int):cv LB g t=- dl g t:=by
 show -1 * g (t - -1)+(1 * g (t-1)+0)=-(g (t+1)-g (t-1));rw[show t - -1=t+1 by lia];lia
abbrev C7 (p:Pl)(l:Ps):Ps:=toS<|adds []<|OJ p l
def EC(p:Pl)(l:Ps):cS (C7 p l)=t6 p (cS l):=by
 funext o t
 unfold C7;rw[J_,BH]
def D5{n:Nat}{p:Pl}{l:Ps}(pl:∀x∈l,x.1.Perm<|rg n):Cn (C7 p l)/\∀x∈C7 p l,x.1.Perm (rg n):=
 ⟨.toS<|Gd.nil.adds _,Su.tP (P:=λo=>o.Perm<|rg n) (Su.qU (P:=λo=>o.Perm<|rg n) _ (nofun) λx c=>by
  obtain⟨y,d,rfl⟩:=aW.mp c;exact pl y d)⟩
abbrev yb (k:Nat)(l:Ps):Ps:=w6 (bx k l)<|C7 LB l
def ab3{n k:Nat}{l:Ps}(h0:1<=k)(h1:k<n)(pl:∀x∈l,x.1.Perm<|rg n):Cn (yb k l)/\(∀x∈yb k l,x.1.Perm<|rg n)/\mV n (cS<|yb k l) (Y k<|cS l):=by
 obtain⟨a,b,c⟩:=AX (J8 h0 h1 pl) (D5 (p:=LB) pl).2;refine⟨a,b,λo p t=>?_⟩;show cS (w6 (bx k l)<|C7 LB l) o t=_;rw[c,EC];show cS (bx k l) o t+cv LB (cS l o) t=X k (cS l) o t-dl (cS l o) t;rw[Vh pl h0 h1 o p t,abt];lia
abbrev ybw (w:am)(l:Ps):Ps:=w.foldl (λl k=>yb k l) l
theorem PF{n:Nat}:∀{w:am}{l:Ps},Va n w->Cn l->(∀x∈l,x.1.Perm<|rg n)->Cn (ybw w l)/\(∀x∈ybw w l,x.1.Perm<|rg n)/\mV n (cS<|ybw w l) (Yw w<|cS l)
 | [],_,_,c,p=>⟨c,p,.refl⟩
 | k::w,l,v,c,p=>by
  have v1:=v k<|aL ..;have v2:Va n w:=λj d=>v j<|aN _ d;obtain⟨e,f,B⟩:=ab3 v1.1 v1.2 p;obtain⟨q,m,g⟩:=PF v2 e f;exact⟨q,m,g.trans<|Le v2 B⟩
def abj{n:Nat}{w:am}(h:Wd.kC (rg n) w)(h':Wd.kC (rg n) w')(e:Wd.led (rg n) w=Wd.led (rg n) w'){l:Ps}(hc:Cn l)(J:∀x∈l,x.1.Perm<|rg n):mV n (Yw w<|cS l) (Yw w'<|cS l):=by
 have va:Va n w:=λk g=>by have:=Wd.kC.valid h k g;rwa [Wd.j_]at this
 have d:Va n w':=λk g=>by have:=Wd.kC.valid h' k g;rwa [Wd.j_]at this
 have f:Va n w.reverse:=λk g=>va k<|fR.mp g;have c:Va n w'.reverse:=λk g=>d k<|fR.mp g;obtain⟨_,q,j⟩:=PF d hc J;have C:=Wd.nJ w va;have B:=Wd.nJ w' d;have m:Wd.led (rg n) w.reverse=Wd.led (rg n) w'.reverse:=by
  have p:=Eh (oV n) va;have c1:=Wd.nJ w.reverse f;have c2:=Wd.nJ w'.reverse c;rw[fF]at c1 c2;rw[<- e]at c2;exact oW ⟨p,Eh (oV n) f,c1⟩ ⟨p,Eh (oV n) c,c2⟩
 have s:mV n (Xw w.reverse<|Yw w'<|cS l) (cS l):=by
  refine(DJ f j.symm).trans ((Qe (z_ h) (z_ h') m q).trans<|(DJ c j).trans ?_);exact abM d
 exact(Le va s.symm).trans (abO va)
abbrev bT (n:Nat)(o:ag):Fn:=Yw (sw n o)<|cS<|one n
def E5(n:Nat):Cn (one n):=Ri _ Ur<|by simp
def Ak{n:Nat}{o:ag}{w:am}(J:o.Perm<|rg n)(h:Wd.kC (rg n) w)(e:Wd.led (rg n) w=o):mV n (bT n o) (Yw w<|cS<|one n):=by
 obtain⟨a,b⟩:=Bh J;exact abj a h (b.trans e.symm) (E5 n)<|Ti n
def XH{n k:Nat}{o:ag}(J:o.Perm<|rg n)(h0:1<=k)(h1:k<n)(hf:mC o k=false):mV n (bT n<|Wd.ex o k) (Y k<|bT n o):=by
 obtain⟨d,c⟩:=Bh J;have f:=nb J h0 h1;have e:(Wd.led (rg n)<|sw n o).getD (k-1) 0<(Wd.led (rg n)<|sw n o).getD k 0:=by
  rw[c];have:=dQ hf
  lia
 have c1:Wd.kC (rg n) (sw n o++[k]):=Wd.kC.snoc d h0 (by rw[Wd.j_];exact h1) e;have c2:Wd.led (rg n) (sw n o++[k])=Wd.ex o k:=by rw[Wd.Aw,c];rfl
 have:=Ak (om J h0 h1) c1 c2;rw[KG]at this;exact this
def Yi{n k:Nat}{o:ag}(J:o.Perm<|rg n)(h0:1<=k)(h1:k<n)(hf:mC o k=true):mV n (bT n o) (Y k<|bT n<|Wd.ex o k):=by
 have c:o.length=n:=by rw[J.length_eq,Wd.j_]
 have go:Su.Go n k o:=⟨c,nb J h0 h1⟩;have:=XH (om J h0 h1) h0 h1 (by rw[(go.ex h0 h1).2,hf];rfl);rw[Fw.se h0 ()]at this;exact this
def FE(p:Pl)(k:Int):cf (turn p) k=cf p (-k):=by
 have r:∀p:Pl,cf p.reverse k=cf p k:=λp=>by
  induction p with
  | nil=>rfl
  | cons q p d=>
   rw[c5,Su.zg,d];show cf p k+((if q.1=k then q.2 else 0)+0)=(if q.1=k then q.2 else 0)+cf p k
   lia
 unfold turn;rw[jy,r]
 induction p with
 | nil=>rfl
 | cons q p d=>
  show(if -q.1=k then q.2 else 0)+cf (p.map _) k=(if q.1=-k then q.2 else 0)+cf p (-k);rw[d];congr 1;by_cases c:-q.1=k
  ·rw[aJ c,aJ ()]
  ·rw[aI c,aI ()]
def Al(p:Pl)(g:Int->Int)(t:Int):cv (turn p) g t=cv p (λs=>g<|-s) (-t):=by
 have e:cv (turn p) g t=cv (p.map λq=>(-q.1,q.2)) g t:=by
  refine Jv (λk=>?_) g t;rw[FE]
  induction p with
  | nil=>rfl
  | cons q p d=>
   show(if q.1=-k then q.2 else 0)+cf p (-k)=(if -q.1=k then q.2 else 0)+cf (p.map _) k;rw[d];congr 1;by_cases c:-q.1=k
   ·rw[aJ c,aJ ()]
   ·rw[aI c,aI ()]
 rw[e]
 induction p with
 | nil=>rfl
 | cons q p d=>
  show q.2 * g (t - -q.1)+cv (p.map _) g t=q.2 * g (-(-t-q.1))+cv p _ (-t);have d:=d (Jv (λk=>by
   rw[FE];clear e d
   induction p with
   | nil=>rfl
   | cons q p d=>
    show(if q.1=-k then q.2 else 0)+cf p (-k)=(if -q.1=k then q.2 else 0)+cf (p.map _) k;rw[d];congr 1;by_cases c:-q.1=k
    ·rw[aJ c,aJ ()]
    ·rw[aI c,aI ()]) g t)
  rw[d,show -(-t-q.1)=t - -q.1 by lia]
abbrev Bt (n:Nat):Ps->Fn
 | []=>λ_ _=>0
 | e::m=>add (t6 (turn e.2)<|bT n e.1)<|Bt n m
theorem Tu(n:Nat):∀(m:Ps) (o:ag) (t:Int),Bt n m o t=RG (λu o s=>bT n u o<|-s) m o (-t)
 | [],_,_=>rfl
 | e::m,o,t=>by
  show cv (turn e.2) (bT n e.1 o) t+Bt n m o t=cv e.2 (λs=>bT n e.1 o<|-s) (-t)+RG _ m o (-t);rw[Al,Tu n m]
def JW(n:Nat)(h:∀w s,cS m w s=cS m' w s):Bt n m=Bt n m':=by
 funext o t
 rw[Tu,Tu,aaA _ h]
def Ck(n:Nat)(a b:Ps):Bt n (a++b)=add (Bt n a) (Bt n b):=by
 induction a with
 | nil=>funext o t;exact(bW _).symm
 | cons e a c=>
  show add _ (Bt n<|a++b)=_;rw[c]
  funext o t
  exact(dP _ _ _).symm
def wR(p q:Pl)(g:Int->Int)(t:Int):cv (turn<|times p q) g t=cv (turn p) (cv (turn q) g) t:=by
 rw[Al,RI,Al];congr 1
 funext s
 rw[Al,Int.neg_neg]
theorem Ec(n:Nat)(p:Pl):∀l:Ps,Bt n (OJ p l)=t6 (turn p) (Bt n l)
 | []=>by funext o t;exact(wc _ t).symm
 | e::l=>by
  funext o t
  show cv (turn<|times p e.2) (bT n e.1 o) t+Bt n (OJ p l) o t=cv (turn p) (λt=>cv (turn e.2) (bT n e.1 o) t+Bt n l o t) t;rw[Ec n p l,zB,wR];rfl
def aaM(k:Nat)(p:Pl)(f:Fn):Y k (t6 p f)=t6 p (Y k f):=by
 funext o t
 show X k (t6 p f) o t-dl (cv p<|f o) t=cv p (λt=>X k f o t-dl (f o) t) t;rw[ZS,<- Yj];show cv p (X k f o) t-cv p (dl<|f o) t=_;have:=zB p (λt=>X k f o t-dl (f o) t) (dl<|f o) t;rw[show(λt=>(λt=>X k f o t-dl (f o) t) t+dl (f o) t)=X k f o from funext λt=>by show X k f o t-dl (f o) t+dl (f o) t=_;lia]at this
 lia
def acO(k:Nat)(f g:Fn):Y k (add f g)=add (Y k f) (Y k g):=by
 funext o t
 show X k (add f g) o t-dl (λt=>f o t+g o t) t=(X k f o t-dl (f o) t)+(X k g o t-dl (g o) t);rw[Ys];show X k f o t+X k g o t-_=_;unfold dl;dsimp only
 lia
def Zq(k:Nat):Y k (λ_ _=>0)=λ_ _=>0:=by
 funext o t
 show X k (λ_ _=>0) o t-dl (λ_=>0) t=0;rw[Px];rfl
theorem O7{n k:Nat}(h0:1<=k)(h1:k<n):∀{m:Ps},(∀x∈m,x.1.Perm<|rg n)->mV n (Bt n<|Su.WY k m) (Y k<|Bt n m)
 | [],_=>by
  show mV n (λ_ _=>0) (Y k λ_ _=>0);rw[Zq];exact .refl
 | e::m,hm=>by
  have c:=hm e<|aL ..;have j:=O7 h0 h1 (m:=m) λx f=>hm x<|aN _ f;show mV n (Bt n<|((Wd.ex e.1 k,e.2)::(if mC e.1 k=true then[(e.1,times Su.AF e.2)]else[]))++Su.WY k m) (Y k<|add (t6 (turn e.2)<|bT n e.1)<|Bt n m);rw[Ck,acO,aaM];intro o p t;show Bt n ((Wd.ex e.1 k,e.2)::_) o t+Bt n (Su.WY k m) o t=t6 (turn e.2) (Y k<|bT n e.1) o t+Y k (Bt n m) o t;rw[j o p t];congr 1
  cases hf:mC e.1 k with
  | false=>
   show t6 (turn e.2) (bT n<|Wd.ex e.1 k) o t+0=_;rw[b8];exact Ez _ (XH c h0 h1 hf) o p t
  | true=>
   show t6 (turn e.2) (bT n<|Wd.ex e.1 k) o t+(cv (turn<|times Su.AF e.2) (bT n e.1 o) t+0)=_;have d:=Yi c h0 h1 hf;have q:mV n (Y k<|bT n e.1) λo t=>bT n (Wd.ex e.1 k) o t+- dl (bT n e.1 o) t:=λo p t=>by
    show X k (bT n e.1) o t-dl (bT n e.1 o) t=_;rw[SW d h0 h1 o p t,X_Y h0 h1 _ o p t];dsimp only;lia
   have ta:∀(g:Int->Int) (t:Int),cv (turn Su.AF) g t=- dl g t:=λg t=>by
    show -1 * g (t - -1)+(1 * g (t - - -1)+0)=-(g (t+1)-g (t-1));rw[show t - -1=t+1 by lia,show t - - -1=t-1 by lia];lia
   have e1:cv (turn<|times Su.AF e.2) (bT n e.1 o) t=cv (turn e.2) (λt=>- dl (bT n e.1 o) t) t:=by
    rw[wR,acy];congr 1
    funext s
    exact ta _ s
   rw[b8,e1,Ez _ q o p t];show _=cv (turn e.2) (λt=>bT n (Wd.ex e.1 k) o t+- dl (bT n e.1 o) t) t;rw[zB];rfl
def aa4(k:Nat)(m:Ps)(w:ag)(s:Int):cS (bx k m) w s=cS (Su.WY k m) w s:=by
 unfold Su.bx;rw[Su.DW<|Su.Gd.nil.adds _,Su.Ir];show 0+_=_;rw[bW]
def acG{n k:Nat}(h0:1<=k)(h1:k<n){m:Ps}(J:∀x∈m,x.1.Perm<|rg n):mV n (Bt n<|bx k m) (Y k<|Bt n m):=by
 rw[JW n<|aa4 k m];exact O7 h0 h1 J
def Y3(n:Nat):mV n (Bt n<|one n) (cS<|one n):=λo p t=>by
 show cv (turn [((0:Int),(1:Int))]) (bT n (rg n) o) t+0=_;rw[b8,show turn [((0:Int),(1:Int))]=[((0:Int),(1:Int))]from rfl,RL];exact Ak (w:=[]) (oV n) trivial rfl o p t
abbrev tO (n:Nat)(w:am):Ps:=ybw w<|one n
end He
namespace He
open PySem L2 Am Po
open Fw (Two rg DE Dn)
open Su (mC Ps cS Gd vS toS adds bx)
def Fb{n:Nat}{o:ag}(J:o.Perm<|rg n):Iv.inv (bk o)=Iv.inv o:=by
 obtain⟨a,b⟩:=Bh J;have va:=Ro J;have d:Va n (sw n o).reverse:=λk f=>va k<|fR.mp f;have c:=Wd.nJ (sw n o).reverse d;rw[fF,b]at c;have e:=oW ⟨J,Eh (oV n) d,c⟩<|pX J;have l:=rq<|z_ a;rw[e,Fw.Be,eN,IY J]at l
 lia
abbrev fwd (o:ag):am:=(Fw.Sy _ (bk o)<|aO _).choose
abbrev vwF:Nat->ag->am
 | 0,_=>[]
 | m+1,o=>match (fwd o).getLast? with
  | none=>[]
  | some k=>vwF m (Wd.ex o k)++[k]
abbrev vw (o:ag):am:=vwF (Iv.inv o) o
theorem Sz.C7{n P c:Nat}{l:Ps}(h:Sz n P C l){p:Pl}(b:PB Q c p):Sz n (P+Q) (p.length * (c * C)) (C7 p l):=by
 obtain⟨e,d⟩:=D5 (p:=p) h.pm;exact⟨e,d,by rw[EC];exact h.fb.t6 b⟩
end He
namespace K42
open PySem L2 Am
abbrev FZ (S:jT)(b:Nat):Prop:=∃g st:Int,jU S b=some [.int g,.int st]/\0<=g/\0<=st/\st<4294967296
def FZ.kp{b:Nat}{c:Nat->Prop}(h:FZ S b)(k:Kp c S S')(J:¬c b):FZ S' b:=by
 obtain⟨g,st,e,q⟩:=h;exact⟨g,st,k.lst b _ J e,q⟩
def Vj{ns:ag}{k:Int}(h0:0<=k):∃c,rE [.frz<|ns.map .int,.int k] S=.ok (.int c) S:=by
 unfold rE xg xw;dsimp[kL,bools,mY,Nat.reduceAdd,Nat.reduceSub,aG];by_cases d:k<(ns.length:Int)
 ·have hn:k.toNat<ns.length:=()
  have e:sQ (ns.map A.int) k=some (.int ns[k.toNat]):=KR (k:=k.toNat) ()<|aE hn;rw[a_ d];dsimp[kL,bools,e];exact⟨_,rfl⟩
 ·rw[bq d];dsimp[kL,bools];exact⟨_,rfl⟩
def Wi{S:jT}{c k:Int}(h0:0<=k)(h1:k<=100):∃S',qW [.int c,.int k] S=.ok (.ref S.length) S'/\FZ S' S.length/\nt S S':=by
 have e3:Zy (.int 10) (.int 18)=λS=>R.ok (.int 1000000000000000000) S:=by
  funext S;exact nS ⟨by decide,by decide,by decide⟩
 have d:∀x:Int,EV (.int x) (.int 2147483647)=λS=>R.ok (.int<|x % 2147483647) S:=λx=>by funext S;exact HB ⋯
 have f:∀x:Int,Cy (.int x) (.int 69621)=λS=>R.ok (.int<|x * 69621) S:=λx=>by funext S;exact mul_r ⋯ ⋯
 have e:∀x:Int,Cy (.int 7919) (.int x)=λS=>R.ok (.int<|7919 * x) S:=λx=>by funext S;exact P5 ⋯ ⋯
 have m:∀x:Int,0<=x % 2147483647:=λx=>iX _ ⋯;have j:∀x:Int,x % 2147483647<4294967296:=λx=>by have:=gR x (show(0:Int)<2147483647 by decide);lia
 have p:0<=(if c<0 then -c else c):=by split<;>lia
 unfold qW zA zf;dsimp[kL,bools,mY,Nat.reduceAdd,Nat.reduceSub,e3,d,f,e];by_cases g:(if c<0 then -c else c)<1000000000000000000
 ·rw[a_ g];dsimp[kL,bools,e3,d,f,e];exact⟨_,rfl,⟨_,_,ki,le_refl 0,m _,j _⟩,Kp.refl.lay⟩
 ·rw[bq g];dsimp[kL,bools,e3,d,f,e];exact⟨_,rfl,⟨_,_,ki,p,m _,j _⟩,Kp.refl.lay⟩
def UM{S:jT}{b:Nat}{g st:Int}(J:jU S b=some [.int g,.int st])(hs:0<=st)(U:st<4294967296):∃d st',o4 [.ref b] S=.ok (.int d) (S.set b<|.lst [.int g,.int st'])/\0<=st'/\st'<4294967296:=by
 have c:=pF J;have e:FY 2 1=some 1:=FA rfl ⋯;have e1:0<=(st * 48271+11) % 2147483647:=iX _ ⋯;have e2:(st * 48271+11) % 2147483647<2147483647:=gR _ ⋯;refine⟨(st * 48271+11) % 2147483647 * 16807 % 2147483629 / 8,(st * 48271+11) % 2147483647,?_,e1,()⟩;unfold o4 vc uP;rw[yw];simp[J,Dm,M5,e,P5 (show -18446744073709551616<st by lia) (),HB<|show(0:Int)<2147483647 by decide,qR c,OU (show(0:Int)<8 by decide) ⋯,P5 (show -18446744073709551616<(st * 48271+11) % 2147483647 by lia) (),HB<|show(0:Int)<2147483629 by decide]
def digit{b:Nat}{m:Int}(h:FZ S b)(h1:1<=m)(h2:m<=1000):∃d S',kP [.ref b,.int m] S=.ok (.int d) S'/\0<=d/\d<m/\FZ S' b/\Kp (·=b) S S':=by
 obtain⟨g,st,k,hg,hs,f⟩:=h;have F:=pF k;have C:FY 2 0=some 0:=FA rfl ⋯;have fin:∀d p c:Int,0<=d->d<m->0<=p->0<=c->c<4294967296->kP [.ref b,.int m] S=.ok (.int d) (S.set b<|.lst [.int p,.int c])->∃d S',kP [.ref b,.int m] S=.ok (.int d) S'/\0<=d/\d<m/\FZ S' b/\Kp (·=b) S S':=
  λd p c M B J G q e=>⟨d,_,e,M,B,⟨p,c,qR F,J,G,q⟩,Kp.refl.set<|.inl rfl⟩
 by_cases j:0<g
 ·refine fin (g % m) (g / m) st (iX _ ()) (gR _ ()) (Int.ediv_nonneg hg ()) hs f ?_;unfold kP sf r_;rw[yw];simp[k,Dm,M5,j,HB<|show 0<m by lia,OU (show 0<m by lia)<|show m<1073741824 by lia,C]
 ·obtain⟨d,c,e1,K,L⟩:=UM k hs f;refine fin (d % m) g c (iX _ ()) (gR _ ()) hg K L ?_;unfold kP sf r_;rw[yw];simp[k,Dm,M5,j,HB<|show 0<m by lia,e1,show ¬(1000<m)by lia]
theorem BY:∀(l:ag) (j:Nat) (h:j<l.length),(l[j]::l.eraseIdx j).Perm l
 | x::l,0,_=>eF _
 | x::l,j+1,h=>(List.Perm.swap x _ _).trans<|List.Perm.cons x<|BY l j<|Nat.lt_of_succ_lt_succ h
def NS{J fs:ag}{j:Nat}(h:j<J.length):((fs++[J[j]])++J.eraseIdx j).Perm (fs++J):=by
 rw[cA];refine List.Perm.append_left fs ?_
 skip
 exact BY J j h
def Hg{d:Int}{n:Nat}(h0:0<=d)(h:d.toNat<n):seqIndex? d n=some d.toNat:=by
 unfold seqIndex?;simp
 lia
theorem yV{α β:Type}(f:α->β):∀(l:List α) (k:Nat),(l.map f).eraseIdx k=(l.eraseIdx k).map f
 | [],_=>rfl
 | _::_,0=>rfl
 | x::l,k+1=>dY (f x::·)<|yV f l k
def B_{b:Nat}{n:Int}(h:FZ S b)(h1:1<=n)(h2:n<=20):∃(xs:ag) (S':jT),nH [.ref b,.int n] S=.ok (.tup<|xs.map .int) S'/\xs.Perm (mh 1<|n+1)/\FZ S' b/\Kp (·=b) S S':=by
 have U:b<S.length:=by obtain⟨_,_,e,_⟩:=h;exact pF e
 unfold nH vX vW;dsimp[kL,bools,mY,Nat.reduceAdd,Nat.reduceSub,Ox<|F8 (show(-1000000:Int)<=1 by decide) ⋯ (show -1000000<=n+1 by lia) () (),bg];refine FU (lo:=0) (hi:=n) (S1:=S++[.lst<|(mh 1<|n+1).map .int]++[.lst []]) (Bu (by dsimp[kL,bools])<|rm () ())
  (λi τ S1=>∃(M:A) (f fs:ag),τ=[.ref b,.int n,.ref S.length,.ref<|S.length+1,M]/\jU S1 S.length=some (f.map .int)/\jU S1 (S.length+1)=some (fs.map .int)/\(f.length:Int)+i=n/\(fs++f).Perm (mh 1<|n+1)/\FZ S1 b/\Kp (·=b) S S1)
  (λr=>∃(xs:ag) (S':jT),RS.end (RS.seq r _)=.ok (.tup<|xs.map .int) S'/\xs.Perm (mh 1<|n+1)/\FZ S' b/\Kp (·=b) S S') ?_ ?_ ?_
 ·refine⟨.unb,mh 1<|n+1,[],rfl,k_ ki,?_,by rw[uM];lia,eF _,h.kp (c:=λ_=>False) (Kp.refl.lay.lay) λz=>z,Kp.refl.lay.lay⟩;have:jU (S++[.lst<|(mh 1<|n+1).map .int]++[.lst []]) (S++[O.lst<|(mh 1<|n+1).map .int]).length=some []:=ki;simpa using this
 ·rintro i τ S1 hi ⟨M,f,fs,rfl,K,C,hn,B,L,J⟩;left;obtain⟨d,S2,e2,d0,Y,G,j⟩:=digit (m:=(f.length:Int)) L () ();have k:=j.lst S.length _ () K;have p:=j.lst (S.length+1) _ () C;have F:d.toNat<f.length:=()
  have W:=pF p;have T:=pF k;have V:fs.length<=20:=by
   have:=B.length_eq;rw[bg,uM]at this
   lia
  have P:seqIndex? d f.length=some d.toNat:=Hg d0 F;have N:jU (S2.set S.length<|.lst<|(f.map A.int).eraseIdx d.toNat) (S.length+1)=some (fs.map .int):=by rw[oM ()];exact p
  unfold wK;dsimp[kL,bools,K,C,aG,e2,k,Cf,nS<|show -(2 ^ 63:Int)<=d/\d<2 ^ 63 by lia,P,aQ,aE F,dB,N,uE<|show fs.length<16777216 by lia];refine⟨_,_,rfl,_,f.eraseIdx d.toNat,fs++[f[d.toNat]],rfl,?_,?_,?_,(NS F).trans B,?_,?_⟩
  ·rw[oM (),qR T,yV]
  ·rw[qR<|by rw[cE];exact W,bQ];rfl
  ·rw[jj F];lia
  ·obtain⟨g,st,e,q⟩:=G;exact⟨g,st,by rw[oM (),oM ()];exact e,q⟩
  ·exact((J.trans j).set<|.inr<|aO _).set (.inr ())
 ·rintro τ S1 ⟨M,f,fs,rfl,K,C,hn,B,L,J⟩;have:f=[]:=dW.mp ();subst this;exact⟨fs,S1,by dsimp[kL,bools,C],by simpa using B,L,J⟩
open Po (Pl Ok Bd)
def QO{S:jT}{d:Nat}{D:Pl}(J:kQ S d=some (Po.iv D))(U:D.length<=16777216):∃S',lQ [.ref d] S=.ok (.ref<|S.length+1) S'/\jU S' (S.length+1)=some (Po.pl<|Po.L8 D)/\nt S S':=by
 obtain⟨S',e,h1,h2⟩:=aaz J U;refine⟨S',?_,h1,h2⟩;unfold lQ qE qx;dsimp[kL,bools,mY,Nat.reduceAdd,Nat.reduceSub];rw[show mR [none,some 0] _ _ _ _ _ _=_ from e];rfl
def VQ{S:jT}{n:Nat}{a b:Pl}(hn:jU S n=some (Po.pl a))(J:jU S m=some (Po.pl b))(U:Ok a)(hl:a.length+b.length<16777216) :
  ∃(L:Nat) (S':jT),Bg [.ref n,.ref m] S=.ok (.ref L) S'/\jU S' L=some (Po.pl<|Po.qk a b)/\S.length<=L/\nt S S':=by
 have f:kQ (S++[.nX<|Po.iv a]) S.length=some (Po.iv a):=t7;obtain⟨j,k,T,e,d,kp⟩:=Wa (S:=S++[.nX<|Po.iv a]) (S1:=S++[.nX<|Po.iv a]) (x0:=.ref n) (x1:=.ref m) (x3:=.unb) (x4:=.unb) (src:=yh) (l:=b) (show yh _ _=_ from qy (by dsimp[kL,bools])<|k_ J) (k_ J) f hl;have ln:=Po.pJ b a;obtain⟨S',e2,h1,h2⟩:=QO d ();have c:nt S T:=(Kp.refl.lay (o:=.nX<|Po.iv a)).old kp λq g _ z=>()
 refine⟨T.length+1,S',?_,by rw[h1,<- Po.VS U];rfl,by have:=c.len;lia,c.trans h2⟩;unfold Bg Jm JM;dsimp[kL,bools,mY,Nat.reduceAdd,Nat.reduceSub,Dr,hn,Po.OV,Po.KY,Po.J7 U];rw[show mw yh _ HZ _ _=_ from e];dsimp[kL,bools,e2]
def DA(f:Int×Int->A)(hf:∀p τ S,OL (f p) τ S=OL (Po.pA p) τ S){S:jT}{n:Nat}{a b:Pl}(hn:jU S n=some (a.map f))(J:jU S m=some (Po.pl b))(U:a.length * b.length<16777216)(ha:∀p∈a,p.2.natAbs<big)(hb:∀p∈b,p.2.natAbs<big) :
  ∃(L:Nat) (S':jT),uh [.ref n,.ref m] S=.ok (.ref L) S'/\jU S' L=some (Po.pl<|Po.times a b)/\S.length<=L/\nt S S':=by
 have g:kQ (S++[.nX []]) S.length=some []:=t7;obtain⟨F,j,C,B,T,e,d,kp⟩:=IK f hf (S:=S++[.nX []]) (x3:=.unb) (x4:=.unb) (x5:=.unb) (x6:=.unb) (k_ hn) (k_ J) g U ha hb;have ln:=Po.pJ (Po.Ie a b) [];rw[Po.E3,cX,cU]at ln;obtain⟨S',e2,h1,h2⟩:=QO d ();have c:nt S T:=(Kp.refl.lay (o:=.nX [])).old kp λq k _ z=>()
 refine⟨T.length+1,S',?_,h1,by have:=c.len;lia,c.trans h2⟩;unfold uh Ek FT;dsimp[kL,bools,mY,Nat.reduceAdd,Nat.reduceSub,qT];rw[show mw Dh _ DC _ _=_ from e];dsimp[kL,bools,e2]
end K42
namespace K42
open PySem L2 Am
open Po (Pl Ok Bd)
open Su (Es At Vl)
def aaS{S:jT}{d r:Nat}{D:Es}{o:ag}{p:Pl}{k b:Nat}(J:kj S d=some (D.map Su.kv))(U:At S D)(hv:Vl k b D)(hr:jU S r=some (Po.pl p))(hl:D.length<16777216)(hk:k+p.length<16777216) :
  ∃(L:Nat) (S':jT),lA [.ref d,.tup<|o.map .int,.ref r] S=.ok .non S'/\kj S' d=some ((Su.mT D o L<|Po.qk (Su.vS (Su.sm D) o) p).map Su.kv)/\At S' (Su.mT D o L<|Po.qk (Su.vS (Su.sm D) o) p)/\S.length<=L/\Kp (·=d) S S':=by
 obtain⟨x,ex,q⟩:=Su.get_or (o:=o) J U;have vo:=hv.v o;obtain⟨L,S2,e2,h1,h2,B⟩:=VQ q (k_ (o:=.lst []) hr) vo.1 ();have g:nt S S2:=(Kp.refl.lay).trans B;have c:=g.dct _ _ (λz=>z) J;have f:kj (S++[.lst []]) d=some (D.map Su.kv):=Su.LG J;refine⟨L,S2.set d<|.dct<|(Su.mT D o L<|Po.qk (Su.vS (Su.sm D) o) p).map Su.kv,?_,Su.wD<|Su.oS c,?_,by simp at h2;lia,g.of0.yW<|.inl rfl⟩
 ·unfold lA uB uc;have m:newL [] S=.ok (.ref S.length) (S++[.lst []]):=lK (show 0<=16777216 by decide);dsimp[kL,bools,mY,Nat.reduceAdd,Nat.reduceSub,Su.LQ,Su.M9,J,dB,m,Su.MB,f,ex,e2,Su.ug,Su.tF,c,uE<|show(D.map Su.kv).length<16777216 by rw[aG];exact hl,Su.BR (p:=Po.qk (Su.vS (Su.sm D) o) p)]
 ·refine(Su.At.put (U.yC g) h1).kp (Kp.refl.yW<|.inl rfl) λe j z=>?_
  rcases Su.oz j with y|y
  ·exact Su.uq J (U e y) z
  ·rw[y]at z;exact Su.uq c h1 z
def Ik{S:jT}{d:Nat}{D:Es}(U:kj S d=some (D.map Su.kv))(hA:At S D)(J:∀e∈D,e.1≠[])(hl:D.length<=16777216) :
  ∃(n:Nat) (S':jT),pH [.ref d] S=.ok (.ref n) S'/\jU S' n=some ((Su.xm D λp=>!p.isEmpty).map Su.ent)/\At S' (Su.xm D λp=>!p.isEmpty)/\S.length<n/\nt S S':=by
 have m:=Su.O1 U J;obtain⟨n,S',e,h1,h2,h3,j⟩:=Su.QT (cap:=[some 0]) (τ:=[.ref d]) (src:=pV<|kG (f1 E_)<|jQ (jR 0)<|j5) (t:=zW<|j6 zZ (jR 1)<|jR 0) (e:=wJ<|jQ (jR 0)<|jQ (j6 zZ (jR 1)<|jR 0)<|j5) U hA (qy (by dsimp[kL,bools,m]) ki) (λp=>!p.isEmpty)
  (λo r q T c f k=>⟨T,by
   have g:A.Z1 (.ref r) T=some (!q.isEmpty):=by
    show(jU T r).map _=_;rw[k]
    cases q<;>rfl
   dsimp[kL,bools,Su.Cp,Su.yL,c,f,g],Kp.refl⟩)
  (λo r T c f=>by
   dsimp[kL,bools,Su.Cp,Su.yL,c,f];exact vA<|show 2<=16777216 by decide) hl
 refine⟨n,S',?_,h1,h2,h3,j⟩;unfold pH BL Cc;dsimp[kL,bools,mY,Nat.reduceAdd,Nat.reduceSub,e]
def xQ:Su.FF lA:=λh1 h2 h3 c e d=>aaS h1 h2 h3 c e d
open Po (Pl Ok Bd)
open Su (Es At Vl)
structure Sm (S:jT)(n:Nat)(es:Es):Prop where
 l:jU S n=some (es.map Su.ent)
 a:At S es
def Sm.kp{n:Nat}(h:Sm S n es)(k:nt S S'):Sm S' n es:=⟨k.lst _ _ (λz=>z) h.l,h.a.yC k⟩
def xS{a b:ag}(h:a.length=b.length):nK [.tup<|a.map .int,.tup<|b.map .int] S=.ok .non S:=by
 unfold nK uY vU;have:((a.length:Int) == (b.length:Int))=true:=by rw[h];exact cg _
 dsimp[kL,qu,bools,mY,Nat.reduceAdd,Nat.reduceSub,aG,this,dg]
def Gh{n:Nat}{xs:ae}(h:jU S n=some xs):A.Z1 (.ref n) S=some (!xs.isEmpty):=by
 show(jU S n).map _=_;rw[h];rfl
def Fo{n N:Nat}{es fs:Es}(h:Sm S n es)(h':Sm S m fs)(h1:∀e∈es,e.1.length=N)(h2:∀e∈fs,e.1.length=N):qg [.ref n,.ref m] S=.ok .non S:=by
 unfold qg u_ vq;dsimp[kL,qu,bools,mY,Nat.reduceAdd,Nat.reduceSub,Gh h.l,Gh h'.l]
 cases es with
 | nil=>dsimp[kL,qu,bools,fV,iM,dg]
 | cons e es=>cases fs with
  | nil=>dsimp[kL,qu,bools,fV,iM,dg,bH,jq,c_,Gh h'.l]
  | cons f fs=>
   have q:=xS (S:=S)<|(h1 e<|aL ..).trans (h2 f<|aL ..).symm;have d:=h.l;have c:=h'.l;rw[bH]at d c;dsimp[kL,qu,bools,bH,jq,c_,Gh c,d,c,Dm,Su.ent,q]
def ixD{l:ag}{k:Nat}{i:Int}(h:i=k)(J:k<l.length):sQ (l.map A.int) i=some (.int<|l.getD k 0):=KR h<|by rw[aK,aE J];rfl
def WT{l:ag}{k:Nat}:((l.map A.int).set (k-1)<|.int<|l.getD k 0).set k (.int<|l.getD (k-1) 0)=(Wd.ex l k).map A.int:=by
 unfold Wd.ex;rw[jG,jG]
def aed{f g:A->A->jT->R A}{ca cb J:Ex}{a b c:A}(h1:ca τ S=.ok a S)(h2:cb τ S=.ok b S)(h3:f a b S=.ok (.bl true) S)(U:J τ S=.ok c S):eCh f g ca cb J τ S=g b c S:=by
 unfold eCh;rw[h1,R.oq,h2,R.oq,h3,R.oq];unfold kCh;show(J τ S).bind _=_;rw[U];rfl
def ZK{i:Int}:qZ [.int i] S=.ok (.bl true) S:=by
 unfold qZ w_ xK;dsimp[kL,bools,mY,Nat.reduceAdd,Nat.reduceSub,show Gx .int "int" = some true from rfl,show Gx .int "bool" = some false from rfl,c_]
def aeW{n k:Int}(h1:1<=k)(h2:k<n):n9 [.int n,.int k] S=.ok (.bl true) S:=by
 unfold n9 sV sM;have c:eCh aLe aLt (eC<|.int 1) (jR 1) (jR 0) [.int n,.int k] S=.ok (.bl true) S:=by
  rw[aed (a:=.int 1) (b:=.int k) (c:=.int n) rfl rfl (by dsimp[kL,a_ h1]) rfl];dsimp[kL,a_ h2]
 dsimp[kL,bools,mY,Nat.reduceAdd,Nat.reduceSub,ZK,c]
def La{xs:ag}{k:Nat}(h1:1<=k)(h2:k<xs.length)(J:xs.length<=1000):∃S',nI [.tup<|xs.map .int,.int k] S=.ok (.tup<|(Wd.ex xs k).map .int) S'/\nt S S':=by
 have e1:=aeW (S:=S) (n:=(xs.length:Int)) (k:=(k:Int)) () ();have e:sQ (xs.map A.int) (k:Int)=some (.int<|xs.getD k 0):=ixD rfl ();have d:sQ (xs.map A.int) ((k:Int)-1)=some (.int<|xs.getD (k-1) 0):=ixD (k:=k-1) () ();have j:FY xs.length ((k:Int)-1)=some (k-1):=FA () ();have c:FY xs.length (k:Int)=some k:=FA rfl ();have g:jU (S++[O.lst<|xs.map .int]) S.length=some (xs.map .int):=ki;have f:∀ys,jU ((S++[O.lst<|xs.map .int]).set S.length<|.lst ys) S.length=some ys:=λys=>qR (by simp);have e2:mj [.tup<|xs.map .int,.int k,.int<|(k:Int)+1] S=.ok (.tup<|(Wd.ex xs k).map .int) (((S++[O.lst<|xs.map .int]).set S.length<|.lst<|(xs.map A.int).set (k-1)<|.int<|xs.getD k 0).set S.length<|.lst<|(Wd.ex xs k).map .int):=by
  unfold mj oR oN;dsimp[kL,bools,mY,Nat.reduceAdd,Nat.reduceSub,g,show(k:Int)+1-1=k by lia,e,d,nS<|show 2<=sizeLine by decide,nS<|show 2=2 from rfl,aG,j,f,cE,c,WT];rw[qR<|by simp];dsimp[kL,bools]
 unfold nI vp vn;dsimp[kL,qu,bools,mY,Nat.reduceAdd,Nat.reduceSub,aG,e1,dg,e2];exact⟨_,rfl,((Kp.refl.lay).set<|.inr<|aO _).set<|.inr<|aO _⟩
def ixG{xs:ag}{i:Int}(h1:0<=i)(h2:i<xs.length):sQ (xs.map A.int) i=some (.int<|xs.getD i.toNat 0):=ixD (k:=i.toNat) () ()
abbrev fl (xs:ag)(n:Nat):ag:=(mh 1 (n:Int)).filter λk=>decide<|xs.getD (k-1).toNat 0>xs.getD k.toNat 0
def BP{S:jT}{n:Nat}{xs:ag}(J:xs.length=n)(h2:n<=20):qe [.tup<|xs.map .int] S=.ok (.ref S.length) (S++[.lst<|(fl xs n).map .int]):=by
 have c:=yE (lo:=1) (hi:=(n:Int)) (cap:=[some 0]) (src:=qI (eC<|.int 1)<|kG (f1 q_)<|jQ (jR 0)<|j5) (t:=uf<|j6 Ib (j6 tu (jR 1)<|j6 aSub (jR 0)<|eC<|.int 1)<|j6 tu (jR 1)<|jR 0) (e:=jR 0) (τ:=[.tup<|xs.map .int]) (S:=S) (S1:=S)
  (xP (S1:=S) (by dsimp[kL,bools]) (by dsimp[kL,bools,aG,J]) (rm () ())<|rm () ())
  (λk=>decide<|xs.getD (k-1).toNat 0>xs.getD k.toNat 0) (λk=>.int k) (λk h1 h2=>by
   have f:sQ (xs.map A.int) (k-1)=some (.int<|xs.getD (k-1).toNat 0):=ixG () ();have d:sQ (xs.map A.int) k=some (.int<|xs.getD k.toNat 0):=ixG () ();dsimp[kL,bools,f,d]) (λk _ _ _=>by dsimp[kL,bools]) ()
 unfold qe DX D8;dsimp[kL,bools,mY,Nat.reduceAdd,Nat.reduceSub,c];rfl
theorem Ah{t:Int}:∀(p:ag),inA S (.int t) (p.map .int)=some (decide<|t∈p)
 | []=>rfl
 | x::p=>by
  show(Xg S 12 (.int x)<|.int t).bind (λa=>(inA S (.int t)<|p.map .int).map λb=>a || b)=_;rw[Ah p];show some ((x == t) || decide (t∈p))=_;by_cases c:x=t
  ·subst c;rw[cg,a_ (show x∈x::p from aL ..)];rfl
  ·rw[cT.mpr c];congr 1;rw[jw,gD];constructor
   ·exact λz=>aN _ z
   ·intro z
    rcases bG.mp z with z|z
    ·exact absurd z.symm c
    ·exact z
open Po (Pl Ok Bd)
open Su (Es At Vl AF)
def MX{o:ag}{N k:Nat}(J:o.length=N)(h1:1<=k)(h2:k<N):decide ((k:Int)∈fl o N)=Su.mC o k:=by
 unfold fl Su.mC;rw[gD,bK,pM,decide_eq_true_eq,show((k:Int)-1).toNat=k-1 by lia,eL];constructor
 ·exact λh=>h.2
 ·exact λh=>⟨⟨(),()⟩,h⟩
def Wl{S:jT}{n N k:Nat}{es:Es}(h:Sm S n es)(h1:∀e∈es,e.1.length=N/\2 * e.2.2.length<=j/\∀p∈e.2.2,p.2.natAbs<big)(k1:1<=k)(k2:k<N)(hN:N<=20)(hl:(2 * es.length+2) * j<16777216)(hl':es.length<=100000) :
  ∃(L:Nat) (S':jT) (rs:Es),ni [.ref n,.int k] S=.ok (.ref L) S'/\Sm S' L rs/\Su.sm rs=Su.bx k (Su.sm es)/\(∀e∈rs,Ok e.2.2/\e.2.2≠[]/\e.2.2.length<=2 * es.length * j/\S.length<=e.2.1/\e.2.1<L)/\Su.Ap rs/\rs.length<=2 * es.length/\S.length<=L/\nt S S':=by
 have k0:nt S (S++[.dct []]):=Kp.refl.lay;obtain⟨y3,y4,xs,D,T,hz,e1,f,kp⟩:=Su.G3 (w:=2) (j:=j) (b:=S.length) (i0:=0) (S:=S++[.dct []]) (S1:=S++[.dct []]) (d:=S.length) (n:=n) (es:=es) (src:=oA) (c:=m9) (g:=Iw 2<|yM (kY 3)<|yM (kY 4)<|JK) (λy z _=>[.ref n,.int k,.ref S.length,y,z]) (λ_=>True) (Su.gX k) (λ_ _ _ _ _=>rfl) (x3:=.unb) (x4:=.unb) (xs0:=[]) trivial
  (show oA _ _=_ from qy (by dsimp[kL,bools])<|k_ h.l) (k_ h.l) (Su.Fil.new Su.o8) λi e T Q D xs hi G _ J f=>by
   obtain⟨M,b2,b3⟩:=h1 e G;have tl:=J.len;have hm:2 * i+2<=2 * es.length:=()
   have hm2:(2 * i+2) * j<=(2 * es.length) * j:=c7 _ hm;have hm3:(2 * es.length+2) * j=2 * es.length * j+2 * j:=by rw[jn]
   have hm4:(2 * i+2) * j=(2 * i+1) * j+j:=fX _ _;have hm5:(2 * i+1) * j=2 * i * j+j:=fX _ _;rw[bg]at tl;obtain⟨T0,e0,P⟩:=La (S:=T) (xs:=e.1) (k:=k) k1 () ();have aT:=((h.a.yC k0).Oi J Su.o8).yC P;have f0:=f.yC P;have qtl:=P.len;rw[cU]at f0;have Z:Wd.ex e.1 k≠[]:=λz=>by have:=Wd.nA e.1 k;rw[z]at this;simp at this;lia
   obtain⟨D1,T1,e1,f1,B⟩:=f0.add xQ (o:=Wd.ex e.1 k) (aT e G) () Z () () ();have k1l:=B.len;have W:=BP (S:=T1) (xs:=e.1) (n:=N) M hN;have m:RK false (.int k) (.ref T1.length) (T1++[.lst<|(fl e.1 N).map .int])=.ok (.bl<|Su.mC e.1 k) (T1++[.lst<|(fl e.1 N).map .int]):=by
    show opt (jU _ _) _=_;rw[ki,kg,Ah,MX M k1 k2];rfl
   have F:nt T1 (T1++[.lst<|(fl e.1 N).map .int]):=Kp.refl.lay;obtain⟨U,hU⟩:∃U,U=T1++[O.lst<|(fl e.1 N).map .int]:=⟨_,rfl⟩;rw[<- hU]at m F W;have fU:=f1.yC F;have K:Kp (·=S.length) T U:=(P.of0.trans B).trans F.of0
   cases hf:Su.mC e.1 k with
   | false=>
    refine⟨D1,U,[],trivial,?_,?_,K⟩
    ·rw[hf]at m;unfold m9;dsimp[kL,qu,bools,e0,e1,W,m]
    ·rw[cU];unfold Su.gX;rw[hf,aI<|by simp];exact fU.mono ()
   | true=>
    have aU:=(aT.Oi B f0.dd).yC F;have n0:jU (U++[.lst<|AF.map kA]) U.length=some (AF.map kA):=ki;obtain⟨L,T2,e2,l1,l2,Y⟩:=DA kA (λ_ _ _=>rfl) n0 (k_ (o:=.lst<|AF.map kA)<|aU e G) (show 2 * e.2.2.length<16777216 by lia) (λp hp=>by
     rw[An]
     rcases bG.mp hp with z|z
     ·rw[z];exact show 1<2 ^ 4096 by decide +kernel
     ·rw[aP.mp z];exact show 1<2 ^ 4096 by decide +kernel) b3
    have C:nt U T2:=(Kp.refl.lay).trans Y;have tl2:=C.len;have tle:=F.len;obtain⟨D2,T3,e3,f3,V⟩:=(fU.yC C).add xQ (o:=e.1) l1 (bD (Su.CW _ _)<|show 2 * e.2.2.length<=j from b2) (λz=>by rw[z]at M;simp at M;lia) () () ();refine⟨D2,T3,[],trivial,?_,?_,(K.trans C.of0).trans V⟩
    ·rw[hf]at m;unfold m9;dsimp[kL,qu,bools,e0,e1,W,m];rw[show[((-1:Int),(1:Int)),((1:Int),(-1:Int))].map kA=AF.map kA from rfl];dsimp[kL,qu,bools,e2,e3]
    ·rw[cU];unfold Su.gX;rw[hf,aJ rfl];exact f3
 have J:nt S T:=k0.old kp λq hq _ z=>()
 have fl:=f.ll;rw[cU]at fl;obtain⟨L,S',e2,r1,r2,r3,r4⟩:=Ik f.dd f.aa f.kk ();have tl:=J.len;have fs:=f.ss;rw[Su.Nb]at fs;refine⟨L,S',_,?_,⟨r1,r2⟩,by rw[Su.Et,fs];rfl,λe G=>?_,f.pw.out _,?_,(),J.trans r4⟩
 ·unfold ni sI sO;dsimp[kL,qu,bools,mY,Nat.reduceAdd,Nat.reduceSub,Su.oh];rw[show mw oA _ m9 _ _=_ from e1];dsimp[kL,qu,bools,e2]
 ·obtain⟨m1,m2⟩:=Su.FG G;obtain⟨v1,v2,v3⟩:=f.vv e m1;have lt:=pF<|f.aa e m1;rw[cU]at v2;exact⟨v1,λz=>(by rw[z]at m2;cases m2),v2,v3,()⟩
 ·unfold Su.xm;rw[aG];refine bD (cC _ _) ?_;rw[(kO _).length_eq,aG];exact fl
end K42
namespace K42
open PySem L2 Am
open Po (Pl Ok Bd)
open Su (Es At Vl AF)
open He (Sz)
open Fw (rg)
def Sm.Oi{n d:Nat}(h:Sm S n es)(k:Kp (·=d) S S')(J:kj S d=some kvs):Sm S' n es:=⟨k.lst _ _ (λz=>Su.uq J h.l z.symm) h.l,h.a.Oi k J⟩
def lY{N:Nat}{o:ag}(h:o.Perm<|rg N):o.length=N:=by rw[h.length_eq,Wd.j_]
def rz{es:Es}{l:Su.Ps}(h:Su.sm es=l){e:Su.En}(J:e∈es):(e.1,e.2.2)∈l:=by rw[<- h];exact aW.mpr ⟨e,J,rfl⟩
structure Kn (N:Nat)(Φ:ag->Su.Ps)(T:jT)(d:Nat)(K:Es):Prop where
 dd:kj T d=some (K.map Su.kv)
 gd:Su.Gd (Su.sm K)
 pm:∀e∈K,e.1.Perm (rg N)
 at_:∀e∈K,∃es:Es,Sm T e.2.1 es/\Su.sm es=Φ e.1
def Kn.yC{N d:Nat}{J:ag->Su.Ps}{K:Es}(h:Kn N J T d K)(k:nt T T'):Kn N J T' d K:=⟨k.dct _ _ (λz=>z) h.dd,h.gd,h.pm,λe c=>by obtain⟨es,a,b⟩:=h.at_ e c;exact⟨es,a.kp k,b⟩⟩
def Kn.many{N d:Nat}{J:ag->Su.Ps}{K:Es}(U:N<6)(h:Kn N J T d K):K.length<=120:=by
 have:=He.many U h.gd.nd λo g=>by
  obtain⟨e,c,rfl⟩:=aW.mp g;obtain⟨f,hf,rfl⟩:=aW.mp c;exact h.pm f hf
 rwa [aG,Su.vI]at this
def Za:Ok []:=⟨List.Pairwise.nil,nofun⟩
def Kn.put{N d r:Nat}{J:ag->Su.Ps}{K:Es}{o:ag}(hN:N<6)(h:Kn N J T d K)(po:o.Perm<|rg N)(hr:Sm T r es)(U:Su.sm es=J o) :
  ∃T' K',yu (.ref d) (.tup<|o.map .int) (.ref r) T=.ok Unit.unit T'/\Kn N J T' d K'/\zZ (.ref d) (.tup<|o.map .int) T'=.ok (.ref r) T'/\Sm T' r es/\Kp (·=d) T T':=by
 have k:Kp (·=d) T (T.set d<|.dct<|(Su.mT K o r []).map Su.kv):=Kp.refl.yW<|.inl rfl;have dd:kj (T.set d<|.dct<|(Su.mT K o r []).map Su.kv) d=some ((Su.mT K o r []).map Su.kv):=Su.wD<|Su.oS h.dd;obtain⟨e,e1,e2⟩:=Su.NL (D:=K) (o:=o) (r:=r) (p:=[]);have f:=h.many hN;refine⟨_,Su.mT K o r [],?_,⟨dd,?_,λe U=>?_,λe c=>?_⟩,?_,hr.Oi k h.dd,k⟩
 ·rw[Su.tF,h.dd,kg,Su.BR (p:=[])];exact uE (show(K.map Su.kv).length<16777216 by rw[aG];lia)
 ·rw[Su.EL];exact h.gd.put Za
 ·rcases Su.oz U with z|z
  ·exact h.pm e z
  ·rw[z];exact po
 ·rcases Su.oz c with z|z
  ·obtain⟨fs,a,b⟩:=h.at_ e z;exact⟨fs,a.Oi k h.dd,b⟩
  ·rw[z];exact⟨es,hr.Oi k h.dd,U⟩
 ·rw[Su.yL,dd,kg,Su.nP,e1,dB,kg,e2]
def Y4{d:Nat}{o:ag}:Iz true (.tup<|o.map .int) (.ref d) S=opt (kj S d) λkvs=>.ok (.bl<|!(lg kvs o).isSome) S:=by
 show opt (kj S d) (λkvs=>opt (A.ints<|o.map .int) λc=>_)=_;rw[ints_map];rfl
open Po (Pl Ok Bd)
open Su (Es At Vl)
open He (Sz)
structure Nw (b L:Nat)(rs:Es):Prop where
 ap:Su.Ap rs
 nw:∀e∈rs,b<=e.2.1/\e.2.1<L
def YQ{S:jT}{n N P c:Nat}{fs:Es}(hN:N<6)(h0:1<=N)(h:Sm S n es)(h':Sm S m fs)(hz:Sz N P C<|Su.sm es)(hz':Sz N P c<|Su.sm fs)(hP:P<=10000) :
  ∃(L:Nat) (S':jT) (rs:Es),uA [.ref n,.ref m] S=.ok (.ref L) S'/\Sm S' L rs/\Su.sm rs=He.w6 (Su.sm es) (Su.sm fs)/\Nw S.length L rs/\S.length<=L/\nt S S':=by
 have M:=Fo h h' (λe g=>lY<|hz.pm _<|rz rfl g) λe g=>lY<|hz'.pm _<|rz rfl g;have k:=hz.many hN;have J:=hz'.many hN;rw[Su.vI]at k J;have U:(es++fs).length=es.length+fs.length:=bg ..;have V:jU (S++[.dct []]) n=some (es.map Su.ent):=k_ h.l;have Z:jU (S++[.dct []]) m=some (fs.map Su.ent):=k_ h'.l;have F:=acD V Z (by rw[aG,aG];lia);rw[<- bQ]at F;have p:nt S (S++[.dct []]++[.lst<|(es++fs).map Su.ent]):=Kp.refl.lay.lay;have G:∀e∈es++fs,e.2.2.length<=2 * P+1/\e.1≠[]:=λe g=>by
  have:e.1.length=N/\e.2.2.length<=2 * P+1:=(br.mp g).elim (λz=>⟨lY<|hz.pm _<|rz rfl z,(hz.pb<|rz rfl z).2⟩) λz=>⟨lY<|hz'.pm _<|rz rfl z,(hz'.pb<|rz rfl z).2⟩;exact⟨this.2,λz=>by rw[z]at this;have:=this.1;simp at this;lia⟩
 obtain⟨j,B⟩:∃j,j=2 * P+1:=⟨_,rfl⟩;rw[<- B]at G;have Y:(0+(es++fs).length) * j+j<16777216:=by
  have:(0+(es++fs).length) * j<=240 * j:=c7 _ ()
  lia
 obtain⟨y3,y4,D,T,e1,f,kp⟩:=Su.Vk xQ (j:=j) (b:=S.length) (i0:=0) (S:=S++[.dct []]) (S1:=S++[.dct []]++[.lst<|(es++fs).map Su.ent]) (d:=S.length) (x0:=.ref n) (x1:=.ref m) (x3:=.unb) (x4:=.unb) (xs:=[]) (src:=wA) (es:=es++fs)
  (show wA _ _=_ from qy (by dsimp[kL,bools,F]) ki) ki ((h.a.app h'.a).yC p) (Su.Fil.new<|Su.LG Su.o8) p.len G Y ()
 have K:nt S T:=p.old kp λq hq _ z=>()
 have fl:=f.ll;obtain⟨L,S',e2,r1,r2,r3,W⟩:=Ik f.dd f.aa f.kk ();have tl:=K.len;refine⟨L,S',_,?_,⟨r1,r2⟩,by rw[Su.Et,f.ss,Su.zz];rfl,⟨f.pw.out _,λe g=>?_⟩,(),K.trans W⟩
 ·unfold uA FP E8;dsimp[kL,qu,bools,mY,Nat.reduceAdd,Nat.reduceSub,M,Su.oh];rw[show mw wA _ Dt _ _=_ from e1];dsimp[kL,qu,bools,e2]
 ·obtain⟨k,J⟩:=Su.FG g;obtain⟨v1,v2,O⟩:=f.vv e k;have lt:=pF<|f.aa e k;exact⟨O,()⟩
abbrev Sn (N P C:Nat)(S:jT)(n:Nat)(l:Su.Ps):Prop:=Sz N P C l/\∃es,Sm S n es/\Su.sm es=l
def Sn.kp{N P n:Nat}{l:Su.Ps}(h:Sn N P C S n l)(k:nt S S'):Sn N P C S' n l:=by
 obtain⟨a,es,b,c⟩:=h;exact⟨a,es,b.kp k,c⟩
def Sn.add{N P c n:Nat}{l k:Su.Ps}(h:Sn N P C S n l)(h':Sn N P c S m k)(J:N<6)(h0:1<=N)(hP:P<=10000) :
  ∃(L:Nat) (S':jT),uA [.ref n,.ref m] S=.ok (.ref L) S'/\Sn N P (C+c) S' L (He.w6 l k)/\nt S S':=by
 obtain⟨a,es,b,rfl⟩:=h;obtain⟨d,fs,j,rfl⟩:=h';obtain⟨L,S',p,e1,e,f,_,_,g⟩:=YQ J h0 b j a d hP;exact⟨L,S',e1,⟨a.sum d,p,e,f⟩,g⟩
def Sn.mono{N P n:Nat}{l:Su.Ps}(h:Sn N P C S n l)(J:P<=P')(hc:C<=C'):Sn N P' C' S n l:=⟨h.1.mono J hc,h.2⟩
end K42
namespace K42
open PySem L2 Am
open Po (Pl Ok Bd)
open Su (Es At Vl AF)
open He (Sz PB)
open Fw (rg)
def W_{S:jT}{n N P c:Nat}{q:Pl}(f:Int×Int->A)(hf:∀p τ S,OL (f p) τ S=OL (Po.pA p) τ S)(hN:N<6)(h0:1<=N)(h:Sm S n es)(hz:Sz N P C<|Su.sm es)(hq:jU S m=some (q.map f))(pq:PB Q c q)(lq:q.length<=2)(hP:P<=1000)(hC:C<big)(hc:c<big) :
  ∃(L:Nat) (S':jT) (rs:Es),rC [.ref m,.ref n] S=.ok (.ref L) S'/\Sm S' L rs/\Su.sm rs=He.C7 q (Su.sm es)/\S.length<=L/\nt S S':=by
 have K:nt S (S++[.dct []]):=Kp.refl.lay;have W:=hz.many hN;rw[Su.vI]at W;obtain⟨j,hj⟩:∃j,j=2 * (2 * P+1):=⟨_,rfl⟩;obtain⟨y3,y4,_,D,T,_,e1,B,kp⟩:=Su.G3 (w:=1) (j:=j) (b:=S.length) (i0:=0) (S:=S++[.dct []]) (S1:=S++[.dct []]) (d:=S.length) (n:=n) (es:=es) (src:=t9) (c:=ud) (g:=Iw 2<|yM (kY 3)<|yM (kY 4) JK) (λy z _=>[.ref m,.ref n,.ref S.length,y,z]) (λ_=>True) (λe Q=>Su.B0 Q e.1<|Po.times q e.2.2) (λ_ _ _ _ _=>rfl) (x3:=.unb) (x4:=.unb) (xs0:=[]) trivial
  (show t9 _ _=_ from qy (by dsimp[kL,bools])<|k_ h.l) (k_ h.l) (Su.Fil.new Su.o8) λi e T Q1 D xs hi F _ k M=>by
   have b:=hz.pb<|rz rfl F;have tl:=k.len;rw[bg]at tl;rw[cU,gv]at M;rw[cU,gv];have O:i * j<=120 * j:=c7 _ ();have Y:e.2.2.length<=2 * P+1:=b.2;have ll:q.length * e.2.2.length<=j:=by rw[hj];exact fQ lq Y
   obtain⟨L,T1,x1,l1,l2,J⟩:=DA f hf (k.lst _ _ (λz=>Su.uq (Su.o8 (S:=S) (xs:=[])) (k_ (o:=.dct []) hq) z.symm)<|k_ hq) (((h.a.yC K).Oi k Su.o8) e F) () (λp G=>cM (pq.c p G) hc) λp G=>cM (b.1.c p G) hC;have Z:=J.len;obtain⟨D',V,U,f',k'⟩:=(M.yC J).add xQ (o:=e.1) l1 (bD (Su.CW _ _) ll) (λz=>by
    have:=lY<|hz.pm _<|rz rfl F;rw[show((e.1,e.2.2):ag×Pl).1=e.1 from rfl,z]at this;simp at this;lia) () () ()
   exact⟨D',V,[],trivial,by unfold ud;dsimp[kL,bools,x1,U],f',J.of0.trans k'⟩
 rw[cU,gv,Su.NX]at B;have k:nt S T:=K.old kp λq hq _ z=>()
 have fl:=B.ll;obtain⟨L,S',e2,r1,r2,r3,r4⟩:=Ik B.dd B.aa B.kk ();have tl:=k.len;refine⟨L,S',_,?_,⟨r1,r2⟩,by rw[Su.Et,B.ss];rfl,(),k.trans r4⟩;unfold rC BU BK;dsimp[kL,bools,mY,Nat.reduceAdd,Nat.reduceSub,Su.oh];rw[show mw t9 _ ud _ _=_ from e1];dsimp[kL,bools,e2]
def Sn.aaV{N P c n:Nat}{l:Su.Ps}{q:Pl}(h:Sn N P C S n l)(f:Int×Int->A)(hf:∀p τ S,OL (f p) τ S=OL (Po.pA p) τ S)(U:N<6)(h0:1<=N)(hq:jU S m=some (q.map f))(J:PB Q c q)(lq:q.length<=2)(hP:P<=1000)(hC:C<big)(hc:c<big) :
  ∃(L:Nat) (S':jT),rC [.ref m,.ref n] S=.ok (.ref L) S'/\Sn N (P+Q) (q.length * (c * C)) S' L (He.C7 q l)/\nt S S':=by
 obtain⟨z,es,s,rfl⟩:=h;obtain⟨L,S',g,e1,j,d,_,e⟩:=W_ f hf U h0 s z hq J lq hP hC hc;exact⟨L,S',e1,⟨z.C7 J,g,j,d⟩,e⟩
end K42
namespace Kl
open Su Po He
open Fw (rg)
def QU{n k:Nat}{o:ag}(p:o.Perm<|rg n)(h0:1<=k)(h1:k<n):mC (Wd.ex o k) k=!mC o k:=by
 have lo:o.length=n:=by rw[p.length_eq,Wd.j_]
 have c:=Fw.Wg p h0 ();unfold Su.mC;rw[Fw.Ux h0 (),Fw.RU h0 (),<- decide_not];exact gD.mpr ⟨λz=>(),λz=>()⟩
theorem yG:∀(l:ag),2 * Iv.inv l<=l.length * (l.length-1)
 | []=>aO _
 | x::l=>by
  have h1:l.countP (λy=>decide<|y<x)<=l.length:=List.countP_le_length;have h2:=yG l;show 2 * (l.countP (λy=>decide<|y<x)+Iv.inv l)<=(l.length+1) * l.length
  cases c:l.length with
  | zero=>rw[c]at h1 h2;lia
  | succ m=>
   rw[c]at h1 h2;have:(m+1) * (m+1-1)+2 * (m+1)=(m+1+1) * (m+1):=by
    rw[gP,jn (m+1) 1<|m+1,gv,jM (m+1) m 1];lia
   lia
abbrev step (k:Nat)(low:ag->Ps)(told:Ps)(e:ag×Pl):Ps:=if val e.2 1≠0/\mC e.1 k=true then w6 told (C7 [(0,-val e.2 1)]<|low e.1)else told
abbrev first (k:Nat)(less:Ps):Ps:=w6 (Su.bx k less)<|C7 [(1,1)] less
abbrev kp:Nat->ag->Ps
 | 0,_=>[]
 | f+1,w=>match ff w with
  | none=>[(w,[(0,1)])]
  | some k=>(kp f<|Wd.ex w k).foldl (step k<|kp f)<|first k (kp f<|Wd.ex w k)
abbrev Lo (n:Nat)(w o:ag):Prop:=o.Perm (rg n)/\(o=w\/Iv.inv o<Iv.inv w)
def Lo.le{n:Nat}{w:ag}(h:Lo n w o):Iv.inv o<=Iv.inv w:=by
 rcases h.2 with z|z
 ·rw[z];exact aO _
 ·exact i9 z
def C2{P:ag->Prop}{l m:Ps}(h:∀e∈l,P e.1)(h':∀e∈m,P e.1):∀e∈w6 l m,P e.1:=
 tP (qU (P:=P) _ (nofun) λx c=>(br.mp c).elim (h x)<|h' x)
def Ho{P:ag->Prop}{p:Pl}{l:Ps}(h:∀e∈l,P e.1):∀e∈C7 p l,P e.1:=
 tP (qU (P:=P) _ (nofun) λx c=>by
  obtain⟨e,d,rfl⟩:=aW.mp c;exact h e d)
def Vx{P:ag->Prop}{k:Nat}{l:Ps}(h:∀e∈l,P e.1/\P (Wd.ex e.1 k)):∀e∈Su.bx k l,P e.1:=
 tP (qU (P:=P) _ (nofun) λx c=>by
  obtain⟨e,d,c⟩:=gE.mp c
  rcases bG.mp c with z|z
  ·rw[z];exact(h e d).2
  ·split at z
   ·rw[aP.mp z];exact(h e d).1
   ·exact nomatch z)
theorem DB{P:ag->Prop}{k:Nat}{low:ag->Ps}:∀{less told:Ps},(∀e∈told,P e.1)->(∀e∈less,∀g∈low e.1,P g.1)->∀e∈less.foldl (step k low) told,P e.1
 | [],_,h,_=>h
 | x::xs,told,h,h'=>DB (less:=xs) (by
   unfold step;split
   ·exact C2 h (Ho λg hg=>h' x (aL ..) g hg)
   ·exact h) λe c=>h' e<|aN _ c
structure Dn (n:Nat)(w:ag)(k:Nat):Prop where
 h0:1<=k
 h1:k<n
 fw:mC w k=true
 pe:(Wd.ex w k).Perm (rg n)
 iv:Iv.inv w=Iv.inv (Wd.ex w k)+1
 ee:Wd.ex (Wd.ex w k) k=w
 fe:mC (Wd.ex w k) k=false
def zR{n:Nat}{w:ag}{k:Nat}(J:w.Perm<|rg n)(h:ff w=some k):Dn n w k:=by
 obtain⟨a,b,c⟩:=DN h;have d:w.length=n:=by rw[J.length_eq,Wd.j_]
 refine⟨a,(),c,om J a (),Fw.vO a b (by have:=bP c;lia),Fw.se a b,?_⟩;rw[QU J a (),c];rfl
def zH{n k:Nat}{w:ag}(d:Dn n w k)(h:Lo n (Wd.ex w k) o):Lo n w o:=⟨h.1,.inr (by have:=h.le;have:=d.iv;lia)⟩
def Qt{n k:Nat}{w:ag}(d:Dn n w k)(h:Lo n (Wd.ex w k) o):Lo n w (Wd.ex o k):=by
 refine⟨om h.1 d.h0 d.h1,?_⟩;have lo:o.length=n:=by rw[h.1.length_eq,Wd.j_]
 rcases h.2 with z|z
 ·exact .inl (by rw[z];exact d.ee)
 ·have:=Fw.VF (l:=o) d.h0 (by have:=d.h1;lia);have:=d.iv;exact .inr ()
def XG{n:Nat}{w:ag}(h:Lo n w o)(h':Lo n o u):Lo n w u:=⟨h'.1,by
 rcases h'.2 with z|z
 ·rw[z];exact h.2
 ·exact .inr (by have:=h.le;lia)⟩
theorem yg{n:Nat}:∀(f:Nat) {w:ag},w.Perm (rg n)->∀e∈kp f w,Lo n w e.1
 | 0,_,_,e,c=>nomatch c
 | f+1,w,pw,e,c=>by
  revert e;unfold kp;split
  ·intro e c;rw[aP.mp c];exact⟨pw,.inl rfl⟩
  ·rename_i k m;have d:=zR pw m;have j:=yg f d.pe;exact DB (C2 (Vx λe c=>⟨zH d<|j e c,Qt d<|j e c⟩)<|Ho λe c=>zH d<|j e c) λe c g hg=>XG (zH d<|j e c)<|yg f (j e c).1 g hg
theorem fold_congr{k:Nat}{low J:ag->Ps}:∀{less told:Ps},(∀e∈less,low e.1=J e.1)->less.foldl (step k low) told=less.foldl (step k J) told
 | [],_,_=>rfl
 | x::xs,told,h=>by
  rw[cW,cW,show step k low told x=step k J told x from by unfold step;rw[h x<|aL ..]];exact fold_congr λe c=>h e<|aN _ c
theorem SQ{n:Nat}:∀(f g:Nat) {w:ag},w.Perm (rg n)->Iv.inv w<f->Iv.inv w<g->kp f w=kp g w
 | 0,_,_,_,h,_=>absurd h (d8 _)
 | f+1,0,_,_,_,h=>absurd h (d8 _)
 | f+1,g+1,w,pw,h,h'=>by
  unfold kp;split
  ·rfl
  ·rename_i k j;have d:=zR pw j;have iv:=d.iv;rw[SQ f g d.pe () ()];exact fold_congr λe c=>by
    have l:=yg g d.pe e c;have:=l.le;exact SQ f g l.1 () ()
abbrev K (w:ag):Ps:=kp (Iv.inv w+1) w
def Fx{w:ag}(h:ff w=none):K w=[(w,[(0,1)])]:=by
 unfold K kp;rw[h]
def Jb{n k:Nat}{w:ag}(J:w.Perm<|rg n)(h:ff w=some k):K w=(K<|Wd.ex w k).foldl (step k K) (first k (K<|Wd.ex w k)):=by
 have d:=zR J h;have iv:=d.iv;show kp (Iv.inv w+1) w=_;unfold kp;rw[h];show(kp (Iv.inv w)<|Wd.ex w k).foldl (step k<|kp<|Iv.inv w) _=_;rw[show kp (Iv.inv w) (Wd.ex w k)=K (Wd.ex w k)from by unfold K;rw[iv]];exact fold_congr λe c=>by
  have l:=yg _ d.pe e c;have:=l.le;exact SQ _ _ l.1 () ()
def JE{n:Nat}{w:ag}(J:w.Perm<|rg n):∀e∈K w,Lo n w e.1:=yg _ J
abbrev Cb:Nat->Nat
 | 0=>1
 | 1=>124
 | i+2=>4 * Cb (i+1)+120 * (Cb (i+1) * Cb i)
def MY:∀i,4 * Cb i+120 * (Cb i * Cb (i-1))<=Cb (i+1)
 | 0=>by decide
 | i+1=>aO _
theorem AH:∀{j:Nat},i<=j->Cb i<=Cb j
 | 0,h=>by rw[Nat.le_zero.mp h];exact aO _
 | j+1,h=>by
  rcases gB j i with z|z
  ·rw[show i=j+1 by lia];exact aO _
  ·have:=AH z;have:=MY j
   lia
def Ym{P:Nat}{p:Pl}(h:PB P C p)(t:Int):(val p t).natAbs<=C:=by
 unfold val
 cases hf:p.find? λq=>decide (q.1=t)with
 | none=>exact bL _
 | some q=>exact h.c q<|e_ hf
def Vc{n P A B L k:Nat}{low:ag->Ps}{e:ag×Pl}(h:Sz n P A told)(J:mC e.1 k=true->Sz n P L (low e.1))(U:(val e.2 1).natAbs<=B):Sz n P (A+B * L) (step k low told e):=by
 unfold step;split
 ·rename_i z;have:=(J z.2).C7 (p:=[(0,-val e.2 1)]) (Q:=0) (c:=B) ⟨λq d=>by rw[aP.mp d];show(-val e.2 1).natAbs<=B;rw[jO];exact U,λq d=>by rw[aP.mp d];exact aO _⟩;exact(h.sum this).mono (aO _) (by show A+1 * (B * L)<=_;lia)
 ·exact h.mono (aO _)<|iL _ _
theorem KZ{n P B L k:Nat}{low:ag->Ps}:∀{less told:Ps}{A:Nat},Sz n P A told->(∀e∈less,mC e.1 k=true->Sz n P L (low e.1))->(∀e∈less,(val e.2 1).natAbs<=B)->Sz n P (A+less.length * (B * L)) (less.foldl (step k low) told)
 | [],_,_,h,_,_=>h.mono (aO _) (iL _ _)
 | x::xs,told,A,h,hl,hb=>by
  have:=KZ (less:=xs) (Vc (e:=x) h (hl x<|aL ..)<|hb x<|aL ..) (λe c=>hl e<|aN _ c) λe c=>hb e<|aN _ c;exact this.mono (aO _)<|by rw[bA,fX];lia
def QB{n P k:Nat}{l:Ps}(h:Sz n P C l)(h0:1<=k)(h1:k<n):Sz n (P+1) (4 * C) (first k l):=by
 have:=h.C7 (p:=[(1,1)]) (Q:=1) (c:=1) ⟨λq d=>by rw[aP.mp d];exact aO _,λq d=>by rw[aP.mp d];exact aO _⟩;exact((h.bx h0 h1).sum this).mono (aO _) (by show 3 * C+1 * (1 * C)<=_;lia)
def YZ{n:Nat}{w:ag}(J:w.Perm<|rg n):Sz n 0 1 [(w,[(0,1)])]:=by
 refine Sz.of (Ri w Ur λz=>nomatch z) (λx d=>by rw[aP.mp d];exact J) λe f=>by
  rw[aP.mp f];exact⟨λq c=>by rw[aP.mp c];exact aO _,λq c=>by rw[aP.mp c];exact aO _⟩
def ael{n:Nat}(hn:n<6)(i:Nat):∀{w:ag},w.Perm (rg n)->Iv.inv w=i->Sz n i (Cb i) (K w):=by
 induction i using Nat.strongRecOn with
 | ind i g=>
  intro w f hi
  cases hf:ff w with
  | none=>rw[Fx hf];exact(YZ f).mono (bL _) (AH (i:=0)<|bL _)
  | some k=>
   have d:=zR f hf;have iv:=d.iv;obtain⟨j,rfl⟩:∃j,i=j+1:=⟨Iv.inv<|Wd.ex w k,()⟩;have p:Iv.inv (Wd.ex w k)=j:=()
   have z:=g j () d.pe p;have m:=z.many hn;rw[Jb f hf];refine(KZ (QB z d.h0 d.h1) (L:=Cb<|j-1) (B:=Cb j) (λe c fe=>?_) λe c=>Ym (z.pb c).1 1).mono (aO _) (bD ?_<|MY j)
   ·have l:=JE d.pe e c;have:Iv.inv e.1<j:=by
     rcases l.2 with q|q
     ·rw[q,d.fe]at fe;exact nomatch fe
     ·lia
    exact(g (Iv.inv e.1) () l.1 rfl).mono () (AH ())
   ·exact Nat.add_le_add_left (c7 _ m) _
def Jp{n:Nat}(hn:n<6){w:ag}(J:w.Perm<|rg n):Sz n 10 (Cb 10) (K w):=by
 have:=yG w;have c:w.length=n:=by rw[J.length_eq,Wd.j_]
 have:Iv.inv w<=10:=by
  rw[c]at this;have:n * (n-1)<=5 * 4:=fQ () ()
  lia
 exact(ael hn _ J rfl).mono this (AH this)
end Kl
namespace K42
open PySem L2 Am
def Sn.bx{N P n k:Nat}{l:Su.Ps}(h:Sn N P C S n l)(hN:N<6)(U:1<=k)(k2:k<N)(hP:P<=1000)(hC:C<big) :
  ∃(L:Nat) (S':jT),ni [.ref n,.int k] S=.ok (.ref L) S'/\Sn N (P+1) (3 * C) S' L (Su.bx k l)/\nt S S':=by
 obtain⟨z,es,s,rfl⟩:=h;have g:=z.many hN;rw[Su.vI]at g;obtain⟨L,G,d,q,F,B,_,_,_,_,m⟩:=Wl (j:=2 * (2 * P+1)) s (k:=k) (N:=N) (λe f=>by
  have b:=z.pb<|rz rfl f;exact⟨lY<|z.pm _<|rz rfl f,by have:=b.2;show 2 * e.2.2.length<=_;exact Nat.mul_le_mul_left _ this,λp J=>cM (b.1.c p J) hC⟩) U k2 () (by
   have:(2 * es.length+2) * (2 * (2 * P+1))<=242 * (2 * (2 * P+1)):=c7 _ ()
   lia) ()
 exact⟨L,G,q,⟨z.bx U k2,d,F,B⟩,m⟩
open Po (Pl Ok)
open Su (Es)
open He (Sz PB)
open Fw (rg)
def E5{n:Nat}{p:Pl}(h:jU S n=some (Po.pl p))(J:Ok p):lN [.ref n] S=.ok (.int<|Po.val p 1) (S++[.nX<|Po.iv p]):=by
 unfold lN qC qw;dsimp[kL,qu,bools,mY,Nat.reduceAdd,Nat.reduceSub,Ag,Dr,h,Po.OV,Po.KY,Po.J7 J,EM,t7,dB,yo,Po.yS]
def xx:Kl.Cb 10<big:=by rw[An];decide +kernel
def Sn.Oi{N P n d:Nat}{l:Su.Ps}(h:Sn N P C S n l)(k:Kp (·=d) S S')(J:kj S d=some kvs):Sn N P C S' n l:=by
 obtain⟨a,es,b,c⟩:=h;exact⟨a,es,b.Oi k J,c⟩
def X8{N n:Nat}{o:ag}(J:N<6)(U:o.Perm<|rg N)(h:Sm S n es)(e:Su.sm es=Kl.K o):Sn N 10 (Kl.Cb 10) S n (Kl.K o):=⟨Kl.Jp J U,es,h,e⟩
def OQ(x y:A):gd (([x,y]:ae).length<=sizeLine)=λr:Am.R A=>r:=by funext r;exact vA<|show 2<=16777216 by decide
def PZ(x:A)(S:jT):newL [x] S=.ok (.ref S.length) (S++[.lst [x]]):=vA<|show 1<=16777216 by decide
abbrev Fnd (N d f:Nat)(Fs:ae->jT->R A):Prop:=∀(T:jT) (K:Es) (o:ag),Iv.inv o<f->o.Perm (rg N)->Kn N Kl.K T d K ->
  ∃(r:Nat) (c:jT) (g e:Es),Fs [.tup<|o.map .int,.ref d] T=.ok (.ref r) c/\Kn N Kl.K c d g/\Sm c r e/\Su.sm e=Kl.K o/\Kp (·=d) T c
def U5{Fs:ae->jT->R A}{N d f n L k:Nat}{K:Es}{e:Su.En}{x:A}(hN:N<6)(ih:Fnd N d f Fs)(hk:Kn N Kl.K T d K)(ht:Sn N 11 A' T L told)(pe:e.1.Perm<|rg N)(he:Iv.inv e.1<f)(le:jU T e.2.1=some (Po.pl e.2.2))(oe:Ok e.2.2)(be:(Po.val e.2.2 1).natAbs<big)(k1:1<=k)(k2:k<N) :
  ∃(v:A) (L' A'':Nat) (T':jT) (K':Es),nQ Fs [x,.int k,.ref d,.ref n,.ref L,.tup<|e.1.map .int,.ref e.2.1,y] T=.nx [x,.int k,.ref d,.ref n,.ref L',.tup<|e.1.map .int,.ref e.2.1,v] T'/\Kn N Kl.K T' d K'/\Sn N 11 A'' T' L' (Kl.step k Kl.K told (e.1,e.2.2))/\Kp (·=d) T T':=by
 have h1:=E5 le oe;have lo:=lY pe;obtain⟨T1,C⟩:∃T1,T1=T++[O.nX<|Po.iv e.2.2]:=⟨_,rfl⟩;have F:nt T T1:=by rw[C];kpf_c
 rw[<- C]at h1;unfold nQ;by_cases h0:Po.val e.2.2 1=0
 ·have G:(Po.val e.2.2 1 == 0)=true:=beq_iff_eq.mpr h0;refine⟨.int<|Po.val e.2.2 1,L,A',T1,K,?_,hk.yC F,?_,F.of0⟩
  ·dsimp[kL,qu,bools,h1,G,dg]
  ·unfold Kl.step;rw[aI λz=>z.1 h0];exact ht.kp F
 ·have G:(Po.val e.2.2 1 == 0)=false:=cT.mpr h0;have P:=BP (S:=T1) (xs:=e.1) (n:=N) lo ();have g:RK false (.int k) (.ref T1.length) (T1++[.lst<|(fl e.1 N).map .int])=.ok (.bl<|Su.mC e.1 k) (T1++[.lst<|(fl e.1 N).map .int]):=by
   show opt (jU _ _) _=_;rw[ki,kg,Ah,MX lo k1 k2];rfl
  obtain⟨T2,B⟩:∃T2,T2=T1++[O.lst<|(fl e.1 N).map .int]:=⟨_,rfl⟩;have q2:nt T1 T2:=by rw[B];kpf_c
  rw[<- B]at g P;have m:=F.trans q2
  cases hf:Su.mC e.1 k with
  | false=>
   rw[hf]at g;refine⟨.int<|Po.val e.2.2 1,L,A',T2,K,?_,hk.yC m,?_,m.of0⟩
   ·dsimp[kL,qu,bools,h1,G,c_,P,g]
   ·unfold Kl.step;rw[aI λz=>by rw[hf]at z;exact nomatch z.2];exact ht.kp m
  | true=>
   rw[hf]at g;obtain⟨T3,p⟩:∃T3,T3=T2++[O.lst [.tup [.int 0,.int<|-Po.val e.2.2 1]]]:=⟨_,rfl⟩;have q3:nt T2 T3:=by rw[p];kpf_c
   have Z:jU T3 T2.length=some (([(0,-Po.val e.2.2 1)]:Pl).map Po.pA):=by rw[p];exact ki
   have j:=m.trans q3;obtain⟨r,T4,K4,rs,x4,n4,s4,e4,M⟩:=ih T3 K e.1 he pe<|hk.yC j;have d3:=(hk.yC j).dd;have l4:=M.lst _ _ (λz=>Su.uq d3 Z z.symm) Z;obtain⟨L5,T5,x5,s5,U⟩:=(X8 hN pe s4 e4).aaV Po.pA (λ_ _ _=>rfl) hN () l4 (Q:=0) (c:=(Po.val e.2.2 1).natAbs) ⟨λq J=>by rw[aP.mp J];show(-_:Int).natAbs<=_;rw[jO];exact aO _,λq J=>by rw[aP.mp J];exact aO _⟩ (show 1<=2 by decide) ⋯ xx be;obtain⟨L6,T6,x6,Y,W⟩:=(((ht.kp j).Oi M d3).kp U).add (s5.mono ⋯ (aO _)) hN () ⋯;have st:Kl.step k Kl.K told (e.1,e.2.2)=He.w6 told (He.C7 [(0,-Po.val e.2.2 1)]<|Kl.K e.1):=by unfold Kl.step;rw[aJ ⟨h0,hf⟩]
   rw[<- st]at Y;refine⟨.int<|Po.val e.2.2 1,L6,_,T6,K4,?_,(n4.yC U).yC W,Y,((j.of0.trans M).trans U.of0).trans W.of0⟩;have V:Cv (.int<|Po.val e.2.2 1) T2=.ok (.int<|-Po.val e.2.2 1) T2:=rfl;dsimp[kL,qu,bools,h1,G,c_,P,g,V,OQ,PZ,<- p,x4,x5,x6]
end K42
namespace K42
open PySem L2 Am
open Po (Pl Ok)
open Su (Es)
open He (Sz PB)
open Fw (rg)
def X4:gd (2<=sizeLine)=λr:Am.R A=>r:=by funext r;exact vA<|show 2<=16777216 by decide
def W7{Fs:ae->jT->R A}{N d f n k:Nat}{x:A}{wl:ag}(hN:N<6)(ih:Fnd N d f Fs)(hk:Kn N Kl.K S d K0)(ht:Sn N 11 A0 S L0 told)(pw:wl.Perm<|rg N)(iw:Iv.inv wl<f)(hs:Sm S n es)(U:Su.sm es=Kl.K wl)(k1:1<=k)(k2:k<N) :
  ∃(y5 y6 y7:A) (L' A'':Nat) (S':jT) (K':Es),mw (p7 Fs) (Iw 2<|yM (kY 5)<|yM (kY 6) JK) (nQ Fs) [x,.int k,.ref d,.ref n,.ref L0,.unb,.unb,.unb] S=.nx [x,.int k,.ref d,.ref n,.ref L',y5,y6,y7] S'/\Kn N Kl.K S' d K'/\Sn N 11 A'' S' L' ((Kl.K wl).foldl (Kl.step k Kl.K) told)/\Kp (·=d) S S':=by
 have j:(es.map Su.ent).length=es.length:=aG ..;have C:=Kl.Jp hN pw;refine rY (n:=n) (xs:=es.map Su.ent) (S1:=S) (show p7 Fs _ _=_ from qy (by dsimp[kL,bools]) hs.l)
  (λi τ T=>∃(y5 y6 y7:A) (L' A'':Nat) (K':Es),τ=[x,.int k,.ref d,.ref n,.ref L',y5,y6,y7]/\Kn N Kl.K T d K'/\Sn N 11 A'' T L' ((Su.sm<|es.take i).foldl (Kl.step k Kl.K) told)/\Kp (·=d) S T)
  (λr=>∃(y5 y6 y7:A) (L' A'':Nat) (S':jT) (K':Es),r=.nx [x,.int k,.ref d,.ref n,.ref L',y5,y6,y7] S'/\Kn N Kl.K S' d K'/\Sn N 11 A'' S' L' ((Kl.K wl).foldl (Kl.step k Kl.K) told)/\Kp (·=d) S S')
  ⟨_,_,_,L0,A0,K0,rfl,hk,ht,Kp.refl⟩ (λi τ T h=>?_) ?_ ?_
 ·obtain⟨_,_,_,_,_,_,_,_,_,kp⟩:=h;exact kp.lst _ _ (λz=>Su.uq hk.dd hs.l z.symm) hs.l
 ·rintro i z τ T B ⟨y5,y6,y7,L',A'',K',rfl,g,c,kp⟩;rw[aQ]at B;obtain⟨e,p,rfl⟩:=aY.mp B;have q:=aX p;have m:(e.1,e.2.2)∈Kl.K wl:=rz U q;have lo:=Kl.JE pw _ m;have pb:=C.pb m;obtain⟨v,F,L,T1,M,e1,J,O,G⟩:=U5 (Fs:=Fs) (n:=n) (x:=x) (y:=y7) hN ih g c (e:=e) lo.1 (cM lo.le iw) ((hs.Oi kp hk.dd).a e q) (C.cn.gd.ok _ m) (cM (Kl.Ym pb.1 1) xx) k1 k2;refine⟨[x,.int k,.ref d,.ref n,.ref L',.tup<|e.1.map .int,.ref e.2.1,y7],T,rfl,.inl ⟨_,T1,e1,_,_,_,F,L,M,rfl,J,?_,kp.trans G⟩⟩;rw[cL,p,Su.zz,dw];exact O
 ·rintro τ T ⟨y5,y6,y7,L',A'',K',rfl,g,c,kp⟩;rw[j,cH,U]at c;exact⟨y5,y6,y7,L',A'',T,K',rfl,g,c,kp⟩
def WJ{Fs:ae->jT->R A}{N d f k:Nat}{w:ag}(hN:N<6)(ih:Fnd N d f Fs)(hk:Kn N Kl.K S d K0)(pw:w.Perm<|rg N)(hf:He.ff w=some k)(iw:Iv.inv w<f+1) :
  ∃(r:Nat) (S':jT) (K' rs:Es),lZ lC (lH Fs) [.tup<|w.map .int,.int k,.ref d] S=.ok (.ref r) S'/\Kn N Kl.K S' d K'/\Sm S' r rs/\Su.sm rs=Kl.K w/\Kp (·=d) S S':=by
 have e:=Kl.zR pw hf;have iv:=e.iv;obtain⟨S1,x1,J⟩:=La (S:=S) (xs:=w) (k:=k) e.h0 (by rw[lY pw];exact e.h1) (by rw[lY pw];lia);obtain⟨r2,S2,K2,rs2,U,n2,M,e2,k2⟩:=ih S1 K0 (Wd.ex w k) () e.pe<|hk.yC J;have T:=X8 hN e.pe M e2;obtain⟨L3,S3,Y,s3,G⟩:=T.bx hN e.h0 e.h1 ⋯ xx;obtain⟨p,j⟩:∃p,p=S3++[O.lst [.tup [.int 1,.int 1]]]:=⟨_,rfl⟩;have P:nt S3 p:=by rw[j];kpf_c
 have l4:jU p S3.length=some (([(1,1)]:Pl).map Po.pA):=by rw[j];exact ki
 have F:=G.trans P;obtain⟨L5,S5,Z,W,k5⟩:=(T.kp F).aaV Po.pA (λ_ _ _=>rfl) hN (by have:=e.h1;lia) l4 (Q:=1) (c:=1) ⟨λq B=>by rw[aP.mp B];exact aO _,λq B=>by rw[aP.mp B];exact aO _⟩ ⋯ ⋯ xx (by rw[An];decide +kernel);have m:=P.trans k5;obtain⟨L6,S6,x6,s6,V⟩:=(s3.kp m).add W hN (by have:=e.h1;lia) ⋯;have g:=(G.trans m).trans V;obtain⟨y5,y6,y7,L7,A7,S7,K7,x7,n7,L,k7⟩:=W7 (x:=.tup<|w.map .int) hN ih (n2.yC g) s6 e.pe () (M.kp g) e2 e.h0 e.h1;have eq:(Kl.K<|Wd.ex w k).foldl (Kl.step k Kl.K) (He.w6 (Su.bx k<|Kl.K<|Wd.ex w k)<|He.C7 [(1,1)]<|Kl.K<|Wd.ex w k)=Kl.K w:=(Kl.Jb pw hf).symm;rw[eq]at L;obtain⟨_,C,m7,e7⟩:=L;refine⟨L7,S7,K7,C,?_,n7,m7,e7,((J.of0.trans k2).trans g.of0).trans k7⟩;unfold lH lC;dsimp[kL,qu,bools,mY,Nat.reduceAdd,Nat.reduceSub,x1,U,Y,X4,OQ,PZ,<- j,Z,x6,↓x7]
theorem KQ{N d:Nat}(hN:N<6):∀(f:Nat),Fnd N d f (m_ f)
 | 0=>λ_ _ _ h _ _=>absurd h (d8 _)
 | f+1=>λS K o hf P hK=>by
  have lo:=lY P;show ∃(r:Nat) (S':jT) (M rs:Es),lZ pL (o9<|m_ f) [.tup<|o.map .int,.ref d] S=.ok (.ref r) S'/\_;have p:Iz true (.tup<|o.map .int) (.ref d) S=.ok (.bl<|!(lg (K.map Su.kv) o).isSome) S:=by rw[Y4,hK.dd,kg]
  unfold o9 pL
  cases W:Su.fE K o with
  | some e=>
   obtain⟨m1,rfl⟩:=Su.pT W;obtain⟨rs,r1,r2⟩:=hK.at_ e m1;have C:lg (K.map Su.kv) e.1=some (.ref e.2.1):=by rw[Su.nP,W];rfl
   have q:zZ (.ref d) (.tup<|e.1.map .int) S=.ok (.ref e.2.1) S:=by rw[Su.yL,hK.dd,kg,C,kg]
   rw[C]at p;refine⟨e.2.1,S,K,rs,?_,hK,r1,r2,Kp.refl⟩;dsimp[kL,qu,bools,mY,Nat.reduceAdd,Nat.reduceSub,p,jd,dg,q]
  | none=>
   have C:lg (K.map Su.kv) o=none:=by rw[Su.nP,W];rfl
   rw[C]at p;have Y:=BP (S:=S) (xs:=o) (n:=N) lo ();have G:(fl o N).head?=(He.ff o).map λk:Nat=>(k:Int):=by
    have:=He.WN (o:=o);rw[lo]at this;exact this
   obtain⟨S1,j⟩:∃S1,S1=S++[O.lst<|(fl o N).map .int]:=⟨_,rfl⟩;have U:nt S S1:=by rw[j];kpf_c
   have L:jU S1 S.length=some ((fl o N).map .int):=by rw[j];exact ki
   rw[<- j]at Y;have J:=Gh L
   cases c:He.ff o with
   | none=>
    have fe:fl o N=[]:=by
     rw[c]at G;exact List.head?_eq_none_iff.mp G
    obtain⟨S2,m⟩:∃S2,S2=S1++[O.lst [.tup [.int 0,.int 1]]]:=⟨_,rfl⟩;have k2:nt S1 S2:=by rw[m];kpf_c
    have l2:jU S2 S1.length=some (Po.pl [(0,1)]):=by rw[m];exact ki
    obtain⟨S3,g⟩:∃S3,S3=S2++[O.lst [.tup [.tup<|o.map .int,.ref S1.length]]]:=⟨_,rfl⟩;have F:nt S2 S3:=by rw[g];kpf_c
    have l3:jU S3 S2.length=some (([(o,S1.length,[(0,1)])]:Es).map Su.ent):=by rw[g];exact ki
    have sm:Sm S3 S2.length [(o,S1.length,[(0,1)])]:=⟨l3,λe he=>by rw[aP.mp he];exact F.lst _ _ (λz=>z) l2⟩;have kq:Su.sm [(o,S1.length,[((0:Int),(1:Int))])]=Kl.K o:=by rw[Kl.Fx c];rfl
    have B:=(U.trans k2).trans F;obtain⟨T,M,e1,V,q,Z,kp⟩:=(hK.yC B).put hN P sm kq;refine⟨S2.length,T,M,_,?_,V,Z,kq,B.of0.trans kp⟩;rw[fe]at J;dsimp[kL,qu,bools,mY,Nat.reduceAdd,Nat.reduceSub,p,gT,c_,Y,J,fV,iM,dg,X4,OQ,PZ,<- m,<- g,Su.ug,e1,q]
   | some k=>
    obtain⟨t,ft⟩:∃t,fl o N=(k:Int)::t:=by
     rw[c]at G;exact List.head?_eq_some_iff.mp G
    rw[ft]at J L;obtain⟨r3,S3,K3,rs3,x3,n3,s3,q3,F⟩:=WJ hN (KQ hN f) (hK.yC U) P c hf;obtain⟨T,M,e1,V,q,Z,kp⟩:=n3.put hN P s3 q3;refine⟨r3,T,M,rs3,?_,V,Z,q3,(U.of0.trans F).trans kp⟩;dsimp[kL,qu,bools,mY,Nat.reduceAdd,Nat.reduceSub,p,gT,c_,Y,J,bH,jq,dg];rw[bH]at L;dsimp[kL,qu,bools,L,Dm,↓x3,Su.ug,e1,q]
end K42
namespace Am
open Su (Es En)
open Po (Pl iv)
abbrev fzO:O->O
 | .dct c=>.dcf c
 | .nX c=>.dkf c
 | o=>o
def Ul(o:O):fzO (fzO o)=fzO o:=by cases o<;>rfl
structure Kz (P Q:Nat->Prop)(S S':jT):Prop where
 len:S.length<=S'.length
 obj:∀(n:Nat) (o:O),¬P n->S[n]?=some o->S'[n]?=some o\/(¬Q n/\S'[n]?=some (fzO o))
section
variable {P Q P' Q':Nat->Prop}{S S1 S2:jT}{n:Nat}
def Kp.kz(h:Kp P S S1):Kz P Q S S1:=⟨h.len,λn o a b=>.inl<|h.obj n o a b⟩
def Kz.refl:Kz P Q S S:=Kp.refl.kz
def Kz.old(h:Kz P Q S S1)(h':Kz P' Q' S1 S2)(J:∀n,n<S.length->¬P n->¬P' n)(U:∀n,n<S.length->Q n->Q' n):Kz P Q S S2:=⟨bD h.len h'.len,λn o hn e=>by
 have lt:=wV e;have f:=J n lt hn
 rcases h.obj n o hn e with z|⟨q,z⟩
 ·rcases h'.obj n o f z with y|⟨d,y⟩
  ·exact .inl y
  ·exact .inr ⟨λc=>d<|U n lt c,y⟩
 ·rcases h'.obj n _ f z with y|⟨d,y⟩
  ·exact .inr ⟨q,y⟩
  ·exact .inr ⟨q,by rw[y,Ul]⟩⟩
def Kz.dct(h:Kz P Q S S1)(J:¬P n)(U:Q n)(e:kj S n=some xs):kj S1 n=some xs:=tB (by
 rcases h.obj n _ J (mL e)with z|⟨q,_⟩
 ·exact z
 ·exact absurd U q)
def Kz.dk(h:Kz P Q S S1)(J:¬P n)(U:Q n)(e:kQ S n=some xs):kQ S1 n=some xs:=rV (by
 rcases h.obj n _ J (mK e)with z|⟨q,_⟩
 ·exact z
 ·exact absurd U q)
def Ra(h:mq S n=some kvs):S[n]?=some (.dct kvs)\/S[n]?=some (.dcf kvs):=by
 unfold mq at h;split at h
 ·rename_i e;cases h;exact .inl e
 ·rename_i e;cases h;exact .inr e
 ·cases h
def RA(h:S[n]?=some (.dct kvs)\/S[n]?=some (.dcf kvs)):mq S n=some kvs:=by
 unfold mq
 rcases h with z|z<;>rw[z]
def JN(h:kH S n=some kvs):S[n]?=some (.nX kvs)\/S[n]?=some (.dkf kvs):=by
 unfold kH at h;split at h
 ·rename_i e;cases h;exact .inl e
 ·rename_i e;cases h;exact .inr e
 ·cases h
def Io(h:S[n]?=some (.nX kvs)\/S[n]?=some (.dkf kvs)):kH S n=some kvs:=by
 unfold kH
 rcases h with z|z<;>rw[z]
def wF(h:kj S n=some kvs):mq S n=some kvs:=RA<|.inl<|mL h
def xG(h:kQ S n=some kvs):kH S n=some kvs:=Io<|.inl<|mK h
def Kz.dcr(h:Kz P Q S S1)(J:¬P n)(e:mq S n=some xs):mq S1 n=some xs:=RA (by
 rcases Ra e with e|e<;>rcases h.obj n _ J e with z|⟨_,z⟩
 ·exact .inl z
 ·exact .inr z
 ·exact .inr z
 ·exact .inr z)
def Kz.Qh(h:Kz P Q S S1)(J:¬P n)(e:kH S n=some xs):kH S1 n=some xs:=Io (by
 rcases JN e with e|e<;>rcases h.obj n _ J e with z|⟨_,z⟩
 ·exact .inl z
 ·exact .inr z
 ·exact .inr z
 ·exact .inr z)
def Kz.fz{f:O}(h:Kz P Q S S1)(hf:∀o,S1[n]?=some o->fzO o=f)(J:¬Q n\/S.length<=n):Kz P Q S (S1.set n f):=⟨by rw[cE];exact h.len,λm o d e=>by
 by_cases c:n=m
 ·subst c;have lt:=wV e;have g:¬Q n:=J.elim id λz=>absurd lt ();refine .inr ⟨g,?_⟩;rw[bO<|bN lt h.len]
  rcases h.obj n o d e with z|⟨_,z⟩
  ·rw[hf _ z]
  ·have:=hf _ z;rw[Ul]at this;rw[this]
 ·rw[bM c];exact h.obj m o d e⟩
def Kz.fzD(h:Kz P Q S S1)(hn:mq S1 n=some kvs)(J:¬Q n\/S.length<=n):Kz P Q S (S1.set n<|.dcf kvs):=h.fz (λo e=>by
 rcases Ra hn with z|z<;>rw[z]at e<;>cases e<;>rfl) J
def Kz.fzK(h:Kz P Q S S1)(hn:kH S1 n=some kvs)(J:¬Q n\/S.length<=n):Kz P Q S (S1.set n<|.dkf kvs):=h.fz (λo e=>by
 rcases JN hn with z|z<;>rw[z]at e<;>cases e<;>rfl) J
def HX(h:kH S n=some kvs):kH (S.set n<|.dkf kvs) n=some kvs:=Io<|.inr<|bO<|Cg h
def zu(h:kj S n=some xs)(h':kH S m=some ys):m≠n:=λz=>by
 subst z;have e:=mL h
 rcases JN h' with z|z<;>rw[z]at e<;>cases e
end
structure Rw (Q:Nat->Prop)(T:jT)(r:Nat)(es:Es):Prop where
 l:mq T r=some (es.map Su.kv)
 a:∀e∈es,kH T e.2.1=some (iv e.2.2)/\¬Q e.2.1
 q:¬Q r
def Rw.go{G J P Q':Nat->Prop}{T:jT}{r:Nat}(h:Rw G T r es)(k:Kz P Q' T T')(U:∀n,n<T.length->P n->G n)(hg:∀n,n<T.length->J n->G n):Rw J T' r es:=by
 have c:=Py h.l;refine⟨k.dcr (λz=>h.q<|U _ c z) h.l,λe f=>?_,λz=>h.q<|hg _ c z⟩;obtain⟨a,b⟩:=h.a e f;have d:=Cg a;exact⟨k.Qh (λz=>b<|U _ d z) a,λz=>b<|hg _ d z⟩
structure Md (T:jT)(M c:Nat)(D:Es):Prop where
 dd:kj T M=some (D.map Su.kv)
 aa:∀e∈D,kQ T e.2.1=some (iv e.2.2)
 ap:Su.Ap D
 np:∀e∈D,(e.2.2.map Prod.fst).Nodup
 ln:∀e∈D,e.2.2.length<=c
abbrev ow (M:Nat)(D:Es)(x:Nat):Prop:=x=M\/∃e∈D,e.2.1=x
def Md.QW{T:jT}{c x:Nat}{D:Es}(h:Md T M c D)(z:ow M D x):x<T.length:=by
 rcases z with z|⟨e,d,z⟩
 ·rw[z];exact Su.oS h.dd
 ·rw[<- z];exact DG<|h.aa e d
def Md.kz{P Q:Nat->Prop}{c:Nat}{D:Es}(h:Md T M c D)(k:Kz P Q T T')(J:∀x,ow M D x->¬P x/\Q x):Md T' M c D:=
 ⟨k.dct (J _<|.inl rfl).1 (J _<|.inl rfl).2 h.dd,λe d=>k.dk (J _<|.inr ⟨e,d,rfl⟩).1 (J _<|.inr ⟨e,d,rfl⟩).2<|h.aa e d,h.ap,h.np,h.ln⟩
def Md.mono{c:Nat}{D:Es}(h:Md T M c D)(l:c<=c'):Md T M c' D:=⟨h.dd,h.aa,h.ap,h.np,λe d=>bD (h.ln e d) l⟩
def eW9:jR 9 (x0::x1::x2::x3::x4::x5::x6::x7::x8::x9::xs) S=uV x9 S:=oF
def Zc:jR 10 (x0::x1::x2::x3::x4::x5::x6::x7::x8::x9::x10::xs) S=uV x10 S:=oF
def aeu{a:A}:kY 10 a (x0::x1::x2::x3::x4::x5::x6::x7::x8::x9::x10::xs) S=.ok (x0::x1::x2::x3::x4::x5::x6::x7::x8::x9::a::xs) S:=rfl
def acd:jR 11 (x0::x1::x2::x3::x4::x5::x6::x7::x8::x9::x10::x11::xs) S=uV x11 S:=oF
def abu{a:A}:kY 11 a (x0::x1::x2::x3::x4::x5::x6::x7::x8::x9::x10::x11::xs) S=.ok (x0::x1::x2::x3::x4::x5::x6::x7::x8::x9::x10::a::xs) S:=rfl
def XJ{n:Nat}(h:mq S n=some kvs):dr? (.ref n) S=some Unit.unit:=by
 show(if ((kH S n).isSome || (mq S n).isSome)=true then some Unit.unit else none)=_;rw[h];simp
def Rz{n:Nat}(h:kH S n=some kvs):dr? (.ref n) S=some Unit.unit:=by
 show(if ((kH S n).isSome || (mq S n).isSome)=true then some Unit.unit else none)=_;rw[h];simp
def Gg{n:Nat}{o:ag}:xX (.ref n) [.tup<|o.map .int,y] S=opt (mq S n) λkvs=>.ok ((lg kvs o).getD y) S:=by
 show opt (mq S n) (λkvs=>opt (A.ints<|o.map .int) λk=>_)=_;rw[ints_map];rfl
def BV{n:Nat}{k:Int}:uQ (.ref n) [.int k,y] S=opt (kH S n) λkvs=>.ok ((l_ kvs k).getD y) S:=rfl
def AZ{n:Nat}{k:Int}:CD (.ref n) (.int k) S=opt (kH S n) λkvs=>opt (l_ kvs k) λv=>.ok v S:=rfl
def Lr{n:Nat}{o:ag}:z0 (.ref n) (.tup<|o.map .int) S=opt (mq S n) λkvs=>opt (lg kvs o) λv=>.ok v S:=by
 show opt (mq S n) (λkvs=>opt (A.ints<|o.map .int) λk=>_)=_;rw[ints_map];rfl
def LH{c:Ex}{S1:jT}{n:Nat}{p:Pl}(h:c τ S=.ok (.ref n) S1)(hn:kH S1 n=some (iv p)):QZ c τ S=.ok (pQ<|p.map λq=>.int q.1) (S1.set n<|.dkf<|iv p):=by
 unfold QZ;rw[h,R.oq];show opt (kH S1 n) _=_;rw[hn,kg];unfold iv;rw[bB];rfl
def EA{c:Ex}{S1:jT}{n:Nat}{es:Es}(h:c τ S=.ok (.ref n) S1)(hn:mq S1 n=some (es.map Su.kv)):Nx c τ S=.ok (pQ<|es.map λe=>.tup<|e.1.map .int) (S1.set n<|.dcf<|es.map Su.kv):=by
 unfold Nx;rw[h,R.oq];show opt (mq S1 n) _=_;rw[hn,kg,bB];rfl
end Am
namespace He
open PySem L2 Am Po
open Fw (Two rg DE)
open Su (mC Ps cS Gd vS toS adds bx)
abbrev Z (k:Nat)(f:Fn):Fn:=λo t=>L k f o t-dl (f o) t
abbrev Zw (w:am)(f:Fn):Fn:=w.foldl (λf k=>Z k f) f
def aeJ{n k:Nat}{f g:Fn}(h:mV n f g)(h0:1<=k)(h1:k<n):mV n (Z k f) (Z k g):=λo p t=>by
 unfold Z;rw[YL h h0 h1 o p t,show f o=g o from funext λt=>h o p t]
theorem Hh{n:Nat}:∀{w:am}{f g:Fn},Va n w->mV n f g->mV n (Zw w f) (Zw w g)
 | [],_,_,_,h=>h
 | k::w,f,g,v,h=>Hh (w:=w) (λj c=>v j<|aN _ c)<|aeJ h (v k<|aL ..).1 (v k<|aL ..).2
def ad6(k:Nat)(f:Fn)(o:ag)(t:Int):L k (λo t=>dl (f o) t) o t=dl (L k f o) t:=by
 unfold L dl;dsimp only;split<;>lia
def adb(k:Nat)(f g:Fn)(o:ag)(t:Int):L k (λo t=>f o t-g o t) o t=L k f o t-L k g o t:=by
 unfold L dl;dsimp only;split<;>lia
def Y_Z{n k:Nat}(f:Fn)(h0:1<=k)(h1:k<n)(h2:1<=j)(h3:j<n):mV n (Y k<|Z j f) (Z j<|Y k f):=λo p t=>by
 have a:X k (Z j f) o t=X k (L j f) o t-dl (X k f o) t:=by
  have:=Yp k (L j f) (λo t=>dl (f o) t) o t;rw[abo]at this;exact this
 have b:L j (Y k f) o t=L j (X k f) o t-dl (L j f o) t:=by
  have:=adb j (X k f) (λo t=>dl (f o) t) o t;rw[ad6]at this;exact this
 show X k (Z j f) o t-dl (Z j f o) t=L j (Y k f) o t-dl (Y k f o) t;rw[a,b,comm f p h0 h1 h2 h3 t];unfold Y Z dl;dsimp only
 lia
theorem acC{n k:Nat}(h0:1<=k)(h1:k<n):∀{w:am}{f:Fn},Va n w->mV n (Zw w<|Y k f) (Y k<|Zw w f)
 | [],_,_=>.refl
 | j::w,f,v=>by
  have v1:=v j<|aL ..;have v2:Va n w:=λi hi=>v i<|aN _ hi;exact(Hh v2 (Y_Z f h0 h1 v1.1 v1.2).symm).trans (acC h0 h1 (w:=w) (f:=Z j f) v2)
def PN{n k:Nat}(h0:1<=k)(h1:k<n):mC (rg n) k=false:=by
 refine bq ?_;rw[aK,Wd.oJ<|show k-1<n by lia,aK,Wd.oJ h1];show ¬((k-1:Nat):Int)+1>(k:Int)+1
 lia
def Cj(n:Nat):cS (one n)=D (rg n) d0:=by
 have z:cS (one n)=add (D (rg n)<|cf [((0:Int),(1:Int))]) (λ_ _=>0):=Ep _ _;rw[z]
 funext u s
 show D (rg n) (cf [((0:Int),(1:Int))]) u s+0=_;rw[b8];unfold D;split
 ·rw[<- X9,RL]
 ·rfl
def ac2{n k:Nat}(h0:1<=k)(h1:k<n):mV n (Z k<|cS<|one n) (Y k<|cS<|one n):=λo p t=>by
 have f1:=PN (n:=n) h0 h1;have e:(rg n).map (Wd.sw k)=Wd.ex (rg n) k:=K9 (oV n) h0 h1 (.inl ⟨by
  rw[aK,Wd.oJ<|show k-1<n by lia];show((k-1:Nat):Int)+1=k
  lia,by
  rw[aK,Wd.oJ h1];rfl⟩)
 show L k (cS<|one n) o t-_=X k (cS<|one n) o t-_;rw[Cj,L_D d0 (oV n) h0 h1 o p t,X_D d0 (oV n) h0 h1 o p t,Dw,f1,e]
theorem P6{n:Nat}:∀{w:am},Va n w->mV n (Zw w<|cS<|one n) (Yw w.reverse<|cS<|one n)
 | [],_=>.refl
 | k::w,v=>by
  have v1:=v k<|aL ..;have v2:Va n w:=λi hi=>v i<|aN _ hi;rw[c5,KG];exact(Hh v2<|ac2 v1.1 v1.2).trans ((acC v1.1 v1.2 v2).trans<|ZU (P6 v2) v1.1 v1.2)
abbrev XF (f:Fn):Fn:=λo t=>f (bk o) t
def ad3{n k:Nat}(f:Fn)(h0:1<=k)(h1:k<n):mV n (XF<|Y k f) (Z k<|XF f):=λo p t=>by
 show f (Wd.ex (bk o) k) t+(if mC (bk o) k=true then dl (f<|bk o) t else 0)-dl (f<|bk o) t=f (bk<|o.map<|Wd.sw k) t+(if mC (bk o) k=true then dl (f<|bk o) t else 0)-dl (f<|bk o) t;rw[G5 p h0 h1]
theorem Yt{n:Nat}:∀{w:am}{f:Fn},Va n w->mV n (XF<|Yw w f) (Zw w<|XF f)
 | [],_,_=>.refl
 | k::w,f,v=>by
  have v1:=v k<|aL ..;have v2:Va n w:=λi hi=>v i<|aN _ hi;exact(Yt (w:=w) (f:=Y k f) v2).trans (Hh v2<|ad3 f v1.1 v1.2)
def Z0(n:Nat):mV n (XF<|cS<|one n) (cS<|one n):=λo p t=>by
 show cS (one n) (bk o) t=_;rw[Cj];unfold D;by_cases c:o=rg n
 ·rw[c,Dw]
 ·rw[aI c,aI λz=>c<|by rw[<- oU p,z,Dw]]
def acK{n:Nat}{u:ag}(J:u.Perm<|rg n):mV n (bT n<|bk u) (XF<|bT n u):=by
 obtain⟨a,b⟩:=Bh J;have va:=Ro J;have d:Va n (sw n u).reverse:=λk f=>va k<|fR.mp f;have c:=Wd.nJ (sw n u).reverse d;rw[fF,b]at c;have e:=oW ⟨J,Eh (oV n) d,c⟩<|pX J;exact(Ak (lX J) (z_ a) e).trans ((P6 va).symm.trans<|(Hh va (Z0 n).symm).trans (Yt va).symm)
theorem XR{n:Nat}:∀{l:Ps},(∀x∈l,x.1.Perm<|rg n)->mV n (Bt n<|wb l) (XF<|Bt n l)
 | [],_=>.refl
 | e::l,pl=>λo p t=>by
  have d:=pl e<|aL ..;have i:=XR (l:=l) (λx c=>pl x<|aN _ c) o p t;show cv (turn e.2) (bT n (bk e.1) o) t+Bt n (wb l) o t=cv (turn e.2) (bT n e.1<|bk o) t+Bt n l (bk o) t;rw[i];show _=_+XF (Bt n l) o t;congr 1;exact Ez _ (acK d) o p t
end He
namespace Kl
open Su Po He
open Fw (rg)
def OD(c:Int)(g:Int->Int)(t:Int):cv [((0:Int),c)] g t=c * g t:=by
 show c * g (t-0)+0=_;rw[i_,b8]
def adj(g:Int->Int)(t:Int):cv [((1:Int),(1:Int))] g t=g (t-1):=by
 show 1 * g (t-1)+0=_;rw[jo,b8]
def aeK(g:Int->Int)(t:Int):cv [((-1:Int),(1:Int))] g t=g (t+1):=by
 show 1 * g (t - -1)+0=_;rw[jo,b8,Int.sub_neg]
def G8{n:Nat}{w:ag}(J:w.Perm<|rg n)(h:ff w=none):w=rg n:=Fw.Kr J λk c=>by
 have:=Xf h k c.1 c.2.1;have h2:=c.2.2;unfold Su.mC at this;have:=dQ this
 lia
def R9{n:Nat}:∀(i:Nat) {u:ag},u.Perm (rg n)->Iv.inv u=i->(∀t,bT n u u t=d0 t)/\∀o,o.Perm (rg n)->∀t,bT n u o t≠0->Lo n u o:=by
 intro i
 induction i with
 | zero=>
  intro u f j;have e:u=rg n:=by
   cases hf:ff u with
   | none=>exact G8 f hf
   | some k=>have:=(zR f hf).iv;lia
  subst e;have h1:mV n (bT n<|rg n) (cS<|one n):=Ak f (w:=[]) trivial rfl;refine⟨λt=>?_,λo g t h=>?_⟩
  ·rw[h1 _ f t,Cj];exact aJ rfl
  ·rw[h1 _ g t,Cj]at h;unfold D at h;by_cases c:o=rg n
   ·exact⟨g,.inl c⟩
   ·rw[aI c]at h;exact absurd rfl h
 | succ i m=>
  intro u f j
  cases hf:ff u with
  | none=>
   rw[G8 f hf]at j;have:Iv.inv (rg n)=0:=by
    have z:=G8 f hf;exact Fw.Be n
   lia
  | some k=>
   have d:=zR f hf;have iv:=d.iv;obtain⟨a,b⟩:=m d.pe ();have e:=Yi f d.h0 d.h1 d.fw;refine⟨λt=>?_,λo g t h=>?_⟩
   ·rw[e _ f t];show X k _ u t-dl _ t=_;unfold X;rw[aJ d.fw,a t]
    lia
   ·rw[e _ g t]at h;have pe:=om g d.h0 d.h1;have h':bT n (Wd.ex u k) (Wd.ex o k) t≠0\/bT n (Wd.ex u k) o (t+1)≠0\/bT n (Wd.ex u k) o (t-1)≠0:=by
     by_cases c1:bT n (Wd.ex u k) (Wd.ex o k) t=0
     ·by_cases c2:bT n (Wd.ex u k) o (t+1)=0
      ·refine .inr<|.inr λc3=>h ?_;show X k _ o t-dl _ t=_;unfold X dl;rw[c1,c2,c3];split<;>rfl
      ·exact .inr<|.inl c2
     ·exact .inl c1
    rcases h' with z|z|z
    ·have:=Qt d (b _ pe t z)
     rwa [Fw.se d.h0<|by rw[g.length_eq,Wd.j_];exact d.h1]at this
    ·exact zH d (b _ g _ z)
    ·exact zH d<|b _ g _ z
theorem TR{n:Nat}(J:∀t,bT n o o t=d0 t)(t:Int):∀{m:Ps},(∀e∈m,e.1=o\/∀t,bT n e.1 o t=0)->Bt n m o t=cS m o (-t)
 | [],_=>rfl
 | e::m,h=>by
  have f:=TR J t (m:=m) λx d=>h x<|aN _ d;show cv (turn e.2) (bT n e.1 o) t+Bt n m o t=(if e.1=o then cf e.2 (-t)else 0)+cS m o (-t);rw[f];congr 1;by_cases c:e.1=o
  ·rw[aJ c,c,show bT n o o=d0 from funext J,X9,FE]
  ·rw[aI c]
   rcases h e (aL ..)with z|z
   ·exact absurd z c
   ·rw[show bT n e.1 o=λ_=>0 from funext z,wc]
structure Kept (n:Nat)(w:ag)(m:Ps):Prop where
 pm:∀x∈m,x.1.Perm (rg n)
 bar:mV n (Bt n m) (cS m)
 me:∀t,cS m w t=d0 t
 sm:∀o,o.Perm (rg n)->o≠w->∀t,t<=0->cS m o t=0
 lo:∀o,o.Perm (rg n)->∀t,cS m o t≠0->Lo n w o
def Kept.eq{n:Nat}{w:ag}{J:Ps}(U:w.Perm<|rg n)(h:Kept n w m)(pm:∀x∈J,x.1.Perm<|rg n)(e:mV n (cS J)<|cS m):Kept n w J:=
 ⟨pm,λo p t=>by rw[JW n<|J1 pm h.pm e,h.bar o p t,e o p t],λt=>by rw[e w U t];exact h.me t,λo p c t d=>by rw[e o p t];exact h.sm o p c t d,λo p t z=>by rw[e o p t]at z;exact h.lo o p t z⟩
theorem MT(q:ag->Bool)(o:ag)(t:Int):∀m:Ps,cS (m.filter λe=>q e.1) o t=if q o=true then cS m o t else 0
 | []=>by split<;>rfl
 | e::m=>by
  have f:=MT q o t m;rw[bZ];by_cases c:q e.1=true
  ·rw[aJ c];show(if e.1=o then _ else _)+cS _ o t=_;rw[f];by_cases d:q o=true
   ·rw[aJ d,aJ d];rfl
   ·rw[aI d,aI d,aI λz=>d<|by rw[<- z];exact c];rfl
  ·rw[aI c,f];by_cases d:q o=true
   ·rw[aJ d,aJ d];show _=(if e.1=o then _ else _)+cS m o t;rw[aI λz=>c<|by rw[z];exact d,bW]
   ·rw[aI d,aI d]
def Kept.uniq{n:Nat}{w:ag}(h:Kept n w m)(h':Kept n w m'):mV n (cS m) (cS m'):=by
 obtain⟨d,C⟩:∃d,d=m++OJ [((0:Int),(-1:Int))] m':=⟨_,rfl⟩;have B:∀o t,cS d o t=cS m o t-cS m' o t:=λo t=>by
  rw[C,oO,BH];show _+cv [((0:Int),(-1:Int))] (cS m' o) t=_;rw[OD];lia
 have G:∀x∈d,x.1.Perm (rg n):=λx J=>by
  rw[C]at J
  rcases br.mp J with z|z
  ·exact h.pm x z
  ·obtain⟨y,P,rfl⟩:=aW.mp z;exact h'.pm y P
 have N:mV n (Bt n d) (cS d):=λo p t=>by
  rw[B,C,Ck,Ec];show Bt n m o t+cv (turn [((0:Int),(-1:Int))]) (Bt n m' o) t=_;rw[show turn [((0:Int),(-1:Int))]=[((0:Int),(-1:Int))]from rfl,OD,h.bar o p t,h'.bar o p t];lia
 have L:∀o,o.Perm (rg n)->∀t,t<=0->cS d o t=0:=λo p t K=>by
  rw[B];by_cases c:o=w
  ·rw[c,h.me,h'.me];lia
  ·rw[h.sm o p c t K,h'.sm o p c t K];rfl
 have j:∀(i:Nat) (o:ag),o.Perm (rg n)->n * n-Iv.inv o=i->∀t,cS d o t=0:=by
  intro i
  induction i using Nat.strongRecOn with
  | ind i U=>
   intro o f hi t;have k:=(R9 _ f rfl).1;have iv:∀u:ag,u.Perm (rg n)->Iv.inv u<=n * n:=λu g=>by
    have:=yG u;rw[g.length_eq,Wd.j_]at this;have:n * (n-1)<=n * n:=Nat.mul_le_mul_left _ ()
    lia
   have O:∀u s,Iv.inv o<Iv.inv u->cS d u s=0:=λu s V=>by
    by_cases g:u.Perm (rg n)
    ·have:=iv u g;exact U (n * n-Iv.inv u) () u g rfl s
    ·exact off G g s
   have e1:∀u s,cS d u s=cS (d.filter λe=>decide<|Iv.inv e.1<=Iv.inv o) u s:=λu s=>by
    rw[MT λu=>decide<|Iv.inv u<=Iv.inv o];by_cases c:Iv.inv u<=Iv.inv o
    ·rw[aJ<|a_ c]
    ·rw[aI λz=>c<|bP z,O u s ()]
   have M:∀t,cS d o t=cS d o (-t):=λt=>by
    rw[<- N o f t,JW n e1,TR k t λe F=>?_,<- e1];have h1:=bP (bK.mp F).2;have T:=G e (bK.mp F).1;by_cases c:e.1=o
    ·exact .inl c
    ·refine .inr λt=>?_;by_cases z:bT n e.1 o t=0
     ·exact z
     ·rcases((R9 _ T rfl).2 o f t z).2 with q|q
      ·exact absurd q.symm c
      ·lia
   rcases Int.le_total t 0 with z|z
   ·exact L o f t z
   ·rw[M t];exact L o f _ ()
 intro o f t;have:=j _ o f rfl t;rw[B]at this
 lia
def Kept.back{n:Nat}{w:ag}(J:w.Perm<|rg n)(h:Kept n w m):Kept n (bk w) (wb m):=by
 have pm:∀x∈wb m,x.1.Perm (rg n):=λx d=>by
  obtain⟨y,f,rfl⟩:=aW.mp d;exact lX<|h.pm y f
 refine⟨pm,λo p t=>?_,λt=>?_,λo p c t e=>?_,λo p t z=>?_⟩
 ·rw[XR h.pm o p t,zG p t h.pm];exact h.bar _ (lX p) t
 ·rw[zG (lX J) t h.pm,oU J];exact h.me t
 ·rw[zG p t h.pm];exact h.sm _ (lX p) (λz=>c<|by rw[<- z,oU p]) t e
 ·rw[zG p t h.pm]at z;obtain⟨_,q⟩:=h.lo _ (lX p) t z;refine⟨p,?_⟩
  rcases q with q|q
  ·exact .inl (by rw[<- q,oU p])
  ·exact .inr<|by rw[Fb p]at q;rw[Fb J];exact q
abbrev Tk (g:ag->Ps)(T:List<|ag×Int):Ps:=T.flatMap λz=>OJ [((0:Int),-z.2)]<|g z.1
def D7(g:ag->Ps)(z:ag×Int)(T:List<|ag×Int):Tk g (z::T)=OJ [((0:Int),-z.2)] (g z.1)++Tk g T:=rfl
def pZ(g:ag->Ps)(z:ag×Int)(T:List<|ag×Int)(o:ag)(t:Int):cS (Tk g (z::T)) o t=-z.2 * cS (g z.1) o t+cS (Tk g T) o t:=by
 rw[D7,oO,BH];show cv [((0:Int),-z.2)] (cS (g z.1) o) t+_=_;rw[OD]
def acP{n:Nat}{g:ag->Ps}{T:List<|ag×Int}(h:∀z∈T,∀x∈g z.1,x.1.Perm<|rg n):∀x∈Tk g T,x.1.Perm (rg n):=λx c=>by
 obtain⟨z,e,c⟩:=gE.mp c;obtain⟨y,d,rfl⟩:=aW.mp c;exact h z e y d
theorem Rj{n:Nat}{g:ag->Ps}:∀{T:List<|ag×Int},(∀z∈T,mV n (Bt n<|g z.1)<|cS<|g z.1)->mV n (Bt n<|Tk g T) (cS<|Tk g T)
 | [],_=>.refl
 | z::T,h=>λo p t=>by
  have d:=Rj (T:=T) (λy c=>h y<|aN _ c) o p t;rw[pZ,D7,Ck,Ec];show cv (turn [((0:Int),-z.2)]) (Bt n (g z.1) o) t+Bt n (Tk g T) o t=_;rw[show turn [((0:Int),-z.2)]=[((0:Int),-z.2)]from rfl,OD,h z (aL ..) o p t,d]
theorem ux{g:ag->Ps}{t:Int}:∀{T:List<|ag×Int},(∀z∈T,cS (g z.1) o t=0)->cS (Tk g T) o t=0
 | [],_=>rfl
 | z::T,h=>by
  rw[pZ,h z<|aL ..,ux λy c=>h y<|aN _ c];lia
theorem OM{g:ag->Ps}{t:Int}{c:Int}:∀{T:List<|ag×Int},(T.map Prod.fst).Nodup->(∀z∈T,cS (g z.1) o t=if z.1=o then 1 else 0)->(o,c)∈T->cS (Tk g T) o t=-c
 | [],_,_,h=>nomatch h
 | z::T,nd,h,hm=>by
  have d:z.1∉T.map Prod.fst/\(T.map Prod.fst).Nodup:=cN.mp nd;rw[pZ,h z<|aL ..]
  rcases bG.mp hm with e|e
  ·subst e;rw[aJ rfl,ux λy f=>?_]
   ·lia
   ·rw[h y<|aN _ f,aI];exact λz=>d.1<|by rw[<- z];exact aW.mpr ⟨y,f,rfl⟩
  ·have j:z.1≠o:=λq=>d.1 (by rw[q];exact aW.mpr ⟨_,e,rfl⟩);rw[aI j,OM d.2 (λy f=>h y<|aN _ f) e];lia
structure Tks (n k:Nat)(f:Ps)(g:ag->Ps)(T:List (ag×Int)):Prop where
 nd:(T.map Prod.fst).Nodup
 mem:∀z∈T,z.1.Perm (rg n)/\mC z.1 k=true/\z.2=cS f z.1 1/\z.2≠0
 all:∀o,o.Perm (rg n)->mC o k=true->cS f o 1≠0->(o,cS f o 1)∈T
 kep:∀z∈T,Kept n z.1<|g z.1
abbrev sR (k:Nat)(f:Ps)(g:ag->Ps)(T:List<|ag×Int):Ps:=bx k f++(OJ [((1:Int),(1:Int))] f++Tk g T)
def DL{n k:Nat}{f:Ps}{g:ag->Ps}(J:∀x∈f,x.1.Perm<|rg n)(h0:1<=k)(h1:k<n){o:ag}(U:o.Perm<|rg n)(t:Int):cS (sR k f g T) o t=X k (cS f) o t+cS f o (t-1)+cS (Tk g T) o t:=by
 unfold sR;rw[oO,oO,Vh J h0 h1 o U t,BH];show _+(cv [((1:Int),(1:Int))] (cS f o) t+_)=_;rw[adj];lia
def Kept.QM{n k:Nat}{w:ag}{f:Ps}{g:ag->Ps}(pw:w.Perm<|rg n)(d:Dn n w k)(hf:Kept n (Wd.ex w k) f)(U:Tks n k f g T):Kept n w (sR k f g T):=by
 have iv:=d.iv;have J:∀z∈T,Lo n (Wd.ex w k) z.1/\Iv.inv z.1<Iv.inv (Wd.ex w k):=λz j=>by
  obtain⟨a,b,c,e⟩:=U.mem z j;have l:=hf.lo z.1 a 1 (by rw[<- c];exact e);refine⟨l,?_⟩
  rcases l.2 with q|q
  ·rw[q,d.fe]at b;cases b
  ·exact q
 have fw:∀t,cS f w t=0:=λt=>by
  by_cases c:cS f w t=0
  ·exact c
  ·have:=(hf.lo w pw t c).le;lia
 have N:∀t,cS (Tk g T) w t=0:=λt=>ux λz j=>by
  by_cases c:cS (g z.1) w t=0
  ·exact c
  ·have:=((U.kep z j).lo w pw t c).le;have:=(J z j).2
   lia
 refine⟨λx O=>?_,λo p t=>?_,λt=>?_,λo p L t K=>?_,λo p t z=>?_⟩
 ·rcases br.mp O with z|z
  ·exact J8 d.h0 d.h1 hf.pm x z
  ·rcases br.mp z with z|z
   ·obtain⟨y,B,rfl⟩:=aW.mp z;exact hf.pm y B
   ·exact acP (λz j=>(U.kep z j).pm) x z
 ·rw[DL hf.pm d.h0 d.h1 p];unfold sR;rw[Ck,Ck,Ec];show Bt n (bx k f) o t+(cv (turn [((1:Int),(1:Int))]) (Bt n f o) t+Bt n (Tk g T) o t)=_;rw[show turn [((1:Int),(1:Int))]=[((-1:Int),(1:Int))]from rfl,aeK,acG d.h0 d.h1 hf.pm o p t,ZU hf.bar d.h0 d.h1 o p t,hf.bar o p<|t+1,Rj (λz j=>(U.kep z j).bar) o p t];show X k (cS f) o t-(cS f o (t+1)-cS f o (t-1))+_=_
  lia
 ·rw[DL hf.pm d.h0 d.h1 pw,fw,N];unfold X dl;rw[aJ d.fw,fw,fw,hf.me]
  lia
 ·rw[DL hf.pm d.h0 d.h1 p];have F:=om p d.h0 d.h1;have lo:o.length=n:=by rw[p.length_eq,Wd.j_]
  have C:Wd.ex o k≠Wd.ex w k:=λz=>L (by rw[<- d.ee,<- z,Fw.se d.h0<|by rw[lo];exact d.h1]);have e1:cS f (Wd.ex o k) t=0:=hf.sm _ F C t K;have go:t<0->cS (Tk g T) o t=0:=λh=>ux λz j=>by
   by_cases c:o=z.1
   ·rw[c,(U.kep z j).me];exact aI ()
   ·exact(U.kep z j).sm o p c t K
  have g0:∀z∈T,cS (g z.1) o 0=if z.1=o then 1 else 0:=λz j=>by
   by_cases c:z.1=o
   ·rw[aJ c,<- c,(U.kep z j).me];rfl
   ·rw[aI c];exact(U.kep z j).sm o p (λq=>c q.symm) 0 (le_refl _)
  unfold X dl;rw[e1];by_cases m:mC o k=true
  ·have M:o≠Wd.ex w k:=λz=>by rw[z,d.fe]at m;cases m
   rw[aJ m];by_cases h0:t=0
   ·subst h0;by_cases c:cS f o 1=0
    ·rw[show(0:Int)+1=1 from rfl,c,ux λz j=>?_]
     ·lia
     ·rw[g0 z j,aI];intro q;obtain⟨_,_,a,b⟩:=U.mem z j;rw[q,c]at a;exact b a
    ·rw[OM U.nd g0<|U.all o p m c,show(0:Int)+1=1 from rfl];lia
   ·rw[hf.sm o p M (t+1) (),go ()];lia
  ·rw[aI m];have e2:cS f o (t-1)=0:=by
    by_cases c:o=Wd.ex w k
    ·rw[c,hf.me];exact aI ()
    ·exact hf.sm o p c _ ()
   rw[e2];by_cases h0:t=0
   ·subst h0;rw[ux λz j=>?_]
    ·rfl
    ·rw[g0 z j,aI];intro q;exact m<|by rw[<- q];exact(U.mem z j).2.1
   ·rw[go ()];rfl
 ·rw[DL hf.pm d.h0 d.h1 p]at z;have F:=om p d.h0 d.h1;have lo:o.length=n:=by rw[p.length_eq,Wd.j_]
  by_cases c1:cS f (Wd.ex o k) t=0
  ·by_cases c2:cS f o (t+1)=0
   ·by_cases c3:cS f o (t-1)=0
    ·have G:cS (Tk g T) o t≠0:=λG=>z (by unfold X dl;rw[c1,c2,c3,G];split<;>rfl);by_cases q:∃y∈T,cS (g y.1) o t≠0
     ·obtain⟨y,B,q⟩:=q;exact XG (zH d (J y B).1) ((U.kep y B).lo o p t q)
     ·exact absurd (ux λy B=>eZ λh=>q ⟨y,B,h⟩) G
    ·exact zH d<|hf.lo o p _ c3
   ·exact zH d<|hf.lo o p _ c2
  ·have:=Qt d (hf.lo _ F t c1)
   rwa [Fw.se d.h0<|by rw[lo];exact d.h1]at this
end Kl
namespace Kl
open Su Po He
open Fw (rg)
structure Nd (D:Ps):Prop where
 nd:(D.map Prod.fst).Nodup
 np:∀e∈D,(e.2.map Prod.fst).Nodup
def Td{D:Ps}(h:(D.map Prod.fst).Nodup){e:ag×Pl}(J:e∈D)(t:Int):cS D e.1 t=cf e.2 t:=by
 induction D with
 | nil=>cases J
 | cons x D d=>
  have nd:x.1∉D.map Prod.fst/\(D.map Prod.fst).Nodup:=cN.mp h;show(if x.1=e.1 then cf x.2 t else 0)+cS D e.1 t=_
  rcases bG.mp J with z|z
  ·subst z;rw[aJ rfl,yq λy c q=>nd.1<|by rw[<- q];exact aW.mpr ⟨y,c,rfl⟩,b8]
  ·rw[aI λq=>nd.1<|by rw[q];exact aW.mpr ⟨e,z,rfl⟩,bW];exact d nd.2 z
theorem Nd.val{D:Ps}(h:Nd D){e:ag×Pl}(J:e∈D)(t:Int):val e.2 t=cS D e.1 t:=by rw[Td h.nd J,zh<|h.np e J]
def Nd.has{D:Ps}{t:Int}(h:cS D o t≠0):∃e∈D,e.1=o:=eZ λq=>h<|yq λe c z=>q ⟨e,c,z⟩
abbrev Tl (q:ag->Bool)(l:Ps):List (ag×Int):=(l.filter λe=>decide (val e.2 1≠0) && q e.1).map λe=>(e.1,val e.2 1)
def PY{n k:Nat}{f:Ps}{g:ag->Ps}(h:Nd f)(J:∀x∈f,x.1.Perm<|rg n)(q:ag->Bool)(hg:∀e∈f,q e.1=true->Kept n e.1 (g e.1)) :
  ((Tl q f).map Prod.fst).Nodup/\(∀z∈Tl q f,z.1.Perm (rg n)/\q z.1=true/\z.2=cS f z.1 1/\z.2≠0)/\(∀o,o.Perm (rg n)->q o=true->cS f o 1≠0->(o,cS f o 1)∈Tl q f)/\∀z∈Tl q f,Kept n z.1 (g z.1):=by
 have j:∀z∈Tl q f,∃e∈f,z=(e.1,val e.2 1)/\val e.2 1≠0/\q e.1=true:=λz d=>by
  obtain⟨e,c,rfl⟩:=aW.mp d;obtain⟨a,b⟩:=bK.mp c;rw[b_]at b;exact⟨e,a,rfl,bP b.1,b.2⟩
 refine⟨?_,λz d=>?_,λo p m hc=>?_,λz d=>?_⟩
 ·unfold Tl;rw[bB];exact jk (jD _ i8) h.nd
 ·obtain⟨e,c,rfl,a,b⟩:=j z d;exact⟨J e c,b,h.val c 1,a⟩
 ·obtain⟨e,c,rfl⟩:=Nd.has hc;refine aW.mpr ⟨e,bK.mpr ⟨c,?_⟩,by rw[h.val c]⟩;rw[b_];exact⟨a_<|by rw[h.val c];exact hc,m⟩
 ·obtain⟨e,c,rfl,a,b⟩:=j z d;exact hg e c b
def ac4{D:Ps}(h:Gd D):Nd D:=⟨h.nd,λe c=>(h.ok e c).nd⟩
theorem E7{n k:Nat}{g:ag->Ps}(o:ag)(t:Int):∀{l told:Ps},(∀x∈told,x.1.Perm<|rg n)->(∀e∈l,∀x∈g e.1,x.1.Perm<|rg n)->cS (l.foldl (step k g) told) o t=cS told o t+cS (Tk g<|Tl (λu=>mC u k) l) o t
 | [],told,_,_=>(b8 _).symm
 | e::l,told,h,h'=>by
  have h2:∀x∈l,∀y∈g x.1,y.1.Perm (rg n):=λx d=>h' x<|aN _ d;rw[cW];unfold Tl;by_cases c:val e.2 1≠0/\mC e.1 k=true
  ·rw[show step k g told e=w6 told (C7 [((0:Int),-val e.2 1)]<|g e.1)from aJ c,bZ,aJ<|by rw[b_];exact⟨a_ c.1,c.2⟩,bH,pZ];obtain⟨_,p2,p3⟩:=AX h (D5 (p:=[((0:Int),-val e.2 1)])<|h' e<|aL ..).2;rw[E7 o t p2 h2,p3,EC];show cS told o t+cv [((0:Int),-val e.2 1)] (cS (g e.1) o) t+_=_;rw[OD];show cS told o t+-val e.2 1 * cS (g e.1) o t+cS (Tk g<|Tl (λu=>mC u k) l) o t=cS told o t+(-val e.2 1 * cS (g e.1) o t+cS (Tk g<|Tl (λu=>mC u k) l) o t);exact dP _ _ _
  ·rw[show step k g told e=told from aI c,bZ,aI λz=>c<|by rw[b_]at z;exact⟨bP z.1,z.2⟩];exact E7 o t h h2
def IM{n:Nat}(hn:n<6):∀(i:Nat) {w:ag},w.Perm (rg n)->Iv.inv w=i->Kept n w (K w):=by
 intro i
 induction i using Nat.strongRecOn with
 | ind i m=>
  intro w f hi
  cases hf:ff w with
  | none=>
   rw[Fx hf,G8 f hf];have e:=Cj n;refine⟨Ti n,Y3 n,λt=>?_,λo p B t _=>?_,λo p t z=>?_⟩
   ·show cS (one n) _ t=_;rw[e];exact aJ rfl
   ·show cS (one n) _ t=_;rw[e];exact aI B
   ·have z:cS (one n) o t≠0:=z;rw[e]at z;unfold D at z;by_cases c:o=rg n
    ·exact⟨p,.inl c⟩
    ·rw[aI c]at z;exact absurd rfl z
  | some k=>
   have d:=zR f hf;have iv:=d.iv;have sz:=Jp hn d.pe;have q:=m (Iv.inv<|Wd.ex w k) () d.pe rfl;have hg:∀e∈K (Wd.ex w k),Kept n e.1 (K e.1):=λe j=>by
    have l:=JE d.pe e j;have:=l.le;exact m _ () l.1 rfl
   obtain⟨C,J,F,G⟩:=PY (n:=n) (k:=k) (g:=K) (ac4 sz.cn.gd) sz.pm (λu=>mC u k) λe j _=>hg e j;refine Kept.eq f (Kept.QM (g:=K) f d q ⟨C,J,F,G⟩) (Jp hn f).pm λo p t=>?_;have fs:=AX (J8 d.h0 d.h1 sz.pm) (D5 (p:=[((1:Int),(1:Int))]) sz.pm).2;rw[Jb f hf,E7 (n:=n) (told:=first k (K<|Wd.ex w k)) o t fs.2.1 λe j=>(hg e j).pm,DL sz.pm d.h0 d.h1 p];refine dY (λz=>z+cS (Tk K<|Tl (λu=>mC u k)<|K<|Wd.ex w k) o t) ?_;show cS (w6 (bx k<|K<|Wd.ex w k)<|C7 [(1,1)]<|K<|Wd.ex w k) o t=_;rw[fs.2.2,EC];show cS (bx k<|K<|Wd.ex w k) o t+cv [((1:Int),(1:Int))] (cS (K<|Wd.ex w k) o) t=_;rw[Vh sz.pm d.h0 d.h1 o p t,adj]
def Rb{n k:Nat}{w:ag}(J:w.Perm<|rg n)(a:1<=k)(b:k<n)(c:mC w k=true):Dn n w k:=by
 have d:w.length=n:=by rw[J.length_eq,Wd.j_]
 refine⟨a,b,c,om J a b,Fw.vO a () (by have:=bP c;lia),Fw.se a (),?_⟩;rw[QU J a b,c];rfl
def Kept.ab1{n k:Nat}{w:ag}{f m:Ps}{g:ag->Ps}{T:List<|ag×Int}(pw:w.Perm<|rg n)(h0:1<=k)(h1:k<n)(hk:mC (bk w) k=true)(hf:Kept n (w.map<|Wd.sw k) f)
  (nd:(T.map Prod.fst).Nodup) (mem:∀z∈T,z.1.Perm (rg n)/\mC (bk z.1) k=true/\z.2=cS f z.1 1/\z.2≠0) (all:∀o,o.Perm (rg n)->mC (bk o) k=true->cS f o 1≠0->(o,cS f o 1)∈T) (kep:∀z∈T,Kept n z.1<|g z.1)
  (pm:∀x∈m,x.1.Perm<|rg n) (hm:∀o,o.Perm (rg n)->∀t,cS m o t=L k (cS f) o t+cS f o (t-1)+cS (Tk g T) o t):Kept n w m:=by
 have ps:=CQ pw h0 h1;have O:∀x∈wb f,x.1.Perm (rg n):=(hf.back ps).pm;have K:Kept n (Wd.ex (bk w) k) (wb f):=by rw[<- G5 pw h0 h1];exact hf.back ps
 have d:=Rb (lX pw) h0 h1 hk;have F:∀u,u.Perm (rg n)->∀t,cS (wb f) u t=cS f (bk u) t:=λu C t=>zG C t hf.pm;have M:Tks n k (wb f) (λu=>wb<|g<|bk u) (T.map λz=>(bk z.1,z.2)):=by
  refine⟨?_,λz q=>?_,λo G P hc=>?_,λz q=>?_⟩
  ·rw[bB];have J:T.Pairwise λa b=>a.1≠b.1:=cK.mp nd;refine cK.mpr<|J.imp_of_mem λ{a b} ha hb hab z=>hab ?_;have:bk (bk a.1)=bk (bk b.1):=dY bk z
   rwa [oU (mem a ha).1,oU (mem b hb).1]at this
  ·obtain⟨y,j,rfl⟩:=aW.mp q;obtain⟨a,b,c,e⟩:=mem y j;exact⟨lX a,b,by rw[F _<|lX a,oU a];exact c,e⟩
  ·rw[F o G]at hc ⊢;have:=all (bk o) (lX G) (by rw[oU G];exact P) hc;exact aW.mpr ⟨_,this,by show(bk<|bk o,_)=_;rw[oU G]⟩
  ·obtain⟨y,j,rfl⟩:=aW.mp q;have N:=(mem y j).1;show Kept n (bk y.1) (wb<|g<|bk<|bk y.1);rw[oU N];exact(kep y j).back N
 have kr:=(Kept.QM (lX pw) d K M).back<|lX pw;rw[oU pw]at kr;refine kr.eq pw pm λo p t=>?_;have pb:=lX p;have pr:=(Kept.QM (lX pw) d K M).pm;rw[hm o p t,zG p t pr,DL O h0 h1 pb];have e1:X k (cS<|wb f) (bk o) t=L k (cS f) o t:=by
  have a:mV n (cS<|wb f) (B<|cS f):=λu C s=>F u C s;rw[SW a h0 h1 _ pb t];have b:=B_X h0 h1 (B<|cS f) o p t;have c:mV n (B<|B<|cS f) (cS f):=λu C s=>by show cS f (bk<|bk u) s=_;rw[oU C]
  rw[YL c h0 h1 o p t]at b;exact b
 have e2:∀{U:List<|ag×Int},(∀z∈U,z.1.Perm (rg n)/\∀x∈g z.1,x.1.Perm<|rg n)->cS (Tk (λu=>wb<|g<|bk u)<|U.map λz=>(bk z.1,z.2)) (bk o) t=cS (Tk g U) o t:=by
  intro U
  induction U with
  | nil=>intro _;rfl
  | cons z U Y=>
   intro h;obtain⟨W,V⟩:=h z<|aL ..;rw[bH,pZ,pZ,Y λy j=>h y<|aN _ j];show -z.2 * cS (wb<|g<|bk<|bk z.1) (bk o) t+_=_;rw[oU W,zG pb t V,oU p]
 rw[e1,F _ pb,oU p,e2 λz q=>⟨(mem z q).1,(kep z q).pm⟩]
abbrev shl (s:Int)(p:Pl):Pl:=p.map λq=>(q.1+s,q.2)
theorem JL(s t:Int):∀p:Pl,cf (shl s p) t=cf p (t-s)
 | []=>rfl
 | q::p=>by
  show(if q.1+s=t then q.2 else 0)+cf (shl s p) t=(if q.1=t-s then q.2 else 0)+cf p (t-s);rw[JL s t p];congr 1;by_cases c:q.1+s=t
  ·rw[aJ c,aJ ()]
  ·rw[aI c,aI ()]
abbrev wM (k:Nat)(o:ag):Bool:=mC (bk o) k
abbrev Vn (k:Nat)(e:ag×Pl):Ps:=[(e.1.map<|Wd.sw k,e.2),(e.1,shl (if wM k e.1=true then -1 else 1) e.2)]
theorem Nk{n k:Nat}(h0:1<=k)(h1:k<n){o:ag}(J:o.Perm<|rg n)(t:Int):∀{f:Ps},(∀x∈f,x.1.Perm<|rg n)->cS (f.flatMap<|Vn k) o t=L k (cS f) o t+cS f o (t-1)
 | [],_=>by
  show(0:Int)=L k (λ_ _=>0) o t+0;unfold L dl;dsimp only;split<;>rfl
 | e::f,pf=>by
  have m:=Nk h0 h1 J t (f:=f) λx d=>pf x<|aN _ d;have g:=pf e<|aL ..;rw[dz,oO,m,Ep,acI];show(if e.1.map (Wd.sw k)=o then cf e.2 t else 0)+((if e.1=o then cf (shl (if wM k e.1=true then -1 else 1) e.2) t else 0)+0)+_=L k (D e.1<|cf e.2) o t+L k (cS f) o t+(D e.1 (cf e.2) o (t-1)+cS f o (t-1));rw[L_D (cf e.2) g h0 h1 o J t,JL];unfold D dl;have e1:(if e.1.map (Wd.sw k)=o then cf e.2 t else 0)=if o=e.1.map (Wd.sw k)then cf e.2 t else 0:=by
   by_cases c:e.1.map (Wd.sw k)=o
   ·rw[aJ c,aJ c.symm]
   ·rw[aI c,aI λz=>c z.symm]
  rw[e1];unfold wM;by_cases c:e.1=o
  ·subst c;by_cases c2:mC (bk e.1) k=true
   ·dsimp[c2,dj,aJ];rw[Int.sub_neg]
    lia
   ·dsimp[aI c2,dj,aJ]
    lia
  ·have j:¬o=e.1:=λz=>c z.symm;dsimp[aI c,aI j];split<;>lia
abbrev Cu (k:Nat)(g:ag->Ps)(e:ag×Pl):Ps:=Vn k e++if val e.2 1≠0/\wM k e.1=true then OJ [((0:Int),-val e.2 1)] (g e.1)else[]
theorem Lz{k:Nat}{g:ag->Ps}(o:ag)(t:Int):∀f:Ps,cS (f.flatMap<|Cu k g) o t=cS (f.flatMap<|Vn k) o t+cS (Tk g<|Tl (wM k) f) o t
 | []=>rfl
 | e::f=>by
  rw[dz,dz,oO,oO,Lz o t f];unfold Cu Tl;rw[oO,bZ];by_cases c:val e.2 1≠0/\wM k e.1=true
  ·rw[aJ c,aJ<|by rw[b_];exact⟨a_ c.1,c.2⟩,bH,D7,oO];show _+cS (OJ [((0:Int),-val e.2 1)]<|g e.1) o t+(_+cS (Tk g<|Tl (wM k) f) o t)=_+_+(cS (OJ [((0:Int),-val e.2 1)]<|g e.1) o t+cS (Tk g<|Tl (wM k) f) o t)
   lia
  ·rw[aI c,aI λz=>c<|by rw[b_]at z;exact⟨bP z.1,z.2⟩];show _+0+(_+cS (Tk g<|Tl (wM k) f) o t)=_+_+cS (Tk g<|Tl (wM k) f) o t
   lia
structure LK (n:Nat)(w:ag)(m:Ps):Prop extends Nd m where
 kp:Kept n w m
 nz:∀e∈m,∀q∈e.2,q.2≠0
 ne:∀e∈m,e.2≠[]
def LK.step{n k:Nat}{w:ag}{f m:Ps}(hn:n<6)(J:w.Perm<|rg n)(h0:1<=k)(h1:k<n)(U:wM k w=true)(hf:LK n (w.map<|Wd.sw k) f)(nd:Nd m)(nz:∀e∈m,∀q∈e.2,q.2≠0)(ne:∀e∈m,e.2≠[])(pm:∀x∈m,x.1.Perm<|rg n)
  (hm:∀o,o.Perm (rg n)->∀t,cS m o t=cS (f.flatMap<|Cu k K) o t):LK n w m:=by
 obtain⟨d,p,C,B⟩:=PY (n:=n) (k:=k) (g:=K) hf.toNd hf.kp.pm (wM k) λe j _=>IM hn _ (hf.kp.pm e j) rfl;exact⟨nd,Kept.ab1 (g:=K) J h0 h1 U hf.kp d p C B pm λo c t=>by rw[hm o c t,Lz,Nk h0 h1 c t hf.kp.pm],nz,ne⟩
def LK.K{n:Nat}{w:ag}(hn:n<6)(J:w.Perm<|rg n)(h:LK n w m):mV n (cS m) (cS<|Kl.K w):=h.kp.uniq<|IM hn _ J rfl
theorem Av{q:Int×Int}:∀{p:Pl},(p.map Prod.fst).Nodup->q∈p->val p q.1=q.2
 | [],_,h=>nomatch h
 | x::p,np,hq=>by
  have nd:x.1∉p.map Prod.fst/\(p.map Prod.fst).Nodup:=cN.mp np;rw[pD]
  rcases bG.mp hq with z|z
  ·rw[z,aJ rfl]
  ·rw[aI λc=>nd.1<|by rw[c];exact aW.mpr ⟨q,z,rfl⟩];exact Av nd.2 z
def LK.b{n:Nat}{w:ag}{m:Ps}(hn:n<6)(U:w.Perm<|rg n)(h:LK n w m){e:ag×Pl}(J:e∈m){q:Int×Int}(hq:q∈e.2):q.2.natAbs<=Cb 10/\q.1.natAbs<=10:=by
 have sz:=(Jp hn U).fb;have d:=h.kp.pm e J;have v:=Av (h.np e J) hq;rw[h.toNd.val J,h.K hn U _ d]at v;rw[<- v];refine⟨sz.c _ d _,?_⟩
 rcases gB 10 q.1.natAbs with z|z
 ·have:=sz.p _ d _ z;rw[v]at this;exact absurd this (h.nz e J q hq)
 ·exact z
def LK.many{n:Nat}{w:ag}{m:Ps}(hn:n<6)(h:LK n w m):m.length<=120:=by
 have:=He.many hn h.nd λo d=>by obtain⟨e,c,rfl⟩:=aW.mp d;exact h.kp.pm e c
 rwa [aG]at this
def LK.len{n:Nat}{w:ag}{m:Ps}(hn:n<6)(U:w.Perm<|rg n)(h:LK n w m){e:ag×Pl}(J:e∈m):e.2.length<=21:=by
 have:=He.CS (L:=(List.range 21).map λi:Nat=>(i:Int)-10) (h.np e J) λx d=>by
  obtain⟨q,c,rfl⟩:=aW.mp d;have:=(h.b hn U J c).2;exact aW.mpr ⟨(q.1+10).toNat,cY.mpr (),()⟩
 rwa [aG,aG,cJ]at this
def LK.one{n:Nat}{w:ag}(hn:n<6)(J:w.Perm<|rg n)(h:w=rg n):LK n w [(w,[((0:Int),(1:Int))])]:=by
 have hf:ff w=none:=by
  cases hf:ff w with
  | none=>rfl
  | some k=>obtain⟨a,b,c⟩:=DN hf;rw[h,PN a<|by rwa [h,Wd.j_]at b]at c;cases c
 have:=IM hn _ J rfl;rw[Fx hf]at this;exact⟨⟨by simp,λe d=>by rw[aP.mp d];simp⟩,this,λe d q f=>by rw[aP.mp d]at f;rw[aP.mp f];decide,λe d=>by rw[aP.mp d];exact λz=>nomatch z⟩
end Kl
namespace Kl
open Su Po He
open Fw (rg)
def Dq{D:Ps}(h:(D.map Prod.fst).Nodup)(o:ag)(t:Int):cS D o t=cf (vS D o) t:=by
 rcases vY (D:=D) (o:=o)with⟨e,c,e1,e2⟩|⟨e1,e2⟩
 ·rw[e2,<- e1];exact Td h c t
 ·rw[e2];exact yq λe c z=>e1<|by rw[<- z];exact aW.mpr ⟨e,c,rfl⟩
def Kq{D:Ps}{p:Pl}(h:(D.map Prod.fst).Nodup):((zx D o p).map Prod.fst).Nodup:=by
 rw[De];split
 ·exact h
 ·rename_i c;rw[cO];refine⟨h,by simp,λa f b d e=>?_⟩;rw[aP.mp d]at e;exact c<|T8.mpr<|by rw[<- e];exact f
def V7{D:Ps}{p:Pl}(h:(D.map Prod.fst).Nodup)(u:ag)(t:Int):cS (zx D o p) u t=if u=o then cf p t else cS D u t:=by
 rw[Dq<|Kq h,Us];split
 ·rfl
 ·rw[Dq h]
def _root_.Su.Ap.put2{D:Es}{r:Nat}{p:Pl}(h:Ap D)(J:∀e∈D,e.1≠o->e.2.1≠r):Ap (mT D o r p):=by
 unfold mT;split
 ·refine cK.mpr<|h.imp_of_mem λ{a b} d f hab=>?_;by_cases c:a.1=o
  ·rw[aJ c];have c2:b.1≠o:=λz=>hab.1<|c.trans z.symm;rw[aI c2];exact⟨hab.1,λz=>J b f c2 z.symm⟩
  ·rw[aI c];by_cases c2:b.1=o
   ·rw[aJ c2];exact⟨hab.1,λz=>J a d c z⟩
   ·rw[aI c2];exact hab
 ·rename_i hn;have no:∀e∈D,e.1≠o:=λe g z=>hn (by unfold fE;rw[gg];exact⟨e,g,a_ z⟩);refine cj.mpr ⟨h,cB _ _,λa d b f=>?_⟩;rw[aP.mp f];exact⟨no a d,J a d<|no a d⟩
def Rp{D:Es}{r:Nat}{p:Pl}{e:En}(h:e∈mT D o r p):(e∈D/\e.1≠o)\/e=(o,r,p):=by
 unfold mT at h;split at h
 ·obtain⟨f,hf,rfl⟩:=aW.mp h;by_cases c:f.1=o
  ·rw[aJ c,c];exact .inr rfl
  ·rw[aI c];exact .inl ⟨hf,c⟩
 ·rename_i hn
  rcases br.mp h with z|z
  ·exact .inl ⟨z,λc=>hn<|by unfold fE;rw[gg];exact⟨e,z,a_ c⟩⟩
  ·exact .inr<|aP.mp z
theorem Rt(s m:Int)(t:Int):∀p:Pl,cf (p.map λq=>(q.1+s,m * q.2)) t=m * cf p (t-s)
 | []=>(eu m).symm
 | q::p=>by
  show(if q.1+s=t then m * q.2 else 0)+cf (p.map _) t=m * ((if q.1=t-s then q.2 else 0)+cf p (t-s));rw[Rt s m t p,iT];congr 1;by_cases c:q.1+s=t
  ·rw[aJ c,aJ ()]
  ·rw[aI c,aI (),eu]
def We{d:Pl}(h:(d.map Prod.fst).Nodup)(t:Int):cf (pW d ps) t=cf d t+cf ps t:=by
 rw[<- zh (um ps h),vR,zh h]
theorem KA(t:Int):∀p:Pl,cf (p.filter λq=>q.2 != 0) t=cf p t
 | []=>rfl
 | q::p=>by
  rw[bZ];show _=(if q.1=t then q.2 else 0)+cf p t;by_cases c:q.2=0
  ·rw[aI<|by simp[c],KA t p,c,ite_self,bW]
  ·rw[aJ<|by simp[c]];show(if q.1=t then q.2 else 0)+cf (p.filter _) t=_;rw[KA t p]
def QA{p:Pl}(h:(p.map Prod.fst).Nodup){i:Nat}{q:Int×Int}(J:p[i]?=some q):(p.take<|i+1).filter (λq=>q.2 != 0)=if q.2≠0 then put ((p.take i).filter λq=>q.2 != 0) q.1 q.2 else(p.take i).filter λq=>q.2 != 0:=by
 rw[cL,J,List.filter_append];show _++[q].filter _=_;by_cases c:q.2=0
 ·rw[aI<|by simp[c]];simp[c]
 ·rw[aJ c];have k:has ((p.take i).filter λq=>q.2 != 0) q.1=false:=by
   rw[Bool.eq_false_iff];intro z;obtain⟨f,hf,e⟩:=aW.mp<|uz.mp z;have g:=(bK.mp hf).1;obtain⟨j,d⟩:=f_.mp g;have lt:j<i:=by
    have:=(aF.mp d).1;rw[bI]at this;lia
   rw[dN lt]at d;have e1:(p.map Prod.fst)[j]?=some q.1:=by rw[aQ,d,<- e];rfl
   have e2:(p.map Prod.fst)[i]?=some q.1:=by rw[aQ,J];rfl
   obtain⟨F,m⟩:=aF.mp e1;obtain⟨C,B⟩:=aF.mp e2;have:=(cZ h).mp (m.trans B.symm)
   lia
  unfold put;rw[aI<|by rw[k];exact bJ];simp[c]
abbrev F2 (D:Ps):Ps:=(D.map λe=>(e.1,e.2.filter λq=>q.2 != 0)).filter λe=>!e.2.isEmpty
theorem Pj(o:ag)(t:Int):∀D:Ps,cS (F2 D) o t=cS D o t
 | []=>rfl
 | e::D=>by
  have c:=Pj o t D;unfold F2 at c ⊢;rw[bH,bZ];show _=(if e.1=o then cf e.2 t else 0)+cS D o t
  cases hf:e.2.filter (λq=>q.2 != 0)with
  | nil=>
   rw[aI<|by simp,c,<- KA t e.2,hf];show _=(if e.1=o then 0 else 0)+_;rw[ite_self,bW]
  | cons q l=>
   rw[aJ<|by simp];show(if e.1=o then cf (q::l) t else 0)+cS _ o t=_;rw[c,<- hf,KA t e.2]
def YW{D:Ps}(h:Nd D):Nd (F2 D):=by
 refine⟨?_,λe c=>?_⟩
 ·have:((D.map λe=>(e.1,e.2.filter λq=>q.2 != 0)).map Prod.fst)=D.map Prod.fst:=by rw[bB];rfl
  exact jk (jD _ i8)<|by rw[this];exact h.nd
 ·obtain⟨f,hf,rfl⟩:=aW.mp (bK.mp c).1;exact jk (jD _ i8)<|h.np f hf
def ZM{D:Ps}:∀e∈F2 D,∀q∈e.2,q.2≠0:=λe d q c=>by
 obtain⟨f,hf,rfl⟩:=aW.mp (bK.mp d).1;have:=(bK.mp c).2;simpa using this
def Z4{D:Ps}:∀e∈F2 D,e.2≠[]:=λe c z=>by
 have:=(bK.mp c).2;rw[z]at this;cases this
def Zn{D:Ps}{P:ag->Prop}(h:∀e∈D,P e.1):∀e∈F2 D,P e.1:=λe c=>by
 obtain⟨f,hf,rfl⟩:=aW.mp (bK.mp c).1;exact h f hf
def MH(a b:Ps):F2 (a++b)=F2 a++F2 b:=by unfold F2;rw[bQ,List.filter_append]
end Kl
namespace K42
open PySem L2 Am
def Az{s:Src}{xs:ae}{src:Ic}{t:Te}{e:Ex}(hs:src τ S=.ok s S1)(U:s.k=xs.length)(b:Nat->Prop)(hg:∀T,Kp b S1 T->∀i:Nat,i<xs.length->s.get i T=xs[i]?)(J:∀T,Kp b S1 T->s.fin T=true)(p:A->Bool)(f:A->A)
  (step:∀x∈xs,∀T,Kp b S1 T->∃T1,t (x::nV cap τ) T=.ok (p x) T1/\Kp b T T1/\(p x=true->∃T2,e (x::nV cap τ) T1=.ok (f x) T2/\Kp b T1 T2)) (hl:xs.length<=16777216) :
  ∃S',mR (none::cap) src (kY 0) t e τ S=.ok (.ref S'.length) (S'++[.lst<|(xs.filter p).map f])/\Kp b S1 S':=by
 have m:∀i,i<xs.length->xs.getD i .unb∈xs:=λi hi=>by
  rw[aK,aE hi];exact fP hi
 obtain⟨S',h1,h2⟩:=yr (s:=s) (g:=kY 0) (t:=t) (e:=e) (P:=λT=>Kp b S1 T) (T:=λc=>∃y,c=y::nV cap τ) (λi=>xs.getD i .unb) (λi=>p<|xs.getD i .unb) (λi=>f<|xs.getD i .unb) (λi T hi h=>by
   rw[U]at hi;rw[hg T h i hi,aK,aE hi];rfl) J
  (λi c T hi B h=>by
   obtain⟨y,rfl⟩:=B;rw[U]at hi;obtain⟨T1,e1,d,q⟩:=step _ (m i hi) T h;refine⟨xs.getD i .unb::nV cap τ,T,T1,rfl,e1,⟨_,rfl⟩,λ_=>h.trans d,λj=>?_⟩;obtain⟨T2,e2,C⟩:=q j;exact⟨T2,e2,(h.trans d).trans C⟩) s.k 0 (nV (none::cap) τ) S1 rfl ⟨_,rfl⟩ Kp.refl
 refine⟨S',?_,h2⟩;unfold mR;rw[hs,R.oq,h1,R.oX,U,<- gq,p6 xs p f .unb];refine lK ?_;rw[aG];exact bD (cC _ _) hl
open Po (Pl Ok iv)
open Su (Es En)
open Fw (rg)
def Qy{S:jT}{a:Nat}{p d:Pl}{s m:Int}{q:Int×Int}{z:A}(J:kQ S h=some (iv d))(U:kH S a=some (iv p))(lk:l_ (iv p) q.1=some (.int q.2))(hl:d.length<16777216)(hm:m.natAbs<big)(hq:q.2.natAbs<big) :
  sq [.ref M,o',.ref a,.int s,.int m,.ref h,.int q.1] S=.nx [.ref M,o',.ref a,.int s,.int m,.ref h,.int q.1] (S.set h<|.nX<|iv<|Po.acc d (q.1+s)<|m * q.2):=by
 unfold sq;dsimp[kL,bools,Ag,EM,J,dB,yo,Po.yS,AZ,U,lk,ab2 hm hq,Aq,ym,uE<|show(iv d).length<16777216 by rw[FW];exact hl,Po.zl];rfl
def Qs{T:jT}{a:Nat}{p d0:Pl}{s m:Int}(J:kH T a=some (iv p))(hh:kQ T h=some (iv d0))(U:h≠a)(np:(p.map Prod.fst).Nodup)(hl:d0.length+p.length<16777216)(hm:m.natAbs<big)(hp:∀q∈p,q.2.natAbs<big) :
  ∃(y:A) (T':jT),mw vH (kY 6) sq [.ref M,o',.ref a,.int s,.int m,.ref h,z] T=.nx [.ref M,o',.ref a,.int s,.int m,.ref h,y] T'/\kQ T' h=some (iv<|Po.pW d0<|p.map λq=>(q.1+s,m * q.2))/\Kp (·=h) (T.set a<|.dkf<|iv p) T':=by
 obtain⟨T1,c⟩:∃T1,T1=T.set a (O.dkf<|iv p):=⟨_,rfl⟩;rw[<- c];have B:kH T1 a=some (iv p):=by rw[c];exact HX J
 have h1:kQ T1 h=some (iv d0):=rV (by rw[c,bM<|di U];exact mK hh);refine vZ (xs:=p.map λq=>A.int q.1) (S1:=T1) (show vH _ _=_ from by rw[c];exact LH (by dsimp[kL,bools]) J) (λi τ S=>∃y,τ=[.ref M,o',.ref a,.int s,.int m,.ref h,y]/\kQ S h=some (iv<|Po.pW d0<|(p.take i).map λq=>(q.1+s,m * q.2))/\Kp (·=h) T1 S)
  (λr=>∃y T',r=.nx [.ref M,o',.ref a,.int s,.int m,.ref h,y] T'/\kQ T' h=some (iv<|Po.pW d0<|p.map λq=>(q.1+s,m * q.2))/\Kp (·=h) T1 T') ⟨_,rfl,h1,Kp.refl⟩ ?_ ?_
 ·rintro i C τ S g ⟨y,rfl,hS,kp⟩;rw[aQ]at g;obtain⟨q,f,rfl⟩:=aY.mp g;have e:=aX f;have k:kH S a=some (iv p):=(kp.kz (Q:=λ_=>True)).Qh (λz=>U z.symm) B;have j:l_ (iv p) q.1=some (.int q.2):=by rw[Po.vg<|aW.mpr ⟨q,e,rfl⟩,Kl.Av np e]
  have d:=Po.pJ ((p.take i).map λq=>(q.1+s,m * q.2)) d0;have hi:=(aF.mp f).1;rw[aG,bI]at d;refine⟨[.ref M,o',.ref a,.int s,.int m,.ref h,.int q.1],S,rfl,.inl ⟨_,_,Qy (z:=y) hS k j () hm<|hp q e,⟨_,rfl,?_,kp.yW<|.inl rfl⟩⟩⟩;rw[Fg<|DG hS,cL,f,bQ,Po.x_];rfl
 ·rintro τ S ⟨y,rfl,hS,kp⟩;rw[aG,cH]at hS;exact⟨y,S,rfl,hS,kp⟩
def Xc{T:jT}{c a:Nat}{D:Es}{o:ag}{p:Pl}{s m:Int}(h:Md T M c D)(ha:kH T a=some (iv p))(na:¬ow M D a)(np:(p.map Prod.fst).Nodup)(l21:p.length<=21)(hm:m.natAbs<big)(hp:∀q∈p,q.2.natAbs<big)(hD:D.length<16777216)(hc:c+21<16777216) :
  ∃(T':jT) (D':Es),nj [.ref M,.tup<|o.map .int,.ref a,.int s,.int m] T=.ok .non T'/\Md T' M (c+21) D'/\(∀u t,Su.cS (Su.sm D') u t=Su.cS (Su.sm D) u t+if o=u then m * Po.cf p (t-s)else 0)/\(∀e∈D',e.1=o\/∃f∈D,f.1=e.1)/\(∀x,ow M D' x->ow M D x\/T.length<=x)/\Kz (ow M D) (·≠a) T T':=by
 obtain⟨T1,F⟩:∃T1,T1=T++[O.nX []]:=⟨_,rfl⟩;have G:nt T T1:=by rw[F];kpf_c
 have n1:kQ T1 T.length=some (iv []):=by rw[F];exact t7
 have a1:kH T1 a=some (iv p):=(G.kz (Q:=λ_=>True)).Qh (λz=>z) ha;have alt:=Cg ha;have Mlt:=Su.oS h.dd;have B:((Su.sm D).map Prod.fst).Nodup:=by
  have:=h.ap.nd
  rwa [show(Su.sm D).map Prod.fst=D.map Prod.fst from by unfold Su.sm;rw[bB];rfl]
 obtain⟨j,d0,g1,g2,g3,g4,g5,g6,P⟩:∃(j:Nat) (d0:Pl),(lg (D.map Su.kv) o).getD (.ref T.length)=.ref j/\kQ T1 j=some (iv d0)/\(d0.map Prod.fst).Nodup/\d0.length<=c/\(∀t,Po.cf d0 t=Su.cS (Su.sm D) o t)/\(∀e∈D,e.1≠o->e.2.1≠j)/\(j=T.length\/∃e∈D,e.2.1=j):=by
  cases hf:Su.fE D o with
  | none=>
   refine⟨T.length,[],by rw[Su.nP,hf];rfl,n1,dO,bL _,λt=>?_,λe d _=>bw<|DG<|h.aa e d,.inl rfl⟩;rw[Kl.Dq B,Su.F6,hf];rfl
  | some e=>
   obtain⟨d,rfl⟩:=Su.pT hf;refine⟨e.2.1,e.2.2,by rw[Su.nP,hf];rfl,G.dk _ _ (λz=>z)<|h.aa e d,h.np e d,h.ln e d,λt=>?_,λf hf' U=>h.ap.at f hf' e d U,.inr ⟨e,d,rfl⟩⟩;rw[Kl.Dq B,Su.F6,hf];rfl
 have W:j≠a:=by
  rcases P with z|z
  ·lia
  ·exact λq=>na<|.inr<|by rw[<- q];exact z
 have K:j≠M:=by
  rcases P with z|⟨e,d,z⟩
  ·lia
  ·rw[<- z];exact zu h.dd<|xG<|h.aa e d
 have aM:a≠M:=zu h.dd ha;obtain⟨y,T3,x3,d3,N⟩:=Qs (M:=M) (o':=.tup<|o.map .int) (z:=.unb) a1 g2 W np () hm hp (s:=s);obtain⟨T2,k⟩:∃T2,T2=T1.set a (O.dkf<|iv p):=⟨_,rfl⟩;rw[<- k]at N;have z1:Kz (ow M D) (·≠a) T T1:=G.of0.kz;have z2:Kz (ow M D) (·≠a) T T2:=by rw[k];exact z1.fzK a1 (.inl λz=>z rfl)
 have z3:Kz (ow M D) (·≠a) T T3:=z2.old (N.kz (Q:=λ_=>True)) (λn hn g e=>by
  rcases P with z|z
  ·lia
  ·exact g<|.inr<|by rw[e];exact z) λ_ _ _=>trivial
 have M2:kj T2 M=some (D.map Su.kv):=tB (by rw[k,bM aM];exact mL<|G.dct _ _ (λz=>z) h.dd);have Y:kj T3 M=some (D.map Su.kv):=N.dct _ _ (di K) M2;obtain⟨J,g⟩:∃J,J=Po.pW d0 (p.map λq=>(q.1+s,m * q.2)):=⟨_,rfl⟩;rw[<- g]at d3;obtain⟨L,C⟩:∃L,L=T3.set M (O.dct<|(Su.mT D o j J).map Su.kv):=⟨_,rfl⟩;have st:yu (.ref M) (.tup<|o.map .int) (.ref j) T3=.ok Unit.unit L:=by
  rw[Su.tF,Y,kg,Su.BR (p:=J),C];exact uE<|show(D.map Su.kv).length<16777216 by rw[aG];exact hD
 have V:Kp (·=M) T3 L:=by rw[C];exact Kp.refl.yW (.inl rfl)
 refine⟨L,Su.mT D o j J,?_,⟨by rw[C];exact Su.wD<|Su.oS Y,λe d=>?_,h.ap.put2 g6,λe d=>?_,λe d=>?_⟩,λu t=>?_,λe d=>?_,λx hx=>?_,z3.old (V.kz (Q:=λ_=>True)) (λn _ hn e=>hn<|.inl e) λ_ _ _=>trivial⟩
 ·unfold nj yY zb;dsimp[kL,bools,mY,Nat.reduceAdd,Nat.reduceSub,AB,XJ<|wF h.dd,qT,<- F,Gg,wF<|G.dct _ _ (λz=>z) h.dd,g1,x3,Su.ug,st]
 ·rcases Kl.Rp d with⟨z,U⟩|z
  ·have e1:=h.aa e z;have Z:e.2.1≠a:=λq=>na<|.inr ⟨e,z,q⟩;have e2:kQ T2 e.2.1=some (iv e.2.2):=rV (by rw[k,bM<|di Z];exact mK<|G.dk _ _ (λz=>z) e1);have e3:=N.dk _ _ (g6 e z U) e2;exact V.dk _ _ (zu Y<|xG e3) e3
  ·rw[z];exact V.dk _ _ K d3
 ·rcases Su.oz d with z|z
  ·exact h.np e z
  ·rw[z,g];exact Po.um _ g3
 ·rcases Su.oz d with z|z
  ·exact bD (h.ln e z) ()
  ·rw[z];show J.length<=_;have:=Po.pJ (p.map λq=>(q.1+s,m * q.2)) d0;rw[aG]at this;rw[g];lia
 ·rw[Su.EL,Kl.V7 B];by_cases c:u=o
  ·rw[aJ c,aJ c.symm,g,Kl.We g3,Kl.Rt,c,g5]
  ·rw[aI c,aI λz=>c z.symm,b8]
 ·rcases Su.oz d with z|z
  ·exact .inr ⟨e,z,rfl⟩
  ·rw[z];exact .inl rfl
 ·rcases hx with z|⟨e,d,z⟩
  ·exact .inl (.inl z)
  ·rcases Su.oz d with q|q
   ·exact .inl (.inr ⟨e,q,z⟩)
   ·rw[q]at z;have z:j=x:=z
    rcases P with w|w
    ·right;lia
    ·left;right;rw[<- z];exact w
def Y_{T:jT}{a:Nat}{p:Pl}(ha:kH T a=some (iv p))(np:(p.map Prod.fst).Nodup)(hl:p.length<16777216) :
  ∃(T':jT),kX [.ref a] T=.ok (.ref T.length) T'/\kQ T' T.length=some (iv<|p.filter λq=>q.2 != 0)/\Kz (λ_=>False) (·≠a) T T':=by
 obtain⟨T1,f⟩:∃T1,T1=T++[O.nX []]:=⟨_,rfl⟩;have G:nt T T1:=by rw[f];kpf_c
 have W:kQ T1 T.length=some (iv []):=by rw[f];exact t7
 have m:kH T1 a=some (iv p):=(G.kz (Q:=λ_=>True)).Qh (λz=>z) ha;have U:=Cg ha;obtain⟨T2,d⟩:∃T2,T2=T1.set a (O.dkf<|iv p):=⟨_,rfl⟩;have V:kH T2 a=some (iv p):=by rw[d];exact HX m
 have Z:kQ T2 T.length=some (iv []):=rV (by rw[d,bM ()];exact mK W);have g:∃(y:A) (T':jT),mw mQ (kY 2) mP [.ref a,.ref T.length,.unb] T1=.nx [.ref a,.ref T.length,y] T'/\kQ T' T.length=some (iv<|p.filter λq=>q.2 != 0)/\Kp (·=T.length) T2 T':=by
  refine vZ (xs:=p.map λq=>A.int q.1) (S1:=T2) (show mQ _ _=_ from by rw[d];exact LH (by dsimp[kL,bools]) m) (λi τ S=>∃y,τ=[.ref a,.ref T.length,y]/\kQ S T.length=some (iv<|(p.take i).filter λq=>q.2 != 0)/\Kp (·=T.length) T2 S)
   (λr=>∃y T',r=.nx [.ref a,.ref T.length,y] T'/\kQ T' T.length=some (iv<|p.filter λq=>q.2 != 0)/\Kp (·=T.length) T2 T') ⟨_,rfl,Z,Kp.refl⟩ ?_ ?_
  ·rintro i z' τ S L ⟨y,rfl,hS,kp⟩;rw[aQ]at L;obtain⟨q,J,rfl⟩:=aY.mp L;have C:=aX J;have K:kH S a=some (iv p):=(kp.kz (Q:=λ_=>True)).Qh () V;have F:l_ (iv p) q.1=some (.int q.2):=by rw[Po.vg<|aW.mpr ⟨q,C,rfl⟩,Kl.Av np C]
   have B:((p.take i).filter λq=>q.2 != 0).length<=p.length:=by
    have h1:=cC (λq:Int×Int=>q.2 != 0)<|p.take i;rw[bI]at h1;lia
   refine⟨[.ref a,.ref T.length,.int q.1],S,rfl,.inl ?_⟩;have j:=Kl.QA np J;unfold mP;by_cases c:q.2=0
   ·have k:(q.2 == 0)=true:=beq_iff_eq.mpr c;rw[aI λz=>z c]at j;refine⟨[.ref a,.ref T.length,.int q.1],S,?_,_,rfl,by rw[j];exact hS,kp⟩;dsimp[kL,qu,bools,AZ,K,F,k,dg]
   ·have k:(q.2 == 0)=false:=cT.mpr c;rw[aJ c]at j;refine⟨[.ref a,.ref T.length,.int q.1],_,?_,_,rfl,?_,kp.yW (o:=.nX<|iv<|Po.put ((p.take i).filter λq=>q.2 != 0) q.1 q.2)<|.inl rfl⟩
    ·dsimp[kL,qu,bools,AZ,K,F,k,c_,Aq,ym,hS,uE<|show(iv<|(p.take i).filter λq=>q.2 != 0).length<16777216 by rw[FW];lia,Po.zl]
    ·rw[Fg<|DG hS,j]
  ·rintro τ S ⟨y,rfl,hS,kp⟩;rw[aG,cH]at hS;exact⟨y,S,rfl,hS,kp⟩
 obtain⟨y,T3,M,d3,P⟩:=g;have N:Kz (λ_=>False) (·≠a) T T1:=G.kz;have Y:Kz (λ_=>False) (·≠a) T T2:=by rw[d];exact N.fzK m (.inl λz=>z rfl)
 refine⟨T3,?_,d3,Y.old (P.kz (Q:=λ_=>True)) (λn hn _ e=>()) λ_ _ _=>trivial⟩;unfold kX nv ny;dsimp[kL,bools,mY,Nat.reduceAdd,Nat.reduceSub,qT,<- f,M]
def Q7(k:Nat)(x:Int):(l_ (sZ [((k:Int),A.int<|(k:Int)+1)] ((k:Int)+1)<|.int k) x).getD (.int x)=.int (Wd.sw k x):=by
 have e:sZ [((k:Int),A.int<|(k:Int)+1)] ((k:Int)+1) (.int k)=iv [((k:Int),(k:Int)+1),((k:Int)+1,(k:Int))]:=by
  have:=Po.zl [((k:Int),(k:Int)+1)] ((k:Int)+1) k;refine Eq.trans this<|dY iv ?_;unfold Po.put;rw[aI<|by simp[Po.has];lia];rfl
 rw[e,Po.Ar];unfold Wd.sw;by_cases c:x=k
 ·subst c;rw[aJ rfl,cF,a_<|show((k:Int),(k:Int)+1).1=(k:Int)from rfl];rfl
 ·by_cases d:x=(k:Int)+1
  ·subst d;rw[aI c,aJ rfl,cF,bq<|show ¬((k:Int),(k:Int)+1).1=(k:Int)+1 from λz=>c z.symm,cF,a_<|show((k:Int)+1,(k:Int)).1=(k:Int)+1 from rfl];rfl
  ·rw[aI c,aI d];simp[show ¬(k:Int)=x from λz=>c z.symm,show ¬(k:Int)+1=x from λz=>d z.symm]
abbrev swA (k:Nat)(x:A):A:=match x with
 | .int i=>.int (Wd.sw k i)
 | v=>v
def Ub{o:ag}{k:Nat}(J:o.length<=1000):∃T',mH [.tup<|o.map .int,.int k] T=.ok (.tup<|(o.map<|Wd.sw k).map .int) T'/\nt T T':=by
 obtain⟨c,e1,f⟩:=Az (s:=pQ<|o.map .int) (xs:=o.map .int) (cap:=[some 1]) (src:=pV<|jR 0) (t:=OA) (e:=zU uQ (U6 (jR 1) (j6 mF (jR 1)<|eC<|.int 1) (j6 mF (jR 1)<|eC<|.int 1)<|jR 1)<|jQ (jR 0)<|jQ (jR 0) j5) (τ:=[.tup<|o.map .int,.int k]) (S:=T) (S1:=T)
  (Z2<|by dsimp[kL,bools]) rfl (λ_=>False) (λ_ _ _ _=>rfl) (λ_ _=>rfl) (λ_=>true) (swA k) (λx d U _=>by
   obtain⟨i,_,rfl⟩:=aW.mp d;refine⟨U,rfl,Kp.refl,λ_=>⟨U++[.nX<|sZ [((k:Int),A.int<|(k:Int)+1)] ((k:Int)+1)<|.int k],?_,Kp.refl.lay⟩⟩;have r:kH (U++[O.nX<|sZ [((k:Int),A.int<|(k:Int)+1)] ((k:Int)+1)<|.int k]) U.length=some (sZ [((k:Int),A.int<|(k:Int)+1)] ((k:Int)+1)<|.int k):=xG t7;dsimp[kL,bools,AB,W8,Rz r,BV,r,Q7];rfl) (by rw[aG];lia)
 have e2:((o.map A.int).filter λ_=>true).map (swA k)=(o.map<|Wd.sw k).map .int:=by
  rw[i7.mpr λ_ _=>rfl,bB,bB];rfl
 rw[e2]at e1;refine⟨c++[.lst<|(o.map<|Wd.sw k).map .int],?_,f.lay⟩;have g:jU (c++[O.lst<|(o.map<|Wd.sw k).map .int]) c.length=some ((o.map<|Wd.sw k).map .int):=ki;unfold mH sN sH;dsimp[kL,bools,mY,Nat.reduceAdd,Nat.reduceSub,e1,g]
def eix{co:Ex}{d:qQ}{o:ag}{v:Int}(h1:co τ S=.ok (.tup<|o.map .int) S)(h2:d τ S=.ok [.int v] S)(h:v∈o):Bq co d τ S=.ok (.int (o.idxOf v:Nat)) S:=by
 have e:o.findIdx? (· == v)=some (o.idxOf v):=by
  cases hf:o.findIdx? (· == v)with
  | none=>
   rw[List.findIdx?_eq_none_iff]at hf;have:=hf v h;simp at this
  | some k=>rw[<- (List.findIdx?_eq_some_iff_findIdx_eq.mp hf).2];rfl
 have e2:(o.map A.int).findIdx? (λz=>Xl z<|.int v)=some (o.idxOf v):=by
  rw[List.findIdx?_map];exact e
 have c:(o.map A.int).all A.flat=true:=by rw[all_map];exact eS.mpr λ_ _=>rfl
 unfold Bq;rw[h1,R.oq];show opt (some<|o.map A.int) _=_;rw[kg,h2,R.oq];unfold ZY;rw[show A.seq S (.tup<|o.map .int)=some (o.map .int)from rfl];dsimp[kg,nS<|show A.flat (.int v)=true/\(o.map A.int).all A.flat=true from⟨rfl,c⟩,e2]
def Yr{N k:Nat}{o:ag}(J:o.Perm<|rg N)(h0:1<=k)(h1:k<N):decide (((o.idxOf (k:Int):Nat):Int)>((o.idxOf ((k:Int)+1):Nat):Int))=Kl.wM k o:=by
 have lo:=lY J;unfold Kl.wM Su.mC;have g:∀i,i<N->(He.bk o).getD i 0=((o.idxOf ((i:Int)+1):Nat):Int)+1:=λi hi=>by
  unfold He.bk;rw[aK,aQ,d7 ()];rfl
 rw[g (k-1) (),g k (),show((k-1:Nat):Int)+1=k by lia];exact gD.mpr ()
def Nc{N:Nat}{o:ag}(J:o.Perm<|rg N){v:Int}(h1:1<=v)(h2:v<=N):v∈o:=J.mem_iff.mpr<|pM.mpr ()
abbrev RY (N:Nat)(o:ag):ag:=(mh 1 (N:Int)).filter λk=>Kl.wM k.toNat o
def VA{S:jT}{N:Nat}{o:ag}(J:o.Perm<|rg N)(U:N<=20):mR [none,some 0] (qI (eC<|.int 1)<|kG (f1 q_)<|jQ (jR 0) j5) (kY 0) (uf<|j6 Ib (Bq (jR 1)<|jQ (jR 0) j5)<|Bq (jR 1)<|jQ (j6 mF (jR 0)<|eC<|.int 1) j5) (jR 0) (.tup (o.map .int)::cap) S=.ok (.ref S.length) (S++[.lst<|(RY N o).map .int]):=by
 have lo:=lY J;have c:=yE (lo:=1) (hi:=(N:Int)) (cap:=[some 0]) (src:=qI (eC<|.int 1)<|kG (f1 q_)<|jQ (jR 0) j5) (t:=uf<|j6 Ib (Bq (jR 1)<|jQ (jR 0) j5)<|Bq (jR 1)<|jQ (j6 mF (jR 0)<|eC<|.int 1) j5) (e:=jR 0) (τ:=.tup (o.map .int)::cap) (S:=S) (S1:=S)
  (xP (S1:=S) (by dsimp[kL,bools]) (by dsimp[kL,bools,aG,lo]) (rm () ())<|rm () ())
  (λk=>Kl.wM k.toNat o) (λk=>.int k) (λk h1 h2=>by
   have d:=Yr J (k:=k.toNat) () ();rw[Int.toNat_of_nonneg ()]at d;have f:=eix (co:=jR 1) (d:=jQ (jR 0) j5) (τ:=[.int k,.tup<|o.map .int]) (S:=S) (v:=k) (by dsimp[kL,bools]) (by dsimp[kL,bools])<|Nc J () ();have g:=eix (co:=jR 1) (d:=jQ (j6 mF (jR 0)<|eC<|.int 1) j5) (τ:=[.int k,.tup<|o.map .int]) (S:=S) (v:=k+1) (by dsimp[kL,bools]) (by dsimp[kL,bools])<|Nc J () ();show uf _ [.int k,.tup<|o.map .int] S=_;dsimp[kL,bools,f,g,d]) (λk _ _ _=>by dsimp[kL,bools]) ()
 rw[c];rfl
end K42
namespace K42
open PySem L2 Am
open Po (Pl Ok iv)
open Su (Es En)
open Fw (rg)
def acr{D:Es}(nd:(D.map Prod.fst).Nodup){e:En}(J:e∈D):Su.fE D e.1=some e:=by
 obtain⟨f,hf⟩:=Su.Hx<|aW.mpr ⟨e,J,rfl⟩;rw[hf];obtain⟨a,b⟩:=Su.pT hf;obtain⟨i,hi⟩:=f_.mp a;obtain⟨j,c⟩:=f_.mp J;have e1:(D.map Prod.fst)[i]?=some e.1:=by rw[aQ,hi,<- b];rfl
 have e2:(D.map Prod.fst)[j]?=some e.1:=by rw[aQ,c];rfl
 obtain⟨m,d⟩:=aF.mp e1;obtain⟨k,g⟩:=aF.mp e2;have:=(cZ nd).mp<|d.trans g.symm;subst this;rw[hi]at c;exact c
def yt(D:Es):(Su.sm D).map Prod.fst=D.map Prod.fst:=by unfold Su.sm;rw[bB];rfl
structure Kw (N:Nat)(Q:Nat->Prop)(T:jT)(d:Nat)(K:Es):Prop where
 dd:kj T d=some (K.map Su.kv)
 nd:(K.map Prod.fst).Nodup
 pm:∀e∈K,e.1.Perm (rg N)
 at_:∀e∈K,∃es,Rw (λx=>Q x\/x=d) T e.2.1 es/\Kl.LK N e.1 (Su.sm es)
def Kw.go{N d:Nat}{Q G P Q':Nat->Prop}{T:jT}{K:Es}(h:Kw N Q T d K)(k:Kz P Q' T T')(J:∀n,n<T.length->P n->Q n)(hg:∀n,n<T.length->G n->Q n)(U:¬P d)(qd:Q' d):Kw N G T' d K:=
 ⟨k.dct U qd h.dd,h.nd,h.pm,λe c=>by
  obtain⟨es,a,b⟩:=h.at_ e c;exact⟨es,a.go k (λn ln z=>.inl<|J n ln z) λn ln z=>z.imp (hg n ln) id,b⟩⟩
def Kw.many{N d:Nat}{Q:Nat->Prop}{K:Es}(J:N<6)(h:Kw N Q T d K):K.length<=120:=by
 have:=He.many J h.nd λo f=>by
  obtain⟨e,c,rfl⟩:=aW.mp f;exact h.pm e c
 rwa [aG]at this
def Kw.put{N d r:Nat}{Q:Nat->Prop}{K:Es}{o:ag}(hN:N<6)(h:Kw N Q T d K)(po:o.Perm<|rg N)(U:Rw (λx=>Q x\/x=d) T r es)(J:Kl.LK N o<|Su.sm es) :
  ∃T' K',yu (.ref d) (.tup<|o.map .int) (.ref r) T=.ok Unit.unit T'/\Kw N Q T' d K'/\Rw (λx=>Q x\/x=d) T' r es/\Kp (·=d) T T':=by
 have k:Kp (·=d) T (T.set d<|.dct<|(Su.mT K o r []).map Su.kv):=Kp.refl.yW<|.inl rfl;have dd:kj (T.set d<|.dct<|(Su.mT K o r []).map Su.kv) d=some ((Su.mT K o r []).map Su.kv):=Su.wD<|Su.oS h.dd;have f:=h.many hN;have go:∀{s:Nat} {fs:Es},Rw (λx=>Q x\/x=d) T s fs->Rw (λx=>Q x\/x=d) (T.set d<|.dct<|(Su.mT K o r []).map Su.kv) s fs:=λa=>a.go (k.kz (Q:=λ_=>True)) (λ_ _ z=>.inr z) λ_ _ z=>z;refine⟨_,Su.mT K o r [],?_,⟨dd,?_,λe J=>?_,λe c=>?_⟩,go U,k⟩
 ·rw[Su.tF,h.dd,kg,Su.BR (p:=[])];exact uE (show(K.map Su.kv).length<16777216 by rw[aG];lia)
 ·have:=Kl.Kq (o:=o) (p:=[]) (by rw[yt];exact h.nd:((Su.sm K).map Prod.fst).Nodup)
  rwa [<- Su.EL (r:=r),yt]at this
 ·rcases Su.oz J with z|z
  ·exact h.pm e z
  ·rw[z];exact po
 ·rcases Su.oz c with z|z
  ·obtain⟨fs,a,b⟩:=h.at_ e z;exact⟨fs,go a,b⟩
  ·rw[z];exact⟨es,go U,J⟩
structure Kin (N:Nat)(Q:Nat->Prop)(d M:Nat)(S0 T:jT)(c:Nat)(D K:Es):Prop where
 md:Md T M c D
 kw:Kw N (λx=>Q x\/ow M D x) T d K
 pm:∀e∈D,e.1.Perm (rg N)
 fr:Kz (λx=>x=d) Q S0 T
 ml:∀x,ow M D x->S0.length<=x
 dl:d<S0.length
 ql:∀x,Q x->x<S0.length
 qd:¬Q d
abbrev Gm (Q:Nat->Prop)(d M:Nat)(D:Es)(x:Nat):Prop:=(Q x\/ow M D x)\/x=d
section
variable {N d M c:Nat}{Q:Nat->Prop}{S0 T:jT}{D K:Es}
def Kin.many(J:N<6)(h:Kin N Q d M S0 T c D K):D.length<=120:=by
 have:=He.many J h.md.ap.nd λo g=>by
  obtain⟨e,f,rfl⟩:=aW.mp g;exact h.pm e f
 rwa [aG]at this
def Kin.go{Q':Nat->Prop}(h:Kin N Q d M S0 T c D K)(k:Kz (λ_=>False) Q' T T')(J:∀x,x<T.length->Gm Q d M D x->Q' x):Kin N Q d M S0 T' c D K/\∀r es,Rw (Gm Q d M D) T r es->Rw (Gm Q d M D) T' r es:=by
 have dT:d<T.length:=Su.oS h.kw.dd;refine⟨⟨h.md.kz k λx e=>⟨λz=>z,J x (h.md.QW e)<|.inl<|.inr e⟩,h.kw.go k (λ_ _ z=>z.elim) (λ_ _ z=>z) (λz=>z)<|J d dT<|.inr rfl,h.pm,h.fr.old k (λ_ _ _ z=>z) λn ln z=>J n (bN ln h.fr.len)<|.inl<|.inl z,h.ml,h.dl,h.ql,h.qd⟩,λr es f=>f.go k (λ_ _ z=>z.elim) λ_ _ z=>z⟩
def Kin.lay(h:Kin N Q d M S0 T c D K)(o:O):Kin N Q d M S0 (T++[o]) c D K/\∀r es,Rw (Gm Q d M D) T r es->Rw (Gm Q d M D) (T++[o]) r es:=
 h.go (Q':=λ_=>True) (Kp.refl.lay).kz λ_ _ _=>trivial
def Kin.yC(h:Kin N Q d M S0 T c D K)(k:nt T T'):Kin N Q d M S0 T' c D K/\∀r es,Rw (Gm Q d M D) T r es->Rw (Gm Q d M D) T' r es:=
 h.go (Q':=λ_=>True) k.kz λ_ _ _=>trivial
def Kin.fz{r:Nat}{es:Es}(h:Kin N Q d M S0 T c D K)(J:Rw (Gm Q d M D) T r es):Kin N Q d M S0 (T.set r<|.dcf<|es.map Su.kv) c D K/\∀s fs,Rw (Gm Q d M D) T s fs->Rw (Gm Q d M D) (T.set r<|.dcf<|es.map Su.kv) s fs:=
 h.go (Q':=λx=>x≠r) (Kz.refl.fzD J.l<|.inl λz=>z rfl) λx _ z e=>J.q<|by rw[<- e];exact z
def Kin.put{a:Nat}{o:ag}{p:Pl}{s m:Int}(hN:N<6)(h:Kin N Q d M S0 T c D K)(po:o.Perm<|rg N)(ha:kH T a=some (iv p))(na:¬Gm Q d M D a)(np:(p.map Prod.fst).Nodup)(U:p.length<=21)(hm:m.natAbs<big)(hp:∀q∈p,q.2.natAbs<big)(hc:c+21<16777216) :
  ∃(T':jT) (D':Es),nj [.ref M,.tup<|o.map .int,.ref a,.int s,.int m] T=.ok .non T'/\Kin N Q d M S0 T' (c+21) D' K/\(∀u t,Su.cS (Su.sm D') u t=Su.cS (Su.sm D) u t+if o=u then m * Po.cf p (t-s)else 0)/\∀r es,Rw (Gm Q d M D) T r es->Rw (Gm Q d M D') T' r es:=by
 obtain⟨T',D',e1,G,c1,F,k,g⟩:=Xc (o:=o) (s:=s) (m:=m) h.md ha (λz=>na<|.inl<|.inr z) np U hm hp (by have:=h.many hN;lia) hc;have C:d≠a:=λz=>na<|.inr z.symm;have nd:¬ow M D d:=λz=>by have:=h.ml d z;have:=h.dl;lia
 have j:∀n,n<T.length->ow M D' n->ow M D n:=λn ln z=>(k n z).elim id λq=>absurd ln ();refine⟨T',D',e1,⟨G,h.kw.go g (λ_ _ z=>.inr z) (λn ln z=>z.imp id<|j n ln) nd C,λe B=>?_,h.fr.old g (λn ln _ z=>by have:=h.ml n z;lia) λn _ z e=>na<|.inl<|.inl<|by rw[<- e];exact z,λx J=>?_,h.dl,h.ql,h.qd⟩,c1,λr es L=>L.go g (λ_ _ z=>.inl<|.inr z) λn ln z=>z.imp (λq=>q.imp id<|j n ln) id⟩
 ·rcases F e B with z|⟨f,hf,z⟩
  ·rw[z];exact po
  ·rw[<- z];exact h.pm f hf
 ·rcases k x J with z|z
  ·exact h.ml x z
  ·have:=h.fr.len;lia
abbrev Fnw (N d f:Nat)(Fs:ae->jT->R A):Prop:=∀(Q:Nat->Prop) (T:jT) (K:Es) (o:ag),Iv.inv o<f->o.Perm (rg N)->Kw N Q T d K->(∀x,Q x->x<T.length)->¬Q d ->
  ∃(r:Nat) (c:jT) (g e:Es),Fs [.tup<|o.map .int,.ref d] T=.ok (.ref r) c/\Kw N Q c d g/\Rw (λx=>Q x\/x=d) c r e/\Kl.LK N o (Su.sm e)/\Kz (λx=>x=d) Q T c
def Kin.ack{f:Nat}{Fs:ae->jT->R A}{o:ag}(J:Fnw N d f Fs)(h:Kin N Q d M S0 T c D K)(hf:Iv.inv o<f)(U:o.Perm<|rg N) :
  ∃(r:Nat) (T':jT) (K' rs:Es),Fs [.tup<|o.map .int,.ref d] T=.ok (.ref r) T'/\Kin N Q d M S0 T' c D K'/\Rw (Gm Q d M D) T' r rs/\Kl.LK N o (Su.sm rs)/\∀s es,Rw (Gm Q d M D) T s es->Rw (Gm Q d M D) T' s es:=by
 have nd:¬ow M D d:=λz=>by have:=h.ml d z;have:=h.dl;lia
 obtain⟨r,T',K',rs,e1,j,r1,m,e⟩:=J _ T K o hf U h.kw (λx z=>z.elim (λq=>by have:=h.ql x q;have:=h.fr.len;lia) h.md.QW) λz=>z.elim h.qd nd;exact⟨r,T',K',rs,e1,⟨h.md.kz e λx g=>⟨λz=>nd<|by rw[<- z];exact g,.inr g⟩,j,h.pm,h.fr.old e (λ_ _ z=>z) λ_ _ z=>.inl z,h.ml,h.dl,h.ql,h.qd⟩,r1,m,λs es k=>k.go e (λ_ _ z=>.inr z) λ_ _ z=>z⟩
end
end K42
namespace K42
open PySem L2 Am
open Po (Pl Ok iv)
open Su (Es En)
open Fw (rg)
def ZD{N:Nat}{w:ag}{m:Su.Ps}(J:N<6)(U:w.Perm<|rg N)(h:Kl.LK N w m){e:ag×Pl}(he:e∈m)(t:Int):(Po.val e.2 t).natAbs<=Kl.Cb 10:=by
 have d:=h.kp.pm e he;rw[h.toNd.val he,h.K J U _ d];exact(Kl.Jp J U).fb.c _ d _
def WO{p:Pl}{t:Int}(h:Po.val p t≠0):t∈p.map Prod.fst:=by
 rw[<- Po.uz]
 cases c:Po.has p t with
 | true=>rfl
 | false=>exact absurd (Po.Ju c) h
def xH{N:Nat}{w:ag}{J:Es}(h:Kl.LK N w<|Su.sm J){e:En}(U:e∈J):(e.1,e.2.2)∈Su.sm J:=aW.mpr ⟨e,U,rfl⟩
def CP{N:Nat}{w:ag}{J:Es}(h:Kl.LK N w<|Su.sm J):(J.map Prod.fst).Nodup:=by rw[<- yt];exact h.nd
def IV{r:Nat}{es:Es}{e:En}(h:mq T r=some (es.map Su.kv))(nd:(es.map Prod.fst).Nodup)(J:e∈es):z0 (.ref r) (.tup<|e.1.map .int) T=.ok (.ref e.2.1) T:=by
 rw[Lr,h,kg,Su.nP,acr nd J];rfl
section
variable {N d M c:Nat}{Q:Nat->Prop}{S0 T:jT}{D K bs:Es}
def Kin.mT{R:Nat}{U:Es}{w o:ag}{e:En}{s m:Int}(hN:N<6)(h:Kin N Q d M S0 T c D K)(pw:w.Perm<|rg N)(po:o.Perm<|rg N)(hr:Rw (Gm Q d M D) T R U)(J:Kl.LK N w<|Su.sm U)(he:e∈U)(hm:m.natAbs<big)(hc:c+21<16777216) :
  ∃(T':jT) (D':Es),nj [.ref M,.tup<|o.map .int,.ref e.2.1,.int s,.int m] T=.ok .non T'/\Kin N Q d M S0 T' (c+21) D' K/\(∀u t,Su.cS (Su.sm D') u t=Su.cS (Su.sm D) u t+if o=u then m * Po.cf e.2.2 (t-s)else 0)/\∀r es,Rw (Gm Q d M D) T r es->Rw (Gm Q d M D') T' r es:=by
 obtain⟨a,b⟩:=hr.a e he;have f:=xH J he;exact h.put hN po a b (J.np _ f) (J.len hN pw f) hm (λq g=>cM (J.b hN pw f g).1 xx) hc
def Zx{B:Nat}{Fs:ae->jT->R A}{e:En}{w o:ag}(hN:N<6)(h:Kin N Q d M S0 T c D K)(pw:w.Perm<|rg N)(po:o.Perm<|rg N)(hb:Rw (Gm Q d M D) T B bs)(lb:Kl.LK N w<|Su.sm bs)(he:e∈bs)(h0:Po.val e.2.2 1≠0)(hr:Rw (Gm Q d M D) T W rs)(lk:Kl.LK N o<|Su.sm rs)(hc:c+21 * 120<16777216) :
  ∃(y:A) (T':jT) (D':Es),mw (qO Fs) (kY 9) (qL Fs) [x0,.ref d,x2,.ref M,x4,.ref B,.tup<|e.1.map .int,x7,.ref W,x9,x10,x11] T=.nx [x0,.ref d,x2,.ref M,x4,.ref B,.tup<|e.1.map .int,x7,.ref W,y,x10,x11] T'/\Kin N Q d M S0 T' (c+21 * 120) D' K/\(∀u t,Su.cS (Su.sm D') u t=Su.cS (Su.sm D) u t+-Po.val e.2.2 1 * Su.cS (Su.sm rs) u t)/\∀r es,Rw (Gm Q d M D) T r es->Rw (Gm Q d M D') T' r es:=by
 obtain⟨h1,C⟩:=h.fz hr;obtain⟨T1,j⟩:∃T1,T1=T.set W (O.dcf<|rs.map Su.kv):=⟨_,rfl⟩;rw[<- j]at h1 C;have ln:=lk.many hN;rw[Su.vI]at ln;have vb:=ZD hN pw lb (xH lb he) 1;refine vZ (xs:=rs.map λe=>.tup<|e.1.map .int) (S1:=T1) (show qO Fs _ _=_ from by rw[j];exact EA (by dsimp[kL,bools]) hr.l)
  (λi τ S=>∃(y:A) (D':Es),τ=[x0,.ref d,x2,.ref M,x4,.ref B,.tup<|e.1.map .int,x7,.ref W,y,x10,x11]/\Kin N Q d M S0 S (c+21 * i) D' K/\(∀u t,Su.cS (Su.sm D') u t=Su.cS (Su.sm D) u t+-Po.val e.2.2 1 * Su.cS (Su.sm<|rs.take i) u t)/\∀r es,Rw (Gm Q d M D) T r es->Rw (Gm Q d M D') S r es)
  (λr=>∃(y:A) (T':jT) (D':Es),r=.nx [x0,.ref d,x2,.ref M,x4,.ref B,.tup<|e.1.map .int,x7,.ref W,y,x10,x11] T'/\Kin N Q d M S0 T' (c+21 * 120) D' K/\(∀u t,Su.cS (Su.sm D') u t=Su.cS (Su.sm D) u t+-Po.val e.2.2 1 * Su.cS (Su.sm rs) u t)/\∀r es,Rw (Gm Q d M D) T r es->Rw (Gm Q d M D') T' r es)
  ⟨_,D,rfl,h1,λu t=>by rw[fO];show _=_+_ * (0:Int);rw[eu,b8],C⟩ ?_ ?_
 ·rintro i z τ S q ⟨y,D',rfl,hS,cS,g⟩;rw[aQ]at q;obtain⟨f,hf,rfl⟩:=aY.mp q;have k:=aX hf;have hi:=(aF.mp hf).1;have rS:=g _ _ hr;have p:=g _ _ hb;obtain⟨T2,J,e2,L,c2,U⟩:=hS.mT (s:=0) (m:=0-Po.val e.2.2 1) (o:=f.1) hN po (lk.kp.pm _<|xH lk k) rS lk k (by rw[Int.zero_sub,jO];exact cM vb xx) ();have F:=IV rS.l (CP lk) k;have G:=IV p.l (CP lb) he;have P:CD (.ref e.2.1) (.int 1) S=.ok (.int<|Po.val e.2.2 1) S:=by
   rw[AZ,(p.a e he).1,kg,Po.vg<|WO h0,kg]
  refine⟨[x0,.ref d,x2,.ref M,x4,.ref B,.tup<|e.1.map .int,x7,.ref W,.tup<|f.1.map .int,x10,x11],S,rfl,.inl ⟨[x0,.ref d,x2,.ref M,x4,.ref B,.tup<|e.1.map .int,x7,.ref W,.tup<|f.1.map .int,x10,x11],T2,?_,.tup<|f.1.map .int,J,rfl,by rw[jM,<- gH];exact L,λu t=>?_,λr es z=>U r es<|g r es z⟩⟩
  ·unfold qL;dsimp[kL,qu,bools,eW9,F,G,P,e2]
  ·rw[c2,cS,cL,hf,Su.zz];rw[Su.oO,iT,<- dP];congr 1;show(if f.1=u then(0-Po.val e.2.2 1) * Po.cf f.2.2 (t-0)else 0)=-Po.val e.2.2 1 * ((if f.1=u then Po.cf f.2.2 t else 0)+0);rw[b8,i_,Int.zero_sub];split
   ·rfl
   ·rw[eu]
 ·rintro τ S ⟨y,D',rfl,hS,cS,g⟩;rw[aG,cH]at cS;rw[aG]at hS;exact⟨y,S,D',rfl,⟨hS.md.mono (),hS.kw,hS.pm,hS.fr,hS.ml,hS.dl,hS.ql,hS.qd⟩,cS,g⟩
def Ww{B k f:Nat}{Fs:ae->jT->R A}{e:En}{w:ag}{x6:A}(hN:N<6)(ih:Fnw N d f Fs)(h:Kin N Q d M S0 T c D K)(pw:w.Perm<|rg N)(hb:Rw (Gm Q d M D) T B bs)(lb:Kl.LK N w<|Su.sm bs)(he:e∈bs)(hf:Po.val e.2.2 1≠0->Iv.inv e.1<f)(k1:1<=k)(k2:k<N)(hc:c+2562<16777216) :
  ∃(y7 y8 y9:A) (T':jT) (D' K':Es),pB Fs [x0,.ref d,x2,.ref M,.int k,.ref B,.tup<|e.1.map .int,x7,x8,x9,x10,x11] T=.nx [x0,.ref d,x2,.ref M,.int k,.ref B,.tup<|e.1.map .int,y7,y8,y9,x10,x11] T'/\Kin N Q d M S0 T' (c+2562) D' K'/\(∀u,u.Perm (rg N)->∀t,Su.cS (Su.sm D') u t=Su.cS (Su.sm D) u t+Su.cS (Kl.Cu k Kl.K (e.1,e.2.2)) u t)/\∀r es,Rw (Gm Q d M D) T r es->Rw (Gm Q d M D') T' r es:=by
 have em:=xH lb he;have j:e.1.Perm (rg N):=lb.kp.pm _ em;have le:=lY j;have one:(1:Int).natAbs<big:=cM (by decide:(1:Int).natAbs<=Kl.Cb 10) xx;have dn:=Yr j k1 k2;have x1:=λS:jT=>eix (co:=jR 6) (d:=jQ (jR 4) j5) (τ:=[x0,.ref d,x2,.ref M,.int k,.ref B,.tup<|e.1.map .int,x7,x8,x9,x10,x11]) (S:=S) (v:=(k:Int)) (by dsimp[kL,bools]) (by dsimp[kL,bools])<|Nc j () ();have x2':=λS:jT=>eix (co:=jR 6) (d:=jQ (j6 mF (jR 4)<|eC<|.int 1) j5) (τ:=[x0,.ref d,x2,.ref M,.int k,.ref B,.tup<|e.1.map .int,x7,x8,x9,x10,x11]) (S:=S) (v:=(k:Int)+1) (by dsimp[kL,bools]) (by dsimp[kL,bools])<|Nc j () ();obtain⟨T1,e1,q1⟩:=Ub (T:=T) (o:=e.1) (k:=k) ();obtain⟨h1,g1⟩:=h.yC q1;have b1:=g1 _ _ hb;obtain⟨T2,D2,e2,h2,c2,g2⟩:=h1.mT (s:=0) (m:=1) (o:=e.1.map<|Wd.sw k) hN pw (He.CQ j k1 k2) b1 lb he one ();have b2:=g2 _ _ b1;obtain⟨h3,Y⟩:=h2.lay<|.lst [.int 1,.int<|-1];obtain⟨T3,F⟩:∃T3,T3=T2++[O.lst [.int 1,.int<|-1]]:=⟨_,rfl⟩;rw[<- F]at h3 Y;have Z:=Y _ _ b2;obtain⟨C,U,e4,p,c4,g4⟩:=h3.mT (s:=if Kl.wM k e.1=true then -1 else 1) (m:=1) (o:=e.1) hN pw j Z lb he one ();have W:=g4 _ _ Z;have l3:jU T3 T2.length=some [.int 1,.int<|-1]:=by rw[F];exact ki
 have n3:newL [.int 1,.int<|-1] T2=.ok (.ref T2.length) T3:=by rw[F];exact vA (show 2<=16777216 by decide)
 have V:tu (.ref T2.length) (.int<|if Kl.wM k e.1=true then 1 else 0) T3=.ok (.int<|if Kl.wM k e.1=true then -1 else 1) T3:=by
  cases Kl.wM k e.1 with
  | true=>
   show tu (.ref T2.length) (.int 1) T3=.ok (.int<|-1) T3;dsimp[kL,l3,M5]
  | false=>
   show tu (.ref T2.length) (.int 0) T3=.ok (.int 1) T3;dsimp[kL,l3,Dm]
 have d1:=λS:jT=>Lr (n:=B) (o:=e.1) (S:=S);have i1:=IV b1.l (CP lb) he;have i3:=IV Z.l (CP lb) he;have i2:=IV b2.l (CP lb) he;have i4:=IV W.l (CP lb) he;have r4:kH C e.2.1=some (iv e.2.2):=(W.a e he).1;have J:∀u t,Su.cS (Su.sm U) u t=Su.cS (Su.sm D) u t+Su.cS (Kl.Vn k (e.1,e.2.2)) u t:=λu t=>by
  rw[c4,c2];show _=_+((if e.1.map (Wd.sw k)=u then Po.cf e.2.2 t else 0)+((if e.1=u then Po.cf (Kl.shl (if Kl.wM k e.1=true then -1 else 1) e.2.2) t else 0)+0));rw[Kl.JL,b8,dP,jo,jo,i_]
 have P:∀r es,Rw (Gm Q d M D) T r es->Rw (Gm Q d M U) C r es:=λr es z=>g4 r es<|Y r es<|g2 r es<|g1 r es z;have g:HM (zW<|jR 7) (uf<|j6 (yN true) (zU uQ (j6 z0 (jR 5)<|jR 6)<|jQ (eC<|.int 1)<|jQ (eC<|.int 0) j5)<|eC<|.int 0) [x0,.ref d,x2,.ref M,.int k,.ref B,.tup<|e.1.map .int,.bl<|Kl.wM k e.1,x8,x9,x10,x11] C=.ok (Kl.wM k e.1 && !(Po.val e.2.2 1 == 0)) C:=by
  cases hd:Kl.wM k e.1 with
  | true=>dsimp[kL,qu,bools,AB,i4,Rz r4,BV,r4,Po.yS,Bool.true_and]
  | false=>dsimp[kL,qu,bools,Bool.false_and]
 have L:∀(b:Bool) (S:jT),f1 Gr [.bl b] S=.ok (.int<|if b=true then 1 else 0) S:=λb S=>by cases b<;>rfl
 have fin:∀(y8 y9:A) (T':jT) (D' K':Es),zY (HM (zW<|jR 7)<|uf<|j6 (yN true) (zU uQ (j6 z0 (jR 5)<|jR 6)<|jQ (eC<|.int 1)<|jQ (eC<|.int 0) j5)<|eC<|.int 0) (kD (kR (eFn Fs<|jQ (jR 6)<|jQ (jR 1) j5)<|kY 8)<|mw (qO Fs) (kY 9)<|qL Fs) rR [x0,.ref d,x2,.ref M,.int k,.ref B,.tup<|e.1.map .int,.bl<|Kl.wM k e.1,x8,x9,x10,x11] C=.nx [x0,.ref d,x2,.ref M,.int k,.ref B,.tup<|e.1.map .int,.bl<|Kl.wM k e.1,y8,y9,x10,x11] T' ->
   pB Fs [x0,.ref d,x2,.ref M,.int k,.ref B,.tup<|e.1.map .int,x7,x8,x9,x10,x11] T=.nx [x0,.ref d,x2,.ref M,.int k,.ref B,.tup<|e.1.map .int,.bl<|Kl.wM k e.1,y8,y9,x10,x11] T':=λy8 y9 T' D' K' hh=>by
  unfold pB;dsimp[kL,qu,bools,x1,x2',dn,e1,i1,e2,i2,n3,L,V,e4,↓hh]
 cases hw:(Kl.wM k e.1 && !(Po.val e.2.2 1 == 0))with
 | false=>
  rw[hw]at g;refine⟨_,x8,x9,C,U,K,fin x8 x9 C U K<|by dsimp[kL,↓g],⟨p.md.mono (),p.kw,p.pm,p.fr,p.ml,p.dl,p.ql,p.qd⟩,λu pu t=>?_,P⟩;rw[J];unfold Kl.Cu;rw[aI λz=>by rw[z.2,cT.mpr z.1]at hw;exact Bool.noConfusion hw];rw[cI]
 | true=>
  rw[hw]at g;rw[b_]at hw;obtain⟨hw1,G⟩:=hw;have h0:Po.val e.2.2 1≠0:=by
   intro z;rw[z]at G;cases G
  obtain⟨R,T5,K5,rs,e5,h5,r5,l5,g5⟩:=p.ack ih (hf h0) j;obtain⟨y,T6,D6,e6,q,c6,g6⟩:=Zx (Fs:=Fs) (x0:=x0) (x2:=x2) (x4:=.int k) (x7:=.bl<|Kl.wM k e.1) (x9:=x9) (x10:=x10) (x11:=x11) hN h5 pw j (g5 _ _ W) lb he h0 r5 l5 ();refine⟨_,.ref R,y,T6,D6,K5,fin _ _ T6 D6 K5<|by dsimp[kL,↓g,e5,↓e6],⟨q.md.mono (),q.kw,q.pm,q.fr,q.ml,q.dl,q.ql,q.qd⟩,λu pu t=>?_,λr es z=>g6 r es<|g5 r es<|P r es z⟩;rw[c6,J];unfold Kl.Cu;rw[aJ ⟨h0,hw1⟩,Su.oO,dP,He.BH];show _+(_+_)=_+(_+He.cv [((0:Int),-Po.val e.2.2 1)] (Su.cS (Kl.K e.1) u) t);rw[Kl.OD,l5.K hN j _ pu]
end
end K42
namespace K42
open PySem L2 Am
open Po (Pl iv)
open Su (Es En)
open Fw (rg)
section
variable {N d M:Nat}{Q:Nat->Prop}{S0 T:jT}{D K bs:Es}
def Tn{B k f:Nat}{Fs:ae->jT->R A}{w:ag}(hN:N<6)(ih:Fnw N d f Fs)(h:Kin N Q d M S0 T 0 [] K)(pw:w.Perm<|rg N)(hb:Rw (Gm Q d M []) T B bs)(lb:Kl.LK N w<|Su.sm bs)(hf:Iv.inv w<f)(k1:1<=k)(k2:k<N) :
  ∃(y6 y7 y8 y9:A) (T':jT) (D' K':Es),mw (tZ Fs) (kY 6) (pB Fs) [x0,.ref d,x2,.ref M,.int k,.ref B,x6,x7,x8,x9,x10,x11] T=.nx [x0,.ref d,x2,.ref M,.int k,.ref B,y6,y7,y8,y9,x10,x11] T'/\Kin N Q d M S0 T' 307440 D' K'/\∀u,u.Perm (rg N)->∀t,Su.cS (Su.sm D') u t=Su.cS ((Su.sm bs).flatMap<|Kl.Cu k Kl.K) u t:=by
 obtain⟨h1,F⟩:=h.fz hb;obtain⟨T1,c⟩:∃T1,T1=T.set B (O.dcf<|bs.map Su.kv):=⟨_,rfl⟩;rw[<- c]at h1 F;have ln:=lb.many hN;rw[Su.vI]at ln;refine vZ (xs:=bs.map λe=>.tup<|e.1.map .int) (S1:=T1) (show tZ Fs _ _=_ from by rw[c];exact EA (by dsimp[kL,bools]) hb.l)
  (λi τ S=>∃(y6 y7 y8 y9:A) (D' K':Es),τ=[x0,.ref d,x2,.ref M,.int k,.ref B,y6,y7,y8,y9,x10,x11]/\Kin N Q d M S0 S (2562 * i) D' K'/\(∀u,u.Perm (rg N)->∀t,Su.cS (Su.sm D') u t=Su.cS ((Su.sm<|bs.take i).flatMap<|Kl.Cu k Kl.K) u t)/\Rw (Gm Q d M D') S B bs)
  (λr=>∃(y6 y7 y8 y9:A) (T':jT) (D' K':Es),r=.nx [x0,.ref d,x2,.ref M,.int k,.ref B,y6,y7,y8,y9,x10,x11] T'/\Kin N Q d M S0 T' 307440 D' K'/\∀u,u.Perm (rg N)->∀t,Su.cS (Su.sm D') u t=Su.cS ((Su.sm bs).flatMap<|Kl.Cu k Kl.K) u t)
  ⟨_,_,_,_,[],K,rfl,h1,λu _ t=>rfl,F _ _ hb⟩ ?_ ?_
 ·rintro i z τ S q ⟨y6,y7,y8,y9,D',K',rfl,hS,cS,m⟩;rw[aQ]at q;obtain⟨e,g,rfl⟩:=aY.mp q;have j:=aX g;have hi:=(aF.mp g).1;have le:Po.val e.2.2 1≠0->Iv.inv e.1<f:=λz=>cM (lb.kp.lo e.1 (lb.kp.pm _<|xH lb j) 1 (by have:=lb.toNd.val (xH lb j) 1;rw[<- this];exact z)).le hf;obtain⟨V,P,U,T2,G,J,e2,p,c2,L⟩:=Ww (x0:=x0) (x2:=x2) (x6:=y6) (x7:=y7) (x8:=y8) (x9:=y9) (x10:=x10) (x11:=x11) hN ih hS pw m lb j le k1 k2 ();refine⟨[x0,.ref d,x2,.ref M,.int k,.ref B,.tup<|e.1.map .int,y7,y8,y9,x10,x11],S,rfl,.inl ⟨_,T2,e2,_,_,_,_,G,J,rfl,by rw[jM,Nat.mul_one];exact p,λu C t=>?_,L _ _ m⟩⟩;rw[c2 u C t,cS u C t,cL,g,Su.zz,i6,Su.oO];show _=_+Su.cS (Kl.Cu k Kl.K (e.1,e.2.2)++[]) u t;rw[cI]
 ·rintro τ S ⟨y6,y7,y8,y9,D',K',rfl,hS,cS,m⟩;rw[aG]at hS cS;rw[cH]at cS;exact⟨y6,y7,y8,y9,S,D',K',rfl,⟨hS.md.mono (),hS.kw,hS.pm,hS.fr,hS.ml,hS.dl,hS.ql,hS.qd⟩,cS⟩
structure Fnd3 (N:Nat)(Q:Nat->Prop)(d M F:Nat)(S0 T:jT)(D K E:Es):Prop where
 rd:Rw (λx=>Q x\/x=d\/x=F) T M D
 kw:Kw N (λx=>Q x\/x=F) T d K
 ff:kj T F=some (E.map Su.kv)
 ee:∀f∈E,kH T f.2.1=some (iv f.2.2)/\S0.length<=f.2.1/\f.2.1≠F
 fr:Kz (λx=>x=d) Q S0 T
 fl:S0.length<=F
def T9{c:Nat}{Fs:ae->jT->R A}(hN:N<6)(h:Kin N Q d M S0 T c D K)(hc:c<16777216)(hF:kj T F=some [])(fl:S0.length<=F)(fm:¬Gm Q d M D F)(fk:Kw N (λx=>(Q x\/ow M D x)\/x=F) T d K) :
  ∃(y6 y11:A) (T':jT) (E:Es),mw (qM Fs) (kY 6) (qP Fs) [x0,.ref d,x2,.ref M,x4,x5,x6,x7,x8,x9,.ref F,x11] T=.nx [x0,.ref d,x2,.ref M,x4,x5,y6,x7,x8,x9,.ref F,y11] T'/\Fnd3 N Q d M F S0 T' D K E/\Su.sm E=Kl.F2 (Su.sm D):=by
 have Mlt:=Su.oS h.md.dd;have dM:d≠M:=λz=>by have:=h.ml M<|.inl rfl;have:=h.dl;lia
 have FM:F≠M:=λz=>fm<|.inl<|.inr<|.inl z;have dF:F≠d:=λz=>fm<|.inr z;obtain⟨T1,L⟩:∃T1,T1=T.set M (O.dcf<|D.map Su.kv):=⟨_,rfl⟩;have z1:Kz (λ_=>False) (λx=>x≠M) T T1:=by rw[L];exact Kz.refl.fzD (wF h.md.dd) (.inl λz=>z rfl)
 have Z:∀e∈D,e.2.1≠d/\¬Q e.2.1/\e.2.1≠F:=λe m=>by
  have:=h.ml e.2.1<|.inr ⟨e,m,rfl⟩;refine⟨λz=>by have:=h.dl;lia,λz=>by have:=h.ql _ z;lia,λz=>fm<|.inl<|.inr<|.inr ⟨e,m,z⟩⟩
 have f1:Fnd3 N Q d M F S0 T1 D K []:=⟨⟨z1.dcr (λz=>z)<|wF h.md.dd,λe m=>⟨z1.Qh (λz=>z)<|xG<|h.md.aa e m,λz=>z.elim (Z e m).2.1 λq=>q.elim (Z e m).1 (Z e m).2.2⟩,λz=>by
   have:=h.ml M (.inl rfl)
   rcases z with z|z|z
   ·have:=h.ql _ z;lia
   ·exact dM z.symm
   ·exact FM z.symm⟩,fk.go z1 (λ_ _ z=>z.elim) (λ_ _ z=>z.imp .inl id) (λz=>z) dM,z1.dct (λz=>z) FM hF,(nofun),h.fr.old z1 (λ_ _ _ z=>z) (λn _ z e=>by have:=h.ml M<|.inl rfl;have:=h.ql n z;lia),fl⟩
 have ln:=h.many hN;refine vZ (xs:=D.map λe=>.tup<|e.1.map .int) (S1:=T1) (show qM Fs _ _=_ from by rw[L];exact EA (by dsimp[kL,bools])<|wF h.md.dd)
  (λi τ S=>∃(y6 y11:A) (E:Es),τ=[x0,.ref d,x2,.ref M,x4,x5,y6,x7,x8,x9,.ref F,y11]/\Fnd3 N Q d M F S0 S D K E/\Su.sm E=Kl.F2 (Su.sm<|D.take i))
  (λr=>∃(y6 y11:A) (T':jT) (E:Es),r=.nx [x0,.ref d,x2,.ref M,x4,x5,y6,x7,x8,x9,.ref F,y11] T'/\Fnd3 N Q d M F S0 T' D K E/\Su.sm E=Kl.F2 (Su.sm D))
  ⟨_,_,[],rfl,f1,rfl⟩ ?_ ?_
 ·rintro i z τ S hz ⟨y6,y11,E,rfl,hS,J⟩;rw[aQ]at hz;obtain⟨e,m,rfl⟩:=aY.mp hz;have V:=aX m;have hi:=(aF.mp m).1;obtain⟨ea,eb⟩:=hS.rd.a e V;obtain⟨S1,e1,r1,q1⟩:=Y_ ea (h.md.np e V)<|cM (h.md.ln e V) hc;have i1:=IV hS.rd.l h.md.ap.nd V;have dS:d≠e.2.1:=λz=>eb<|.inr<|.inl z.symm;have FS:F≠e.2.1:=λz=>eb<|.inr<|.inr z.symm;have lF:=Su.oS hS.ff;have ld:=Su.oS hS.kw.dd;have sd:∀G:Nat->Prop,Fnd3 N Q d M F S0 S1 D K E:=λ_=>⟨hS.rd.go q1 (λ_ _ z=>z.elim) λ_ _ z=>z,hS.kw.go q1 (λ_ _ z=>z.elim) (λ_ _ z=>z) (λz=>z) dS,q1.dct (λz=>z) FS hS.ff,λf hf=>⟨q1.Qh (λz=>z) (hS.ee f hf).1,(hS.ee f hf).2⟩,hS.fr.old q1 (λ_ _ _ z=>z) λn _ z q=>eb<|.inl<|by rw[<- q];exact z,hS.fl⟩;have h1:=sd λ_=>False;obtain⟨k,P⟩:∃k,k=e.2.2.filter λq=>q.2 != 0:=⟨_,rfl⟩;rw[<- P]at r1;obtain⟨S2,B⟩:∃S2,S2=S1++[O.nX []]:=⟨_,rfl⟩;have k2:nt S1 S2:=by rw[B];kpf_c
  have n2:kQ S2 S1.length=some []:=by rw[B];exact t7
  have r2:=k2.dk _ _ (λz=>z) r1;have U:TM (.ref S.length) (.ref S1.length) S2=.ok (.bl<|!k.isEmpty) S2:=by
   show opt (kH S2 S.length) (λkvs=>opt (kQ S2 S1.length) λms=>_)=_;rw[xG r2,kg,n2,kg];have:(iv k).isEmpty=k.isEmpty:=by cases k<;>rfl
   rw[this];rfl
  have k2z:Kz (λ_=>False) (λ_=>True) S1 S2:=k2.kz;have h2:Fnd3 N Q d M F S0 S2 D K E:=⟨h1.rd.go k2z (λ_ _ z=>z.elim) λ_ _ z=>z,h1.kw.go k2z (λ_ _ z=>z.elim) (λ_ _ z=>z) (λz=>z) trivial,k2z.dct (λz=>z) trivial h1.ff,λf hf=>⟨k2z.Qh (λz=>z) (h1.ee f hf).1,(h1.ee f hf).2⟩,h1.fr.old k2z (λ_ _ _ z=>z) λ_ _ _=>trivial,h1.fl⟩;have tk:Su.sm (D.take<|i+1)=Su.sm (D.take i)++[(e.1,e.2.2)]:=by
   rw[cL,m,Su.zz];rfl
  have one:Kl.F2 [(e.1,e.2.2)]=if k.isEmpty=true then[]else[(e.1,k)]:=by
   show List.filter _ [(e.1,e.2.2.filter λq=>q.2 != 0)]=_;rw[<- P]
   cases k<;>rfl
  refine⟨[x0,.ref d,x2,.ref M,x4,x5,.tup<|e.1.map .int,x7,x8,x9,.ref F,y11],S,rfl,.inl ?_⟩;unfold qP
  cases hb:k.isEmpty with
  | true=>
   rw[hb]at U one;refine⟨[x0,.ref d,x2,.ref M,x4,x5,.tup<|e.1.map .int,x7,x8,x9,.ref F,.ref S.length],S2,?_,_,_,E,rfl,h2,?_⟩
   ·dsimp[kL,qu,bools,Zc,acd,abu,i1,e1,qT,<- B,U,dg]
   ·rw[tk,Kl.MH,one,J];exact(cI _).symm
  | false=>
   rw[hb]at U one;have nE:Su.fE E e.1=none:=by
    cases hf:Su.fE E e.1 with
    | none=>rfl
    | some f=>
     exfalso;obtain⟨a,b⟩:=Su.pT hf;have m1:f.1∈(Su.sm E).map Prod.fst:=aW.mpr ⟨_,aW.mpr ⟨f,a,rfl⟩,rfl⟩;rw[J]at m1;obtain⟨g,hg,e3⟩:=aW.mp m1;obtain⟨g',hg',rfl⟩:=aW.mp (bK.mp hg).1;obtain⟨g2,hg2,rfl⟩:=aW.mp hg';obtain⟨j,Y⟩:=f_.mp hg2;have lt:j<i:=by
      have:=(aF.mp Y).1;rw[bI]at this;lia
     rw[dN lt]at Y;have e1':(D.map Prod.fst)[j]?=some e.1:=by rw[aQ,Y,<- b,<- e3];rfl
     have W:(D.map Prod.fst)[i]?=some e.1:=by rw[aQ,m];rfl
     obtain⟨l1,g1⟩:=aF.mp e1';obtain⟨l2,g2'⟩:=aF.mp W;have:=(cZ h.md.ap.nd).mp (g1.trans g2'.symm)
     lia
   have pE:Su.mT E e.1 S.length k=E++[(e.1,S.length,k)]:=by
    unfold Su.mT;rw[nE];rfl
   have lE:E.length<=120:=by
    rw[<- Su.vI,J];unfold Kl.F2;refine bD (cC _ _) ?_;rw[aG,Su.vI,bI];lia
   obtain⟨S3,C⟩:∃S3,S3=S2.set F (O.dct<|(E++[(e.1,S.length,k)]).map Su.kv):=⟨_,rfl⟩;have st:yu (.ref F) (.tup<|e.1.map .int) (.ref S.length) S2=.ok Unit.unit S3:=by
    rw[Su.tF,h2.ff,kg,Su.BR (p:=k),pE,C];exact uE<|show(E.map Su.kv).length<16777216 by rw[aG];lia
   have k3:Kp (·=F) S2 S3:=by rw[C];exact Kp.refl.yW (.inl rfl)
   have k3z:Kz (·=F) (λ_=>True) S2 S3:=k3.kz;have lS:=q1.len;refine⟨[x0,.ref d,x2,.ref M,x4,x5,.tup<|e.1.map .int,x7,x8,x9,.ref F,.ref S.length],S3,?_,_,_,E++[(e.1,S.length,k)],rfl,⟨h2.rd.go k3z (λ_ _ z=>.inr<|.inr z) λ_ _ z=>z,h2.kw.go k3z (λ_ _ z=>.inr z) (λ_ _ z=>z) (λz=>dF z.symm) trivial,by rw[C];exact Su.wD<|Su.oS h2.ff,λf hf=>?_,h2.fr.old k3z (λn ln _ z=>by have:=h2.fl;lia) λ_ _ _=>trivial,h2.fl⟩,?_⟩
   ·dsimp[kL,qu,bools,Zc,acd,abu,i1,e1,qT,<- B,U,c_,Su.ug,st]
   ·rcases br.mp hf with z|z
    ·obtain⟨a,b,c'⟩:=h2.ee f z;exact⟨k3z.Qh c' a,b,c'⟩
    ·rw[aP.mp z];have l0:=hS.fr.len;exact⟨k3z.Qh (show ¬S.length=F by lia)<|xG r2,l0,by show S.length≠F;lia⟩
   ·rw[tk,Kl.MH,one,Su.zz,J];rfl
 ·rintro τ S ⟨y6,y11,E,rfl,hS,J⟩;rw[aG,cH]at J;exact⟨y6,y11,S,E,rfl,hS,J⟩
end
end K42
namespace K42
open PySem L2 Am
open Po (Pl iv)
open Su (Es En)
open Fw (rg)
def Wb{N:Nat}{k:Int}(h:k∈RY N o):∃j:Nat,k=j/\1<=j/\j<N/\Kl.wM j o=true:=by
 obtain⟨a,b⟩:=bK.mp h;have:=pM.mp a;exact⟨k.toNat,(),(),(),b⟩
def VJ{N:Nat}{o:ag}(J:o.Perm<|rg N)(h:RY N o=[]):o=rg N:=by
 have d:He.ff (He.bk o)=none:=by
  cases hf:He.ff (He.bk o)with
  | none=>rfl
  | some k=>
   exfalso;obtain⟨a,b,c⟩:=He.DN hf;rw[lY<|He.lX J]at b;have:(k:Int)∈RY N o:=bK.mpr ⟨pM.mpr (),by
    show Kl.wM (k:Int).toNat o=true;rw[eL];exact c⟩
   rw[h]at this;cases this
 have:=Kl.G8 (He.lX J) d;rw[<- He.oU J,this,He.Dw]
def abR{N k:Nat}{o:ag}(J:o.Perm<|rg N)(U:1<=k)(k2:k<N)(h:Kl.wM k o=true):Iv.inv o=Iv.inv (o.map<|Wd.sw k)+1:=by
 have d:=Kl.Rb (He.lX J) U k2 h;have:=d.iv;rw[<- He.G5 J U k2,He.Fb J,He.Fb<|He.CQ J U k2]at this;exact this
section
variable {N d M:Nat}{Q:Nat->Prop}{S0 T:jT}{D K:Es}
def yz{c:Nat}{Fs:ae->jT->R A}{o:ag}(hN:N<6)(h:Kin N Q d M S0 T c D K)(hc:c<16777216)(po:o.Perm<|rg N)(lk:Kl.LK N o<|Kl.F2<|Su.sm D) :
  ∃(r:Nat) (T':jT) (K' rs:Es),kD (kR vG<|kY 10) (kD (mw (qM Fs) (kY 6)<|qP Fs)<|kD (kR (jR 10)<|Co (jR 1)<|jR 0)<|mS<|jR 10) [.tup<|o.map .int,.ref d,x2,.ref M,x4,x5,x6,x7,x8,x9,x10,x11] T=.rt (.ref r) T'/\Kw N Q T' d K'/\Rw (λx=>Q x\/x=d) T' r rs/\Kl.LK N o (Su.sm rs)/\Kz (λx=>x=d) Q S0 T':=by
 obtain⟨T1,e⟩:∃T1,T1=T++[O.dct []]:=⟨_,rfl⟩;obtain⟨h1,Z⟩:=h.lay<|.dct [];rw[<- e]at h1;have C:kj T1 T.length=some []:=by rw[e];exact Su.o8
 have k:=h.fr.len;have dT:d<T.length:=Su.oS h.kw.dd;have U:¬Gm Q d M D T.length:=λz=>by
  rcases z with(z|z)|z
  ·have:=h.ql _ z;lia
  ·have:=h.md.QW z;lia
  ·lia
 have g:Kz (λ_=>False) (λ_=>True) T T1:=by rw[e];exact(Kp.refl.lay).kz
 have j:Kw N (λx=>(Q x\/ow M D x)\/x=T.length) T1 d K:=h.kw.go g (λ_ _ z=>z.elim) (λn ln z=>z.elim id λq=>absurd ln ()) (λz=>z) trivial;obtain⟨Y,G,T2,E,e2,f2,J⟩:=T9 (Fs:=Fs) (x0:=.tup<|o.map .int) (x2:=x2) (x4:=x4) (x5:=x5) (x6:=x6) (x7:=x7) (x8:=x8) (x9:=x9) (x11:=x11) hN h1 hc C k U j;have m:Rw (λx=>Q x\/x=d) T2 T.length E:=⟨wF f2.ff,λf hf=>by
   obtain⟨a,b,W⟩:=f2.ee f hf;refine⟨a,λz=>?_⟩
   rcases z with z|z
   ·have:=h.ql _ z;lia
   ·have:=h.dl;lia,λz=>by
   rcases z with z|z
   ·have:=h.ql _ z;lia
   ·lia⟩
 have L:Kw N Q T2 d K:=f2.kw.go (P:=λ_=>False) (Q':=λ_=>True) Kz.refl (λ_ _ z=>z.elim) (λ_ _ z=>.inl z) (λz=>z) trivial;rw[<- J]at lk;obtain⟨T3,V,e3,p,F,B⟩:=L.put hN po m lk;refine⟨T.length,T3,V,E,?_,p,F,lk,f2.fr.old (B.kz (Q:=λ_=>True)) (λ_ _ z=>z) λ_ _ _=>trivial⟩;dsimp[kL,qu,bools,Zc,aeu,Su.oh,<- e,↓e2,Su.ug,e3]
end
theorem Gj{N d:Nat}(hN:N<6):∀(f:Nat),Fnw N d f (mU f)
 | 0=>λ_ _ _ _ h _ _ _ _=>absurd h (d8 _)
 | f+1=>λQ T K o hf C hK ql qd=>by
  have ih:=Gj (d:=d) hN f;have lo:=lY C;have dT:d<T.length:=Su.oS hK.dd;show ∃(r:Nat) (T':jT) (K' Z:Es),lZ rK (rB<|mU f) [.tup<|o.map .int,.ref d] T=.ok (.ref r) T'/\_;have i1:Iz false (.tup<|o.map .int) (.ref d) T=.ok (.bl (lg (K.map Su.kv) o).isSome) T:=by
   show opt (kj T d) (λkvs=>opt (A.ints<|o.map .int) λns=>_)=_;rw[hK.dd,kg,ints_map];rfl
  unfold rB rK
  cases hL:Su.fE K o with
  | some e=>
   obtain⟨m1,rfl⟩:=Su.pT hL;obtain⟨Z,r1,r2⟩:=hK.at_ e m1;have lk:lg (K.map Su.kv) e.1=some (.ref e.2.1):=by rw[Su.nP,hL];rfl
   have x1:zZ (.ref d) (.tup<|e.1.map .int) T=.ok (.ref e.2.1) T:=by rw[Su.yL,hK.dd,kg,lk,kg]
   rw[lk]at i1;refine⟨e.2.1,T,K,Z,?_,hK,r1,r2,Kz.refl⟩;dsimp[kL,qu,bools,mY,Nat.reduceAdd,Nat.reduceSub,i1,jd,x1]
  | none=>
   have lk:lg (K.map Su.kv) o=none:=by rw[Su.nP,hL];rfl
   rw[lk]at i1;have wo:=VA (S:=T) (cap:=[.ref d,.unb,.unb,.unb,.unb,.unb,.unb,.unb,.unb,.unb,.unb]) C ();obtain⟨T1,G⟩:∃T1,T1=T++[O.lst<|(RY N o).map .int]:=⟨_,rfl⟩;have k1:nt T T1:=by rw[G];kpf_c
   have l1:jU T1 T.length=some ((RY N o).map .int):=by rw[G];exact ki
   obtain⟨T2,L⟩:∃T2,T2=T1++[O.dct []]:=⟨_,rfl⟩;have k2:nt T1 T2:=by rw[L];kpf_c
   have M2:kj T2 T1.length=some []:=by rw[L];exact Su.o8
   have l2:=k2.lst _ _ (λz=>z) l1;obtain⟨T3,Y⟩:∃T3,T3=T2++[O.lst []]:=⟨_,rfl⟩;have k3:nt T2 T3:=by rw[Y];kpf_c
   have J:nt T T3:=(k1.trans k2).trans k3;have n3:newL [] T2=.ok (.ref T2.length) T3:=by rw[Y];exact lK (show 0<=16777216 by decide)
   have q3:yN false (.ref T.length) (.ref T2.length) T3=.ok (.bl ((RY N o).map A.int).isEmpty) T3:=YE (eq_nil (k3.lst _ _ (λz=>z) l2)<|by rw[Y];exact ki);have lT1:=k1.len;have M3:=k3.dct _ _ (λz=>z) M2;have ow0:∀x,ow T1.length [] x->x=T1.length:=λx z=>z.elim id λ⟨_,h,_⟩=>nomatch h;have md3:Md T3 T1.length 0 []:=⟨M3,(nofun),List.Pairwise.nil,(nofun),(nofun)⟩;have M:Kin N Q d T1.length T T3 0 [] K:=⟨md3,hK.go (P:=λ_=>False) (Q':=λ_=>True) J.kz (λ_ _ z=>z.elim) (λn ln z=>z.elim id λq=>by have:=ow0 n q;lia) (λz=>z) trivial,(nofun),J.of0.kz,λx hx=>by rw[ow0 x hx];lia,dT,ql,qd⟩
   rcases iG (RY N o)with hw|⟨ws,k',hw⟩
   ·
    have oe:=VJ C hw;rw[hw]at q3;have M3':kj T3 T1.length=some []:=M3;obtain⟨F,V⟩:∃F,F=T3++[O.nX [((0:Int),A.int 1)]]:=⟨_,rfl⟩;have h4:kQ F T3.length=some (iv [((0:Int),(1:Int))]):=by rw[V];exact t7
    have k4:nt T3 F:=by rw[V];kpf_c
    obtain⟨m,_⟩:=M.yC k4;obtain⟨U,W⟩:∃U,U=F.set T1.length (O.dct<|([(o,T3.length,[((0:Int),(1:Int))])]:Es).map Su.kv):=⟨_,rfl⟩;have k5:Kp (·=T1.length) F U:=by rw[W];exact Kp.refl.yW (.inl rfl)
    have M4:=k4.dct _ _ (λz=>z) M3;have lT3:=J.len;have lM:=Su.oS M3;have d4:¬T3.length=T1.length:=()
    have st:yu (.ref T1.length) (.tup<|o.map .int) (.ref T3.length) F=.ok Unit.unit U:=by
     rw[Su.tF,M4,kg,W];exact uE<|show 0<16777216 by decide
    have ds:aa6 (eC<|.int 0) (eC<|.int 1) [.tup<|o.map .int,.ref d,.ref T.length,.ref T1.length,.unb,.unb,.unb,.unb,.unb,.unb,.unb,.unb] T3=.ok (.ref T3.length) F:=by rw[V];rfl
    have p:Kin N Q d T1.length T U 1 [(o,T3.length,[((0:Int),(1:Int))])] K:=by
     refine⟨⟨by rw[W];exact Su.wD<|Su.oS M4,λe j=>?_,cB _ _,λe j=>?_,λe j=>?_⟩,?_,λe j=>?_,?_,λx hx=>?_,dT,ql,qd⟩
     ·rw[aP.mp j];exact k5.dk _ _ d4 h4
     ·rw[aP.mp j];simp
     ·rw[aP.mp j];exact aO _
     ·refine hK.go (P:=λx=>x=T1.length) (Q':=λ_=>True) (T':=U) ((J.trans k4).of0.kz.old (k5.kz (Q:=λ_=>True)) (λ_ _ z=>z) λ_ _ z=>z) (λn ln z=>()) (λn ln z=>?_) () trivial
      rcases z with z|z|⟨e,j,z⟩
      ·exact z
      ·lia
      ·rw[aP.mp j]at z;have z:T3.length=n:=z
       lia
     ·rw[aP.mp j];exact C
     ·exact m.fr.old (k5.kz (Q:=λ_=>True)) (λn ln _ z=>()) λ_ _ _=>trivial
     ·rcases hx with z|⟨e,j,z⟩
      ·lia
      ·rw[aP.mp j]at z;have z:T3.length=x:=z
       lia
    obtain⟨r,T',K',Z,e6,a,b,c,d'⟩:=yz (Fs:=mU f) (x2:=.ref T.length) (x4:=.unb) (x5:=.unb) (x6:=.unb) (x7:=.unb) (x8:=.unb) (x9:=.unb) (x10:=.unb) (x11:=.unb) hN p ⋯ C (by
     have:=Kl.LK.one hN C oe;exact this)
    refine⟨r,T',K',Z,?_,a,b,c,d'⟩;dsimp[kL,qu,bools,mY,Nat.reduceAdd,Nat.reduceSub,i1,gT,wo,<- G,Su.oh,<- L,n3,q3,fV,iM,ds,Su.ug,st,↓e6]
   ·
    have km:k'∈RY N o:=by rw[hw,gb];exact List.mem_concat_self ..
    obtain⟨k,rfl,ka,kb,kd⟩:=Wb km;have ne:((RY N o).map A.int).isEmpty=false:=by rw[hw];simp
    rw[ne]at q3;have ia:sQ ((RY N o).map A.int) (-1)=some (.int (k:Int)):=by
     rw[hw,gb,bQ];exact HF _ _
    have l3:=k3.lst _ _ (λz=>z) l2;have iv1:=abR C ka kb kd;have ps:=He.CQ C ka kb;obtain⟨F,e4,k4⟩:=Ub (T:=T3) (o:=o) (k:=k) ();obtain⟨m,_⟩:=M.yC k4;obtain⟨B,U,K5,bs,e5,p,r5,lk5,_⟩:=m.ack ih (o:=o.map<|Wd.sw k) () ps;obtain⟨y6,y7,y8,y9,T6,D6,K6,e6,g,c6⟩:=Tn (Fs:=mU f) (x0:=.tup<|o.map .int) (x2:=.ref T.length) (x6:=.unb) (x7:=.unb) (x8:=.unb) (x9:=.unb) (x10:=.unb) (x11:=.unb) hN ih p ps r5 lk5 () ka kb;have ndD:Kl.Nd (Su.sm D6):=⟨by rw[yt];exact g.md.ap.nd,λe j=>by
     obtain⟨f,hf,rfl⟩:=aW.mp j;exact g.md.np f hf⟩
    have pmD:∀x∈Su.sm D6,x.1.Perm (rg N):=λx hx=>by
     obtain⟨f,hf,rfl⟩:=aW.mp hx;exact g.pm f hf
    have lk6:Kl.LK N o (Kl.F2<|Su.sm D6):=Kl.LK.step hN C ka kb kd lk5 (Kl.YW ndD) Kl.ZM Kl.Z4 (Kl.Zn (P:=λu=>u.Perm<|rg N) pmD) λu pu t=>by rw[Kl.Pj,c6 u pu t]
    obtain⟨r,T',K',Z,e7,a,b,c,d'⟩:=yz (Fs:=mU f) (x2:=.ref T.length) (x4:=.int k) (x5:=.ref B) (x6:=y6) (x7:=y7) (x8:=y8) (x9:=y9) (x10:=.unb) (x11:=.unb) hN g ⋯ C lk6;refine⟨r,T',K',Z,?_,a,b,c,d'⟩;have neg:Cv (.int 1) T3=.ok (.int<|-1) T3:=rfl;dsimp[kL,qu,bools,mY,Nat.reduceAdd,Nat.reduceSub,i1,gT,wo,<- G,Su.oh,<- L,n3,q3,neg,l3,ia,e4,e5,↓e6,↓e7]
end K42
namespace Nu
open PySem L2
abbrev fac:Nat->Nat
 | 0=>1
 | n+1=>(n+1) * fac n
abbrev unr:Nat->ag->Nat->ag
 | 0,_,_=>[]
 | n+1,l,m=>l.getD (m / fac n) 0::unr n (l.eraseIdx<|m / fac n) (m % fac n)
end Nu
namespace Stp
open PySem L2 Iv
end Stp
namespace Eu
open PySem L2 Bl
open Wd (ex)
open Fw (rg DE)
section
variable {n k:Nat}
def ln{z:ag}(p:z.Perm<|rg n):z.length=n:=by rw[p.length_eq,Wd.j_]
def exP{z:ag}(p:z.Perm<|rg n)(h0:1<=k)(h:k<n):(ex z k).Perm (rg n):=Fw.om p h0<|by rw[ln p];exact h
def exx{z:ag}(p:z.Perm<|rg n)(h0:1<=k)(h:k<n):ex (ex z k) k=z:=Fw.se h0<|by rw[ln p];exact h
def hi{z:ag}(p:z.Perm<|rg n)(h0:1<=k)(h:k<n):(ex z k).getD k 0=z.getD (k-1) 0:=Fw.Ux h0<|by rw[ln p];exact h
def lo{z:ag}(p:z.Perm<|rg n)(h0:1<=k)(h:k<n):(ex z k).getD (k-1) 0=z.getD k 0:=Fw.RU h0<|by rw[ln p];exact h
end
abbrev al (n:Nat):List (ag):=(List.range<|Nu.fac n).map<|Nu.unr n<|rg n
abbrev sg (z:ag):Int:=if Iv.inv z % 2=1 then -1 else 1
open Classical in
abbrev sm (n:Nat)(P:ag->Prop):Int:=((al n).map λz=>if P z then sg z else 0).sum
abbrev Bt (u w z:ag):Prop:=Below u z/\Below z w
end Eu
namespace Eu
open PySem L2 Bl Am
open Fw (rg)
abbrev ext (n:Nat)(p:ag):List (ag):=((rg n).filter λt=>decide<|t∉p).map λt=>p++[t]
abbrev inj (n:Nat):Nat->List (ag)
 | 0=>[[]]
 | k+1=>(inj n k).flatMap<|ext n
theorem AQ{n:Nat}:∀{k:Nat}{p:ag},p∈inj n k ↔ p.length=k/\p.Nodup/\∀t∈p,t∈rg n
 | 0,p=>by
  unfold inj;rw[aP];constructor
  ·rintro rfl;simp
  ·rintro⟨h,_⟩;exact dW.mp h
 | k+1,p=>by
  unfold inj;rw[gE];constructor
  ·rintro⟨q,f,e⟩;obtain⟨t,j,rfl⟩:=aW.mp e;obtain⟨h1,h2⟩:=bK.mp j;obtain⟨a,b,c⟩:=AQ.mp f;have h2:t∉q:=bP h2;refine⟨by simp[a],?_,λx d=>?_⟩
   ·rw[cO];refine⟨b,by simp,λx d y g z=>h2 ?_⟩;have:y=t:=by simpa using g
    rw[<- this,<- z];exact d
   ·rcases br.mp d with z|z
    ·exact c x z
    ·have:x=t:=by simpa using z
     rw[this];exact h1
  ·rintro⟨h1,h2,h3⟩
   rcases iG p with c|⟨q,t,c⟩
   ·rw[c]at h1;simp at h1
   ·rw[gb]at c;subst c;rw[cO]at h2;refine⟨q,AQ.mpr ⟨by simpa using h1,h2.1,λx d=>h3 x<|fj _ d⟩,aW.mpr ⟨t,bK.mpr ⟨h3 t<|by simp,a_ λz=>h2.2.2 t z t (by simp) rfl⟩,rfl⟩⟩
def U8{n:Nat}{p:ag}:p∈inj n n ↔ p.Perm (rg n):=by
 rw[AQ];constructor
 ·rintro⟨h1,h2,h3⟩;exact zS h2 h3 (by rw[h1,Wd.j_];exact aO _)
 ·intro c;exact⟨ln c,c.nodup_iff.mpr<|rL _ _,λt d=>c.mem_iff.mp d⟩
theorem DU{n:Nat}:∀(k:Nat),(inj n k).length<=n ^ k
 | 0=>aO _
 | k+1=>by
  have:∀(l:List<|ag),(l.flatMap<|ext n).length<=l.length * n:=λl=>by
   induction l with
   | nil=>exact bL _
   | cons p l c=>
    rw[dz,bg,bA,jn,gv];have:(ext n p).length<=n:=by
     unfold ext;rw[aG];exact bD (cC _ _)<|by rw[Wd.j_];exact aO _
    lia
  unfold inj;exact bD (this _)<|by rw[Nat.pow_succ];exact c7 _<|DU k
end Eu
namespace K42
open PySem L2 Am
def aeS(xs:ae)(j:Nat)(h:j<=xs.length):BG xs none (some (j:Int))=xs.take j:=by
 unfold BG;rw[HT.AA,HT.HL,List.drop_zero,iV (),sub_zero]
def slT{us:ag}{t:Nat}(h:t<us.length):Tf (.tup<|us.map .int) none (some (t:Int)) S=.ok (.tup<|(us.take t).map .int) S:=by
 have hg:¬(HT.oY (us.map A.int).length 0 none=0/\HT.oY (us.map A.int).length (us.map A.int).length (some (t:Int))=(us.map A.int).length):=by
  rw[HT.AA,aG]
  lia
 have hs:Tf (.tup<|us.map .int) none (some (t:Int)) S=.ok (.tup<|BG (us.map .int) none<|some (t:Int)) S:=nS hg;rw[hs,aeS _ t<|by rw[aG];lia,map_take]
def slD{us:ag}{t:Nat}(h0:1<=t)(h:t<=us.length):Tf (.tup<|us.map .int) (some (t:Int)) none S=.ok (.tup<|(us.drop t).map .int) S:=by
 have hg:¬(HT.oY (us.map A.int).length 0 (some (t:Int))=0/\HT.oY (us.map A.int).length (us.map A.int).length none=(us.map A.int).length):=by
  rw[HT.AA,aG]
  lia
 have hs:Tf (.tup<|us.map .int) (some (t:Int)) none S=.ok (.tup<|BG (us.map .int) (some (t:Int)) none) S:=nS hg;rw[hs];congr 2;unfold BG;rw[HT.AA,HT.HL,aG,iV (),List.take_of_length_le<|by simp,map_drop]
def Zd{xs:ag}{k:Nat}(h0:1<=k)(h:k<xs.length):xs.take (k-1)++[xs.getD k 0,xs.getD (k-1) 0]++xs.drop (k+1)=Wd.ex xs k:=by
 apply dm;intro p;rw[Wd.p9 h0 h,cA];have e1:xs[k]?=some (xs.getD k 0):=by rw[aK,aE h];rfl
 have e2:xs[k-1]?=some (xs.getD (k-1) 0):=by rw[aK,aE ()];rfl
 by_cases c1:p<k-1
 ·rw[bE<|by rw[bI];lia,dN c1,aI (),aI ()]
 ·rw[gh<|by rw[bI];lia,bI,iV ()];by_cases c2:p=k-1
  ·rw[aI (),aJ c2,e1,show p-(k-1)=0 by lia];rfl
  ·by_cases c3:p=k
   ·rw[aJ c3,e2,show p-(k-1)=1 by lia];rfl
   ·rw[aI c3,aI c2,show p-(k-1)=(p-(k+1))+2 by lia];show(xs.drop<|k+1)[p-(k+1)]?=_;rw[gQ,show k+1+(p-(k+1))=p by lia]
open Bl
open Fw (rg)
open Eu (inj ext)
meta abbrev nM (w:ag):A:=.tup<|w.map .int
def ZO{S:jT}{n:Nat}{xs ys:ae}(h1:jU S n=some xs)(h2:jU S m=some ys)(h3:xs.length+ys.length<=16777216):Fq (.ref n) [.ref m] S=.ok .non (S.set n<|.lst<|xs++ys):=by
 show opt (jU S n) _=_;rw[h1];show opt (jU S m) _=_;rw[h2];exact Vg h3
def Ji{xs ys:ag}(h:xs.length+ys.length<=16777216):mF (.tup<|xs.map .int) (.tup<|ys.map .int) S=.ok (.tup<|(xs++ys).map .int) S:=by
 skip
 rw[bQ];exact Vg<|by rw[aG,aG];exact h
def Yd{n k:Nat}(h:n<=6)(J:k<=n):n ^ k<=46656:=bD (Nat.pow_le_pow_left h k)<|bD (Nat.pow_le_pow_right ⋯ (show k<=6 by lia)) ⋯
theorem Bw{n:Nat}(h:n<=6):∀(l:List<|ag),(l.flatMap<|ext n).length<=l.length * 6
 | []=>bL _
 | p::l=>by
  rw[dz,bg,bA,jn,gv];have:(ext n p).length<=n:=by
   unfold ext;rw[aG];exact bD (cC _ _)<|by rw[Wd.j_];exact aO _
  have:=Bw h l
  lia
def U9{S:jT}{n:Nat}(h6:n<=6):∃(V:Nat) (S':jT),qV [.int n] S=.ok (.ref V) S'/\jU S' V=some ((inj n n).map nM)/\nt S S'/\S.length<=V:=by
 unfold qV zC zo;dsimp[kL,bools,mY,Nat.reduceAdd,Nat.reduceSub,nS<|show 0<=sizeLine from bL _];refine FU (lo:=0) (hi:=(n:Int)) (S1:=S++[O.lst [.tup []]]) (show zK _ _=_ from Bu (by dsimp[kL,bools])<|rm () ())
  (λi τ T=>∃(F:Nat) (K M J:A),τ=[.int n,.ref F,K,M,J]/\jU T F=some ((inj n i).map nM)/\nt S T/\S.length<=F)
  (λr=>∃(V:Nat) (S':jT),RS.end (RS.seq r _)=.ok (.ref V) S'/\jU S' V=some ((inj n n).map nM)/\nt S S'/\S.length<=V) ⟨S.length,_,_,_,rfl,ki,Kp.refl.lay,aO _⟩ ?_ ?_
 ·rintro i τ T hi ⟨F,K,M,J,rfl,B,kp,q⟩;left;have lF:=pF B;have P:=kp.len;have hin:i<n:=()
  have il:=Eu.DU (n:=n) i;have pw:=Yd h6 (show i<=n by lia);unfold zP;dsimp[kL,bools];have C:jU (T++[O.lst []]) F=some ((inj n i).map nM):=k_ B;obtain⟨m,U,ef,hW,kU⟩:=rY (n:=F) (xs:=(inj n i).map nM) (S1:=T++[O.lst []]) (g:=kY 4) (c:=vQ) (τ:=[.int n,.ref F,.int<|0+(i:Int),.ref T.length,J]) (S:=T++[O.lst []]) (show zN _ _=_ from qy (by dsimp[kL,bools]) C)
   (λj τ d=>(∃m,τ=[.int n,.ref F,.int<|0+(i:Int),.ref T.length,m])/\jU d F=some ((inj n i).map nM)/\jU d T.length=some ((((inj n i).take j).flatMap<|ext n).map nM)/\nt S d)
   (λr=>∃(m:A) (U:jT),r=.nx [.int n,.ref F,.int<|0+(i:Int),.ref T.length,m] U/\jU U T.length=some ((inj n<|i+1).map nM)/\nt S U) ⟨⟨_,rfl⟩,C,ki,kp.lay⟩ (λj τ d hh=>hh.2.1) (by
    rintro j z τ d Z ⟨⟨m,rfl⟩,G,f,k⟩;rw[aQ]at Z;obtain⟨p,W,rfl⟩:=aY.mp Z;have N:=(Eu.AQ.mp<|aX W).1;refine⟨[.int n,.ref F,.int<|0+(i:Int),.ref T.length,nM p],d,rfl,.inl ?_⟩;have Y:=yE (lo:=1) (hi:=(n:Int)+1) (cap:=[some 4]) (src:=qI (eC<|.int 1)<|j6 mF (jR 0)<|eC<|.int 1) (t:=uf<|j6 (RK true) (jR 0)<|jR 1) (e:=j6 mF (jR 1)<|wJ<|jQ (jR 0)<|j5) (τ:=[.int n,.ref F,.int<|0+(i:Int),.ref T.length,nM p]) (S:=d) (S1:=d)
     (xP (S1:=d) (by dsimp[kL,bools]) (by dsimp[kL,bools]) (rm () ())<|rm () ())
     (λt=>decide<|t∉p) (λt=>nM<|p++[t]) (λt _ _=>by
      have e:RK true (.int t) (nM p) d=.ok (.bl<|decide<|t∉p) d:=by
       show opt (inA d (.int t)<|p.map .int) _=_;rw[Ah,kg];by_cases c:t∈p
       ·rw[a_ c,bq λz=>z c];rfl
       ·rw[bq c,a_ c];rfl
      dsimp[kL,bools,e]) (λt _ _ _=>by
      have e:mF (nM p) (.tup [.int t]) d=.ok (nM<|p++[t]) d:=Ji (ys:=[t]) (by rw[N];show _+1<=_;lia);dsimp[kL,bools,vA<|show([_]:ae).length<=16777216 by simp,e]) ()
    have ee:(((mh 1<|(n:Int)+1).filter λt=>decide<|t∉p).map λt=>nM<|p++[t])=(ext n p).map nM:=by unfold ext;rw[bB];rfl
    rw[ee]at Y;have ht:(inj n i).take (j+1)=(inj n i).take j++[p]:=by
     obtain⟨hj,e⟩:=aF.mp W;rw[fB hj,e]
    have fl1:=Bw h6<|(inj n i).take j;have L:=Bw h6 [p];rw[dz,jB,cI]at L;have htl:((inj n i).take j).length<=46656:=by rw[bI];lia
    have x1:=ZO (S:=d++[.lst<|(ext n p).map nM]) (k_ f) ki (by
     rw[aG,aG];have:[p].length=1:=rfl
     lia)
    have lW:=pF f;unfold vQ;dsimp[kL,bools,f,Y,x1];refine⟨_,_,rfl,⟨_,rfl⟩,?_,?_,k.lay.set<|.inr P⟩
    ·rw[oM ()];exact k_ G
    ·rw[qR<|by rw[bg];exact bN lW<|iL _ _,ht,i6,bQ,dz,jB,cI]) (by
    rintro τ d ⟨⟨m,rfl⟩,G,f,k⟩;rw[aG,cH]at f;exact⟨m,d,rfl,f,k⟩)
  rw[ef];dsimp[kL,bools];exact⟨_,_,rfl,T.length,_,_,_,rfl,hW,kU,P⟩
 ·rintro τ T ⟨F,K,M,J,rfl,B,kp,q⟩;rw[show((n:Int)-0).toNat=n by lia]at B;dsimp[kL,bools];exact⟨F,T,rfl,B,kp,q⟩
open Wd (ex led kC)
open Fw (rg)
def Uv{xs:ag}{k:Nat}(J:1<=k)(U:k<xs.length)(hl:xs.length<=1000):lO [nM xs,.int k] S=.ok (nM<|ex xs k) S:=by
 have g:Tf (.tup<|xs.map .int) none (some<|(k:Int)-1) S=.ok (.tup<|(xs.take<|k-1).map .int) S:=by
  rw[show(k:Int)-1=((k-1:Nat):Int)by lia];exact slT ()
 have j:Tf (.tup<|xs.map .int) (some<|(k:Int)+1) none S=.ok (.tup<|(xs.drop<|k+1).map .int) S:=by
  rw[show(k:Int)+1=((k+1:Nat):Int)by lia];exact slD () ()
 have e:sQ (xs.map A.int) (k:Int)=some (.int<|xs.getD k 0):=ixD rfl ();have d:sQ (xs.map A.int) ((k:Int)-1)=some (.int<|xs.getD (k-1) 0):=ixD (k:=k-1) () ();have c:mF (.tup<|(xs.take<|k-1).map .int) (.tup [.int<|xs.getD k 0,.int<|xs.getD (k-1) 0]) S=.ok (.tup<|(xs.take (k-1)++[xs.getD k 0,xs.getD (k-1) 0]).map .int) S:=
  Ji (ys:=[xs.getD k 0,xs.getD (k-1) 0]) (by rw[bI];show _+2<=_;lia)
 have f:mF (.tup<|(xs.take (k-1)++[xs.getD k 0,xs.getD (k-1) 0]).map .int) (.tup<|(xs.drop<|k+1).map .int) S=.ok (.tup<|(ex xs k).map .int) S:=by
  rw[Ji<|by rw[bg,bI,dU];show _+2+_<=_;lia,Zd J U]
 unfold lO qz qv;dsimp[kL,qu,bools,mY,Nat.reduceAdd,Nat.reduceSub,g,e,d,Vg<|show 2<=sizeLine by rw[dR];decide,c,j,f]
def QF{i:Int}:qj [.int i] S=.ok (.bl true) S:=by
 unfold qj vC vK;dsimp[kL,bools,mY,Nat.reduceAdd,Nat.reduceSub,show Gx .int "int" = some true from rfl,show Gx .int "bool" = some false from rfl,c_]
def Q2{xs:ag}{n:Nat}{k:Int}:k∈fl xs n ↔ 1<=k/\k<n/\xs.getD k.toNat 0<xs.getD (k-1).toNat 0:=by
 unfold fl;rw[bK,pM,jh];constructor
 ·exact λh=>⟨h.1.1,h.1.2,h.2⟩
 ·exact λh=>⟨⟨h.1,h.2.1⟩,h.2.2⟩
def downs{S:jT}{n:Nat}{xs:ag}(J:xs.length=n)(h2:n<=20):mR [none,some 0] (qI (eC<|.int 1)<|kG (f1 q_)<|jQ (jR 0)<|j5) (kY 0) (uf<|j6 Ib (j6 tu (jR 1)<|j6 aSub (jR 0)<|eC<|.int 1)<|j6 tu (jR 1)<|jR 0) (jR 0) [nM xs,w1,w2] S=.ok (.ref S.length) (S++[.lst<|(fl xs n).map .int]):=by
 have c:=yE (lo:=1) (hi:=(n:Int)) (cap:=[some 0]) (src:=qI (eC<|.int 1)<|kG (f1 q_)<|jQ (jR 0)<|j5) (t:=uf<|j6 Ib (j6 tu (jR 1)<|j6 aSub (jR 0)<|eC<|.int 1)<|j6 tu (jR 1)<|jR 0) (e:=jR 0) (τ:=[nM xs,w1,w2]) (S:=S) (S1:=S)
  (xP (S1:=S) (by dsimp[kL,bools]) (by dsimp[kL,bools,aG,J]) (rm () ())<|rm () ())
  (λk=>decide<|xs.getD (k-1).toNat 0>xs.getD k.toNat 0) (λk=>.int k) (λk h1 h2=>by
   have f:sQ (xs.map A.int) (k-1)=some (.int<|xs.getD (k-1).toNat 0):=ixG () ();have d:sQ (xs.map A.int) k=some (.int<|xs.getD k.toNat 0):=ixG () ();dsimp[kL,bools,f,d]) (λk _ _ _=>by dsimp[kL,bools]) ()
 exact c
abbrev kI (k:Nat):A:=.int k
def WZ{S:jT}{n:Nat}{a:ag}(pa:a.Perm<|rg n)(hn:n<=20):∃(W:Nat) (w:am) (S':jT),rJ [nM a] S=.ok (.ref W) S'/\jU S' W=some (w.map kI)/\kC (rg n) w/\led (rg n) w=a/\nt S S'/\S.length<=W:=by
 have F:=lY pa;have iv:=Iv.Je a;have i4:a.length * a.length<=400:=by rw[F];exact fQ hn hn
 have B:=B8 (t:=qN) (c:=ur)
  (λτ T=>∃(z:ag) (v:am) (D:Nat),τ=[nM z,.ref S.length,.ref D]/\z.Perm (rg n)/\jU T S.length=some (v.map kI)/\jU T D=some ((fl z n).map .int)/\S.length<D/\kC z v.reverse/\led z v.reverse=a/\v.length+Iv.inv z=Iv.inv a/\nt S T)
  (λτ _=>match τ with
   | .tup xs::_=>Iv.inv ((A.ints xs).getD [])
   | _=>0)
  (λr=>∃(W:Nat) (w:am) (S':jT),RS.end (RS.seq r<|mS<|Pc NC<|jR 1)=.ok (.ref W) S'/\jU S' W=some (w.map kI)/\kC (rg n) w/\led (rg n) w=a/\nt S S'/\S.length<=W) ?_ 1000000
 ·unfold rJ w9 w4;dsimp[kL,bools,mY,Nat.reduceAdd,Nat.reduceSub,lK<|show([]:ae).length<=16777216 by simp,downs F hn];refine B _ _ ⟨a,[],(S++[O.lst []]).length,rfl,pa,k_ ki,ki,by simp,trivial,rfl,by simp,Kp.refl.lay.lay⟩ ?_;show Iv.inv ((A.ints<|a.map .int).getD [])<_;rw[ints_map];show Iv.inv a<_
  lia
 ·rintro τ T ⟨z,v,D,rfl,f,J,N,lD,K,G,hi,kp⟩;have lz:=lY f;have m:jU (T++[O.lst []]) D=some ((fl z n).map .int):=k_ N;have te:qN [nM z,.ref S.length,.ref D] T=.ok (!(fl z n).isEmpty) (T++[O.lst []]):=by
   unfold qN;have e:=eq_nil m<|ki (S:=T) (xs:=[]);rw[List.isEmpty_map]at e;dsimp[kL,bools,lK<|show([]:ae).length<=16777216 by simp,SH e]
  rcases iG (fl z n)with c|⟨l',C,c⟩
  ·left;refine⟨_,by rw[te,c];rfl,?_⟩;have U:z=rg n:=Fw.Kr f λk p=>by
    have:(k:Int)∈fl z n:=Q2.mpr ⟨by have:=p.1;lia,by have:=p.2.1;lia,by
     rw[show((k:Int)-1).toNat=k-1 by have:=p.1;lia,eL];exact p.2.2⟩
    rw[c]at this;cases this
   subst U;have g:jU (T++[O.lst []]) S.length=some (v.map kI):=k_ J;refine⟨(T++[O.lst []]).length,v.reverse,T++[O.lst []]++[O.lst (v.map kI).reverse],?_,?_,K,G,kp.lay.lay,?_⟩
   ·dsimp[kL,bools,g]
   ·rw[jy];exact ki
   ·have:=kp.len;rw[bg];lia
  ·right;rw[gb]at c;refine⟨T++[O.lst []],by rw[te,c];simp,.inl ?_⟩;obtain⟨d,j,q⟩:=Q2.mp (show C∈fl z n by rw[c];simp);obtain⟨k,rfl⟩:∃k:Nat,C=k:=⟨C.toNat,()⟩;rw[show((k:Int)-1).toNat=k-1 by lia,eL]at q;have d:1<=k:=()
   have j:k<n:=()
   have L:=Eu.exP f d j;have g:jU (T++[O.lst []]) S.length=some (v.map kI):=k_ J;have Z:sQ ((fl z n).map A.int) (-1)=some (.int k):=by rw[c,bQ];exact HF _ _
   have Y:=Uv (S:=T++[O.lst []]) (xs:=z) (k:=k) d () ();have lT:=kp.len;have P:(v.map kI).length<16777216:=by rw[aG];lia
   have V:jU ((T++[O.lst []]).set S.length<|.lst<|v.map kI++[.int k]) D=some ((fl z n).map .int):=by rw[oM ()];exact m
   unfold ur;dsimp[kL,bools,m,Z,Y,g,uE P,downs (lY L) hn];have li:=pF g;have M:=Fw.Bm (l:=ex z k) d (by rw[Wd.nA];lia) (by rw[Eu.lo f d j,Eu.hi f d j];exact q);rw[Eu.exx f d j]at M;refine⟨_,_,rfl,⟨ex z k,v++[k],_,rfl,L,?_,ki,by rw[cE,bg,iC];lia,?_,?_,?_,(kp.lay.set<|.inr<|aO _).lay⟩,?_⟩
   ·rw[bQ];exact k_ (qR li)
   ·rw[iZ];refine⟨d,by rw[Wd.nA];lia,by rw[Eu.lo f d j,Eu.hi f d j];exact q,?_⟩;rw[Eu.exx f d j];exact K
   ·rw[iZ];show led (ex (ex z k) k) v.reverse=a;rw[Eu.exx f d j];exact G
   ·rw[bg,iC];lia
   ·show Iv.inv ((A.ints<|(ex z k).map .int).getD [])<Iv.inv ((A.ints<|z.map .int).getD []);rw[ints_map,ints_map];show Iv.inv (ex z k)<Iv.inv z
    lia
def US{b n:Nat}{o:ag}{m:Int}(h:FZ S b)(po:o.Perm<|rg n)(h1:1<=n)(h2:n<=20)(m0:0<=m)(m1:m<=100):∃(u:ag) (S':jT),oZ [.ref b,nM o,.int m] S=.ok (nM u) S'/\u.Perm (rg n)/\FZ S' b/\Kp (·=b) S S':=by
 have hbS:b<S.length:=by obtain⟨_,_,e,_⟩:=h;exact pF e
 have lo:=lY po;obtain⟨W,w,S1,e1,l1,r1,_,k1,lW⟩:=WZ (S:=S) po h2;have wl:w.length<=400:=by
  have a1:=He.rq r1;have a2:=Iv.Je<|led (rg n) w;have a3:(led (rg n) w).length=n:=by rw[Wd.Ei,Wd.j_]
  rw[a3]at a2;have a4:n * n<=20 * 20:=fQ h2 h2
  lia
 have wm:∀k∈w,1<=k/\k<n:=λk hk=>by
  have:=Wd.kC.valid r1 k hk
  rwa [Wd.j_]at this
 have nW:W≠b:=()
 have b1:=h.kp k1 λz=>z;obtain⟨d,S2,e2,d0,d1,b2,k2⟩:=digit (m:=m+1) b1 () ();have l2:=k2.lst _ _ nW l1;have L:∃(y:A) (f:am) (T:jT),mw wL (kY 4) sU [.ref b,nM o,.int m,.ref W,.unb,.unb,.unb] S1=.nx [.ref b,nM o,.int m,.ref W,y,.unb,.unb] T/\jU T W=some (f.map kI)/\f.length<=400/\(∀k∈f,1<=k/\k<n)/\FZ T b/\Kp (λx=>x=b\/x=W) S2 T:=by
  refine FU (lo:=0) (hi:=d) (S1:=S2) (Bu (by dsimp[kL,qu,bools,e2])<|rm () ())
   (λi τ T=>∃(y:A) (f:am),τ=[.ref b,nM o,.int m,.ref W,y,.unb,.unb]/\jU T W=some (f.map kI)/\f.length<=400/\(∀k∈f,1<=k/\k<n)/\FZ T b/\Kp (λx=>x=b\/x=W) S2 T)
   (λr=>∃(y:A) (f:am) (T:jT),r=.nx [.ref b,nM o,.int m,.ref W,y,.unb,.unb] T/\jU T W=some (f.map kI)/\f.length<=400/\(∀k∈f,1<=k/\k<n)/\FZ T b/\Kp (λx=>x=b\/x=W) S2 T) ⟨_,w,rfl,l2,wl,wm,b2,Kp.refl⟩ ?_ ?_
  ·rintro i τ T hi ⟨y,f,rfl,hL,hl,P,hb,kp⟩;left;have p:jU (T++[O.lst []]) W=some (f.map kI):=k_ hL;have n0:newL [] T=.ok (.ref T.length) (T++[.lst []]):=lK (show 0<=16777216 by decide);have C:yN true (.ref W) (.ref T.length) (T++[.lst []])=.ok (.bl<|!(f.map kI).isEmpty) (T++[.lst []]):=SH<|eq_nil p ki;obtain⟨U,hU⟩:∃U,U=T++[O.lst []]:=⟨_,rfl⟩;have kU:nt T U:=by rw[hU];kpf_c
   rw[<- hU]at p n0 C;have bU:=hb.kp kU λz=>z;unfold sU
   cases f with
   | nil=>
    have C:yN true (.ref W) (.ref T.length) U=.ok (.bl false) U:=C;refine⟨[.ref b,nM o,.int m,.ref W,.int<|0+(i:Int),.unb,.unb],U,by dsimp[kL,qu,bools,n0,C],_,[],rfl,p,hl,P,bU,kp.trans kU.of0⟩
   | cons k ks=>
    have C:yN true (.ref W) (.ref T.length) U=.ok (.bl true) U:=C;obtain⟨j,U1,e3,j0,j1,b3,N⟩:=digit (S:=U) (m:=(((k::ks).length:Nat):Int)) bU (by rw[bA];lia) ();have K:=N.lst _ _ nW p;have Y:j.toNat<(k::ks).length:=()
    have Z:seqIndex? j (k::ks).length=some j.toNat:=Hg j0 Y;have lU:=pF K;refine⟨[.ref b,nM o,.int m,.ref W,.int<|0+(i:Int),.unb,.unb],U1.set W<|.lst<|((k::ks).map kI).eraseIdx j.toNat,?_,_,(k::ks).eraseIdx j.toNat,rfl,by rw[qR lU,yV],?_,λz M=>P z<|List.mem_of_mem_eraseIdx M,?_,?_⟩
    ·have ge:((k::ks).map kI)[j.toNat]?=some (kI<|(k::ks)[j.toNat]):=by rw[aQ,aE Y];rfl
     have ll:((k::ks).map kI).length=(k::ks).length:=aG ..;dsimp[kL,qu,bools,n0,C,p,ll,e3,K,Cf,nS<|show -(2 ^ 63:Int)<=j/\j<2 ^ 63 by lia,Z,ge]
    ·rw[jj Y];lia
    ·obtain⟨g,st,e,q⟩:=b3;exact⟨g,st,by rw[oM nW];exact e,q⟩
    ·exact((kp.trans kU.of0).trans<|N.mono λ_ _ z=>.inl z).yW (.inl<|.inr rfl)
  ·rintro τ T ⟨y,f,rfl,hL,hl,P,hb,kp⟩;exact⟨y,f,T,rfl,hL,hl,P,hb,kp⟩
 obtain⟨y,f,T,e3,l3,wl',V,b3,N⟩:=L;have kT:Kp (·=b) S T:=((k1.of0.trans k2).old N λn ln nb z=>());have rgl:(rg n).length=n:=Wd.j_ n;have G:∃(B:A) (u:ag) (F:jT),mw s_ (kY 6) sY [.ref b,nM o,.int m,.ref W,y,nM<|rg n,.unb] T=.nx [.ref b,nM o,.int m,.ref W,y,nM u,B] F/\u.Perm (rg n)/\F=T:=by
  refine rY (n:=W) (xs:=f.map kI) (S1:=T) (show s_ _ _=_ from qy (by dsimp[kL,bools]) l3)
   (λi τ U=>∃(B:A) (u:ag),τ=[.ref b,nM o,.int m,.ref W,y,nM u,B]/\u.Perm (rg n)/\U=T)
   (λr=>∃(B:A) (u:ag) (F:jT),r=.nx [.ref b,nM o,.int m,.ref W,y,nM u,B] F/\u.Perm (rg n)/\F=T) ⟨_,rg n,rfl,eF _,rfl⟩ (λi τ U hh=>by obtain⟨_,_,_,_,e⟩:=hh;rw[e];exact l3) ?_ ?_
  ·rintro i z τ U M ⟨B,u,rfl,J,rfl⟩;rw[aQ]at M;obtain⟨k,hk,rfl⟩:=aY.mp M;obtain⟨ka,kb⟩:=V k<|aX hk;have lu:=lY J;have x1:sQ (u.map A.int) (k:Int)=some (.int<|u.getD k 0):=ixD rfl ();have x2:sQ (u.map A.int) ((k:Int)-1)=some (.int<|u.getD (k-1) 0):=ixD (k:=k-1) () ();refine⟨[.ref b,nM o,.int m,.ref W,y,nM u,.int (k:Int)],U,rfl,.inl ?_⟩;unfold sY;by_cases c:u.getD (k-1) 0<u.getD k 0
   ·exact⟨[.ref b,nM o,.int m,.ref W,y,nM<|ex u k,.int (k:Int)],U,by dsimp[kL,qu,bools,x1,x2,a_ c,Uv (S:=U) ka (show k<u.length by lia) ()],_,_,rfl,He.om J ka kb,rfl⟩
   ·exact⟨[.ref b,nM o,.int m,.ref W,y,nM u,.int (k:Int)],U,by dsimp[kL,qu,bools,x1,x2,bq c],_,_,rfl,J,rfl⟩
  ·rintro τ U ⟨B,u,rfl,J,rfl⟩;exact⟨B,u,U,rfl,J,rfl⟩
 obtain⟨B,u,F,e4,J,rfl⟩:=G;refine⟨u,F,?_,J,b3,kT⟩;have tr:∀T:jT,sJ (.rng 1<|(n:Int)+1) T=.ok (nM<|rg n) T:=λT=>by
  exact Jc<|F8 (show(-1000000:Int)<=1 by decide) ⋯ (show -1000000<=(n:Int)+1 by lia) () ()
 unfold oZ uZ uX;dsimp[kL,qu,bools,mY,Nat.reduceAdd,Nat.reduceSub,e1,↓e3,aG,lo,tr,↓e4]
end K42
namespace K42
open PySem L2 Am
open Su (Es)
theorem Gp:∀es:Es,E1 (es.map Su.ent)=some (es.map Su.kv)
 | []=>rfl
 | e::es=>by
  show(A.ints<|e.1.map .int).bind (λc=>(E1<|es.map Su.ent).map λps=>(c,A.ref e.2.1)::ps)=_;rw[ints_map,Gp es];rfl
def U4{acc:List<|ag×A}{k:ag}(h:k∉acc.map Prod.fst):lg acc k=none:=by
 unfold lg;rw[fZ.mpr λp c z=>h<|aW.mpr ⟨p,c,bP z⟩];rfl
theorem HA:∀(ps acc:List<|ag×A),((acc++ps).map Prod.fst).Nodup->ps.foldl (λacc p=>putD acc p.1 p.2) acc=acc++ps
 | [],acc,_=>(cI _).symm
 | p::ps,acc,h=>by
  have hn:p.1∉acc.map Prod.fst:=λz=>by
   rw[bQ,cO]at h;exact h.2.2 p.1 z p.1 (aL ..) rfl
  have e:putD acc p.1 p.2=acc++[p]:=by
   unfold putD;rw[U4 hn,aI<|by simp]
  rw[cW,e,HA ps (acc++[p])<|by rw[cA];exact h,cA];rfl
def Rv{S:jT}{n:Nat}{es:Es}(h:Sm S n es)(nd:(es.map (·.1)).Nodup):JF (.ref n) S=.ok (.ref S.length) (S++[.dct<|es.map Su.kv]):=by
 show opt (jU S n) (λxs=>opt (E1 xs) λps=>R.ok (A.ref S.length)<|S++[O.dct<|MW ps])=_;rw[h.l,kg,Gp,kg];unfold MW;rw[HA _ []<|by rw[jI,bB];exact nd,jI]
open Po (Pl iv)
open Su (Es En)
open Fw (rg)
def W9{N:Nat}{x o:ag}(hN:N<6)(px:x.Perm<|rg N)(po:o.Perm<|rg N):∃S',BI [nM x,nM o] S=.ok (.int<|Su.cS (Kl.K o) x 1) S'/\nt S S':=by
 have M:=lY px;have lo:=lY po;have P:=xS (S:=S)<|M.trans lo.symm;have W:rH [nM o] S=.ok .non S:=by
  unfold rH xB wW;have:decide ((o.length:Int)>5)=false:=bq ();dsimp[kL,qu,bools,mY,Nat.reduceAdd,Nat.reduceSub,aG,this]
 obtain⟨S1,f⟩:∃S1,S1=S++[O.dct []]:=⟨_,rfl⟩;have J:nt S S1:=by rw[f];kpf_c
 have T:kj S1 S.length=some []:=by rw[f];exact Su.o8
 have h0:Kn N Kl.K S1 S.length []:=⟨T,Su.Gd.nil,(nofun),(nofun)⟩;have L:Iv.inv o<12:=by
  have:=Kl.yG o;rw[lo]at this;have h2:N * (N-1)<=5 * 4:=fQ () ()
  lia
 obtain⟨r,S2,K2,j,G,n2,B,e2,U⟩:=KQ (d:=S.length) hN 12 S1 [] o L po h0;have k:=Kl.Jp hN po;have nd:(j.map (·.1)).Nodup:=by
  have:=k.cn.gd.nd
  rwa [<- e2,yt]at this
 have ds:=Rv B nd;obtain⟨S3,e⟩:∃S3,S3=S2++[O.dct<|j.map Su.kv]:=⟨_,rfl⟩;have p:nt S2 S3:=by rw[e];kpf_c
 have m:kj S3 S2.length=some (j.map Su.kv):=by rw[e];exact Su.o8
 rw[<- e]at ds;obtain⟨q,Z,F⟩:=Su.get_or (o:=x) m (B.kp p).a;obtain⟨g,c⟩:∃g,g=S3++[O.lst []]:=⟨_,rfl⟩;have C:nt S3 g:=by rw[c];kpf_c
 have Y:newL [] S3=.ok (.ref S3.length) g:=by rw[c];exact lK (show 0<=16777216 by decide)
 rw[<- c]at F;have ok:Po.Ok (Su.vS (Su.sm j) x):=by rw[e2];exact k.cn.gd.v x
 have one:=E5 F ok;have V:Po.val (Su.vS (Su.sm j) x) 1=Su.cS (Kl.K o) x 1:=by
  rw[e2,Kl.Dq k.cn.gd.nd,Po.zh (k.cn.gd.v x).nd]
 rw[V]at one;have mg:Sk (.ref S2.length) [.tup<|x.map .int,.ref S3.length] g=.ok (.ref q) g:=by rw[Su.MB,C.dct _ _ (λz=>z) m,kg,Z]
 refine⟨g++[.nX<|iv<|Su.vS (Su.sm j) x],?_,((J.old U λn ln _ z=>()).trans<|p.trans C).lay⟩
 ·unfold BI JY Il;dsimp[kL,qu,bools,mY,Nat.reduceAdd,Nat.reduceSub,P,W,Su.oh,<- f,show tW=m_ 12 from rfl,G,ds,Su.LQ,Su.M9,m,dB,Y,<- c,mg,one]
def ZN{G:Nat->Prop}{r N:Nat}{x w:ag}{cr cx:Ex}(J:Rw G S r es)(U:Kl.LK N w<|Su.sm es)(er:∀T,cr τ T=.ok (.ref r) T)(ex:∀T,cx τ T=.ok (nM x) T) :
  ∃S',zU uQ (zU xX cr<|jQ cx<|jQ uK j5) (jQ (eC<|.int 1)<|jQ (eC<|.int 0) j5) τ S=.ok (.int<|Su.cS (Su.sm es) x 1) S'/\nt S S':=by
 obtain⟨S1,c⟩:∃S1,S1=S++[O.nX []]:=⟨_,rfl⟩;have f:nt S S1:=by rw[c];kpf_c
 have k:kQ S1 S.length=some (iv []):=by rw[c];exact t7
 have k1z:Kz (λ_=>False) (λ_=>True) S S1:=f.kz;have r1:=k1z.dcr (λz=>z) J.l;obtain⟨q,p,B,g,j⟩:∃(q:Nat) (p:Pl),(lg (es.map Su.kv) x).getD (.ref S.length)=.ref q/\kH S1 q=some (iv p)/\Po.val p 1=Su.cS (Su.sm es) x 1:=by
  cases hf:Su.fE es x with
  | none=>
   refine⟨S.length,[],by rw[Su.nP,hf];rfl,xG k,?_⟩;rw[Kl.Dq U.nd,Su.F6,hf];rfl
  | some e=>
   obtain⟨d,rfl⟩:=Su.pT hf;refine⟨e.2.1,e.2.2,by rw[Su.nP,hf];rfl,k1z.Qh (λz=>z) (J.a e d).1,?_⟩;exact U.toNd.val (xH U d) 1
 refine⟨S1,?_,f⟩;have m:xX (.ref r) [nM x,.ref S.length] S1=.ok (.ref q) S1:=by
  show xX (.ref r) [.tup<|x.map .int,_] S1=_;rw[Gg,r1,kg,B]
 dsimp[kL,qu,bools,AB,er,XJ J.l,ex,qT,<- c,m,Rz g,BV,g,Po.yS,j]
def O6{S:jT}{N:Nat}{o:ag}(U:N<6)(J:o.Perm<|rg N):∃(r:Nat) (S':jT) (rs:Es),qX [nM o,.ref S.length] (S++[.dct []])=.ok (.ref r) S'/\Rw (λx=>x=S.length) S' r rs/\Kl.LK N o (Su.sm rs)/\nt S S'/\S.length<=r/\∀e∈rs,S.length<=e.2.1:=by
 have j:Iv.inv o<12:=by
  have:=Kl.yG o;rw[lY J]at this;have h2:N * (N-1)<=5 * 4:=fQ () ()
  lia
 have c:nt S (S++[O.dct []]):=Kp.refl.lay;have m:S.length<(S++[O.dct []]).length:=by rw[bg];exact fN _
 obtain⟨r,S',p,rs,e1,_,r1,k,f⟩:=Gj (d:=S.length) U 12 (λx=>x<S.length) (S++[.dct []]) [] o j J ⟨Su.o8,dO,(nofun),(nofun)⟩ (λx z=>()) ();refine⟨r,S',rs,e1,r1.go (P:=λ_=>False) (Q':=λ_=>True) Kz.refl (λ_ _ z=>z.elim) λ_ _ z=>.inr z,k,⟨bD c.len f.len,λn o _ e=>?_⟩,gz λz=>r1.q<|.inl z,λe g=>gz λz=>(r1.a e g).2<|.inl z⟩;have ln:=wV e
 rcases f.obj n o () (c.obj n o (λz=>z) e)with z|⟨z,_⟩
 ·exact z
 ·exact absurd ln z
end K42
namespace K42
open PySem L2 Am
open Po (Pl iv)
open Su (Es En)
open Fw (rg)
def yf{G:Nat->Prop}{r N:Nat}{x o:ag}(J:N<6)(U:x.Perm<|rg N)(po:o.Perm<|rg N)(hr:Rw G S r es)(lk:Kl.LK N o<|Su.sm es):∃S',l9 [nM x,nM o,.ref r] S=.ok (.bl true) S'/\nt S S':=by
 obtain⟨S1,e1,d⟩:=W9 (S:=S) J U po;have c:=hr.go (d.kz (Q:=λ_=>True)) (λ_ _ z=>z.elim) λ_ _ z=>z;obtain⟨S2,e2,e⟩:=ZN (τ:=[nM x,nM o,.ref r,.int<|Su.cS (Kl.K o) x 1]) (cr:=jR 2) (cx:=jR 0) (x:=x) c lk (λT=>by dsimp[kL,bools]) (λT=>by dsimp[kL,bools]);rw[lk.K J po _ U]at e2;refine⟨S2,?_,d.trans e⟩;unfold l9 vP vN;dsimp[kL,qu,bools,mY,Nat.reduceAdd,Nat.reduceSub,e1,QF,e2,cg]
def J1{n:Nat}{bs:List Bool}(h:jU S n=some xs)(J:A.OI xs=some bs):W3 (.ref n) S=.ok (.bl<|bs.all λb=>b) S:=by
 show opt (jU S n) _=_;rw[h];show opt (A.OI xs) _=_;rw[J];rfl
theorem K_{α:Type}:∀xs:List α,A.OI (xs.map λ_=>A.bl true)=some (xs.map λ_=>true)
 | []=>rfl
 | x::xs=>by
  have c:=K_ xs;show A.OI (.bl true::xs.map λ_=>A.bl true)=_;unfold A.OI;rw[c];rfl
def aaq(ns:ag)(hl:ns.length<=63):∃S',C_ [.frz<|ns.map .int] []=.ok (.bl true) S':=by
 obtain⟨c0,W⟩:=Vj (S:=[]) (ns:=ns) (k:=0) ⋯;obtain⟨S1,e1,b1,k1⟩:=Wi (S:=[]) (c:=c0) (k:=1) ⋯ ⋯;have e1:qW [.int c0,.int 1] []=.ok (.ref 0) S1:=e1;have b1:FZ S1 0:=b1;obtain⟨q,S2,e2,q0,q1,b2,k2⟩:=digit (m:=8) b1 ⋯ ⋯;unfold C_ PR UN;by_cases h7:q=7
 ·subst h7;obtain⟨o,S3,e3,d,b3,k3⟩:=B_ (n:=5) b2 ⋯ ⋯;obtain⟨x,S4,e4,px,b4,k4⟩:=B_ (n:=5) b3 ⋯ ⋯;have d:o.Perm (rg 5):=d;have px:x.Perm (rg 5):=px;obtain⟨j,S5,e5,j0,j1,b5,k5⟩:=digit (m:=4) b4 ⋯ ⋯;have fin:∀(u:ag) (p:jT),u.Perm (rg 5)->∃(r:Nat) (F f:jT),qX [nM o,.ref p.length] (p++[.dct []])=.ok (.ref r) F/\l9 [nM u,nM o,.ref r] F=.ok (.bl true) f:=λu p pu=>by
   obtain⟨r,F,rs,M,r7,Y,_⟩:=O6 (S:=p) (N:=5) ⋯ d;obtain⟨f,B,_⟩:=yf (N:=5) ⋯ pu d r7 Y;exact⟨r,F,f,M,B⟩
  dsimp[kL,qu,bools,mY,Nat.reduceAdd,Nat.reduceSub,W,e1,e2,e3,e4,e5,cg];by_cases hj:j>0
  ·obtain⟨u,p,U,pu,b6,k6⟩:=US (m:=4) b5 d ⋯ ⋯ ⋯ ⋯;rw[a_ hj];have U:oZ [.ref 0,nM o,.int 4] S5=.ok (nM u) p:=U;obtain⟨r,F,f,M,B⟩:=fin u p pu;exact⟨f,by dsimp[kL,qu,bools,U,Su.oh,M,B]⟩
  ·rw[bq hj];obtain⟨r,F,f,M,B⟩:=fin x S5 px;exact⟨f,by dsimp[kL,qu,bools,Su.oh,M,B]⟩
 ·have b7:(q == 7)=false:=cT.mpr h7;obtain⟨L,hL⟩:∃L:ae,L=[A.int 4,.int 3,.int 4,.int 2,.int 1,.int 4]:=⟨_,rfl⟩;obtain⟨S3,J⟩:∃S3,S3=S2++[O.lst L]:=⟨_,rfl⟩;have n3:newL [A.int 4,.int 3,.int 4,.int 2,.int 1,.int 4] S2=.ok (.ref S2.length) S3:=by rw[J,hL];exact vA (show 6<=16777216 by decide)
  have l3:jU S3 S2.length=some L:=by rw[J];exact ki
  have b3:FZ S3 0:=b2.kp (c:=λ_=>False) (by rw[J];exact Kp.refl.lay) λz=>z;have lt2:0<S2.length:=by obtain⟨_,_,e,_⟩:=b2;exact pF e
  obtain⟨j,S4,e4,j0,j1,b4,k4⟩:=digit (m:=6) b3 ⋯ ⋯;have l4:=k4.lst _ _ () l3;obtain⟨n,hn,em⟩:∃n:Nat,(1<=n/\n<5)/\sQ L j=some (.int n):=by
   have:j=0\/j=1\/j=2\/j=3\/j=4\/j=5:=()
   rw[hL]
   rcases this with rfl|rfl|rfl|rfl|rfl|rfl
   ·exact⟨4,by decide,rfl⟩
   ·exact⟨3,by decide,rfl⟩
   ·exact⟨4,by decide,rfl⟩
   ·exact⟨2,by decide,rfl⟩
   ·exact⟨1,by decide,rfl⟩
   ·exact⟨4,by decide,rfl⟩
  obtain⟨o,S5,e5,d,b5,k5⟩:=B_ (n:=(n:Int)) b4 () ();have d:o.Perm (rg n):=d;have lo:=lY d;have Z:n<6:=()
  obtain⟨r,p,rs,U,r6,l6,k6,_⟩:=O6 (S:=S5) Z d;obtain⟨V,F,M,Y,k7,_⟩:=U9 (S:=p) (n:=n) ();have len:(Eu.inj n n).length<=16777216:=by
   have:=Eu.DU (n:=n) n;have h2:=Yd (n:=n) (k:=n) () (aO _)
   lia
  obtain⟨f,B,k8⟩:=Az (cap:=[some 2,some 4]) (src:=pV<|eFn qV<|jQ (kG (f1 q_)<|jQ (jR 2) j5) j5) (t:=OA) (e:=eFn l9<|jQ (jR 0)<|jQ (jR 1)<|jQ (jR 2) j5) (τ:=[.frz<|ns.map .int,.ref 0,nM o,.unb,.ref r]) (S:=p) (S1:=F) (xs:=(Eu.inj n n).map nM)
   (show pV _ _ _=_ from qy (by dsimp[kL,qu,bools,aG,lo,M]) Y) rfl (λ_=>False) (λT k i _=>by show(jU T V).bind _=_;rw[k.lst _ _ (λz=>z) Y];rfl) (λT k=>by
    show(match jU T V with
     | some ys=>decide (ys.length<=((Eu.inj n n).map nM).length)
     | none=>false)=true
    rw[k.lst _ _ (λz=>z) Y];exact a_<|aO _) (λ_=>true) (λ_=>.bl true) (λx hx T kT=>by
    obtain⟨u,hu,rfl⟩:=aW.mp hx;have rT:=r6.go ((k7.trans kT).kz (Q:=λ_=>True)) (λ_ _ z=>z.elim) λ_ _ z=>z;obtain⟨T2,e9,k9⟩:=yf Z (Eu.U8.mp hu) d rT l6;exact⟨T,rfl,Kp.refl,λ_=>⟨T2,by dsimp[kL,qu,bools,e9],k9⟩⟩) (by rw[aG];exact len)
  have ef:(((Eu.inj n n).map nM).filter λ_=>true).map (λ_=>A.bl true)=((Eu.inj n n).map nM).map λ_=>A.bl true:=by rw[i7.mpr λ_ _=>rfl]
  rw[ef]at B;obtain⟨P,G⟩:∃P,P=f++[O.lst<|((Eu.inj n n).map nM).map λ_=>A.bl true]:=⟨_,rfl⟩;rw[<- G]at B;have k9:nt f P:=by rw[G];kpf_c
  have a9:W3 (.ref f.length) P=.ok (.bl true) P:=by
   have:=J1 (S:=P) (n:=f.length) (by rw[G];exact ki)<|K_<|(Eu.inj n n).map nM;rw[this];have:((((Eu.inj n n).map nM).map λ_=>true).all λb=>b)=true:=eS.mpr λb hb=>by
    obtain⟨_,_,rfl⟩:=aW.mp hb;rfl
   rw[this]
  have r9:=r6.go (((k7.trans k8).trans k9).kz (Q:=λ_=>True)) (λ_ _ z=>z.elim) λ_ _ z=>z;obtain⟨K,e10,k10⟩:=yf Z d d r9 l6;have r10:=r9.go (k10.kz (Q:=λ_=>True)) (λ_ _ z=>z.elim) λ_ _ z=>z;have so:∀S:jT,Mp (.tup<|o.map .int) S=.ok (.ref S.length) (S++[.lst<|(sortI o).map .int]):=λS=>by
   show opt (A.ints<|o.map .int) _=_;rw[ints_map];exact Vg<|show o.length<64 by lia
  have ps:(sortI o).Perm (rg n):=(sortI_perm o).trans d;obtain⟨C,g⟩:∃C,C=K++[O.lst<|(sortI o).map .int]:=⟨_,rfl⟩;have k11:nt K C:=by rw[g];kpf_c
  have l11:jU C K.length=some ((sortI o).map .int):=by rw[g];exact ki
  have r11:=r10.go (k11.kz (Q:=λ_=>True)) (λ_ _ z=>z.elim) λ_ _ z=>z;obtain⟨S12,e12,_⟩:=yf Z ps d r11 l6;refine⟨S12,?_⟩;dsimp[kL,qu,bools,mY,Nat.reduceAdd,Nat.reduceSub,W,e1,e2,b7,n3,e4,l4,em,e5,Su.oh,U,B,a9,dg,e10,so,<- g,l11,e12]
end K42
namespace K42
open PySem L2 Am
def all_mk{l:PySem.W.OpenLaw}{w:ah}{K:au}{h:aq}{mg:Str->bb}{fa:ak}(X:K.In h)(G:h.Ns mainGlobals mg)(hfa:mg "law" = some (.ref fa))
  (a1:Df K "is_whole" xj)
  (a2:Df K "need_pair" vf)
  (a3:Df K "is_exchange" sS)
  (a4:Df K "exchanged_places" oQ)
  (a5:Df K "exchanged" uO)
  (a6:Df K "falls" Ej)
  (a7:Df K "as_polynomial" qD)
  (a8:Df K "plus" JT)
  (a9:Df K "times" Fd)
  (a10:Df K "put_before" tV)
  (a11:Df K "as_sum" Bs)
  (a12:Df K "need_like" vV)
  (a13:Df K "added" FL)
  (a14:Df K "scaled" Ci)
  (a15:Df K "by_exchange" sW)
  (a16:Df K "need_few" xr)
  (a17:Df K "number_at_one" qB)
  (a18:Df K "kept_by_fall" rG)
  (a19:Df K "found_kept" qK)
  (a20:Df K "lead" Jt)
  (a21:Df K "_law_cell" xh)
  (a22:Df K "_law_bag" yQ)
  (a23:Df K "_law_mixed" vM)
  (a24:Df K "_law_digit" uT)
  (a25:Df K "_law_order" uI)
  (a26:Df K "_law_exchanged" qA)
  (a27:Df K "_law_word" xJ)
  (a28:Df K "_law_lower" uW)
  (a29:Df K "_law_swapped" sF)
  (a30:Df K "_law_put" zy)
  (a31:Df K "_law_without_noughts" nu)
  (a32:Df K "_law_kept" uD)
  (a33:Df K "_law_whole" ve)
  (a34:Df K "_law_all" za)
  (a35:Df K "_law_right" vF)
  (a36:Df K "law" Pk)
  (adO:PySem.W.nsIn K mainGlobals "isinstance" = some none)
  (adS:PySem.W.nsIn K mainGlobals "bool" = some none)
  (adV:PySem.W.nsIn K mainGlobals "int" = some none)
  (adX:PySem.W.nsIn K mainGlobals "len" = some none)
  (ad0:PySem.W.nsIn K mainGlobals "list" = some none)
  (aec:PySem.W.nsIn K mainGlobals "tuple" = some none)
  (aek:PySem.W.nsIn K mainGlobals "range" = some none)
  (aen:PySem.W.nsIn K mainGlobals "sorted" = some none)
  (aeq:PySem.W.nsIn K mainGlobals "dict" = some none)
  (aes:PySem.W.nsIn K mainGlobals "abs" = some none)
  (aez:PySem.W.nsIn K mainGlobals "all" = some none)
  {adI:Tok} (aeA:PySem.W.nsIn K mainGlobals "MOST_THINGS" = some (some<|.int 5 adI))
  {a_AT_A_FALL:ak} (aeB:PySem.W.nsIn K mainGlobals "AT_A_FALL" = some (some<|.ref a_AT_A_FALL)) (kp_AT_A_FALL:klP K a_AT_A_FALL=some [((-1:Int),(1:Int)),((1:Int),(-1:Int))])
  : ∃fd:FuncData,(∀(s:az) (v:af),BindsTo s fd ⟨[v],[]⟩ [("_law_script",v)])/\∀base:aq,K.In base->base.Ns mainGlobals mg->FnOk l.prog w K mg base qG 32 fa fd ["_law_script"] (rP K 1 C_):=by
 obtain⟨f,fd,a,F⟩:=a36;have e:=hfa.symm.trans (jx X G a)
 cases e
 have P:=cQ X G adO;have O:=cQ X G adS;have q:=cQ X G adV;have d:=cQ X G adX;have p:=cQ X G ad0;have k:=cQ X G aec;have j:=cQ X G aek;have M:=cQ X G aen;have B:=cQ X G aeq;have adz:=cQ X G aes;have adD:=cQ X G aez;have adv:∃t,mg "MOST_THINGS" = some (.int 5 t):=⟨adI,jx X G aeA⟩;have g:∃a,mg "AT_A_FALL" = some (.ref a)/\klP K a=some [((-1:Int),(1:Int)),((1:Int),(-1:Int))]:=⟨a_AT_A_FALL,jx X G aeB,kp_AT_A_FALL⟩;refine⟨fd,λs v=>(by obtain⟨_,_,_,_,_,_,_,_,_,rfl,_,_⟩:=F.ex;exact .of_eq rfl),λbase _ _=>?_⟩;have E:En l.prog w K mg base:=⟨h,X,G⟩;have adp:=a1.kA E (λF=>HK F P O q)<|NI λ_ _ _ _ _ _ _=>rfl;have N:=a2.kA E (λF=>ED F d)<|D9 λ_ _ _ _ _ _ _ _=>rfl;have adq:=a3.kA E (λF=>BC F adp)<|D9 λ_ _ _ _ _ _ _ _=>rfl;have ads:=a4.kA E (λF=>wH F p k)<|us3 λ_ _ _ _ _ _ _ _ _=>rfl;have Z:=a5.kA E (λF=>EY F d adq ads)<|D9 λ_ _ _ _ _ _ _ _=>rfl;have m:=a6.kA E (λF=>UG F j d)<|NI λ_ _ _ _ _ _ _=>rfl;have U:=a7.kA E (λF=>yO F M)<|NI λ_ _ _ _ _ _ _=>rfl;have adt:=a8.kA E (λF=>Vw F B U)<|D9 λ_ _ _ _ _ _ _ _=>rfl;have T:=a9.kA E (λF=>ON F U)<|D9 λ_ _ _ _ _ _ _ _=>rfl;have J:=a10.kA E (λF=>Cr F adt)<|us3 λ_ _ _ _ _ _ _ _ _=>rfl;have C:=a11.kA E (λF=>Nr F M)<|NI λ_ _ _ _ _ _ _=>rfl;have adu:=a12.kA E (λF=>ER F N)<|D9 λ_ _ _ _ _ _ _ _=>rfl;have adl:=a13.kA E (λF=>Tq F adu J C)<|D9 λ_ _ _ _ _ _ _ _=>rfl;have adm:=a14.kA E (λF=>NU F J T C)<|D9 λ_ _ _ _ _ _ _ _=>rfl;have adw:=a15.kA E (λF=>Bp F p g J Z m T C)<|D9 λ_ _ _ _ _ _ _ _=>rfl;have adx:=a16.kA E (λF=>GC F d adv)<|NI λ_ _ _ _ _ _ _=>rfl;have V:=a17.kA E (λF=>zD F B)<|NI λ_ _ _ _ _ _ _=>rfl;have c:∀{Fs:ae->jT->R A} {kr:Nat},n8 l.prog w K mg base (5+2 * kr) "found_kept" mG Fs->n8 l.prog w K mg base (5+2 * kr+1) "kept_by_fall" nL (lZ lC<|lH Fs):=λG=>a18.kA E (λF=>zX F Z adl adm adw V m G)<|us3 λ_ _ _ _ _ _ _ _ _=>rfl;have ady:=a19.rA E (λF hm hk hb=>u7 F m c hm hk hb 12)<|D9 λ_ _ _ _ _ _ _ _=>rfl;have adB:=a20.kA E (λF=>WW F B N adx V ady)<|D9 λ_ _ _ _ _ _ _ _=>rfl;have adF:=a21.kA E (λF=>G6 F d)<|D9 λ_ _ _ _ _ _ _ _=>rfl;have adE:=a22.kA E (λF=>Jj F adz)<|D9 λ_ _ _ _ _ _ _ _=>rfl;have adn:=a23.kA E (λF=>FQ F)<|NI λ_ _ _ _ _ _ _=>rfl;have L:=a24.kA E (λF=>Fp F j adn)<|D9 λ_ _ _ _ _ _ _ _=>rfl;have adk:=a25.kA E (λF=>D3 F p j d k L)<|D9 λ_ _ _ _ _ _ _ _=>rfl;have Y:=a26.kA E (λF=>zc F)<|D9 λ_ _ _ _ _ _ _ _=>rfl;have adA:=a27.kA E (λF=>GQ F j d Y)<|NI λ_ _ _ _ _ _ _=>rfl;have adG:=a28.kA E (λF=>E9 F j d k adA L Y)<|us3 λ_ _ _ _ _ _ _ _ _=>rfl;have abJ:=a29.kA E (λF=>Br F k)<|D9 λ_ _ _ _ _ _ _ _=>rfl;have abm:=a30.kA E (λF=>I0 F)<|us5 λ_ _ _ _ _ _ _ _ _ _ _=>rfl;have acN:=a31.kA E (λF=>uv F)<|NI λ_ _ _ _ _ _ _=>rfl;have ado:=a32.rA E (λF hm hk hb=>xU F j d q abJ abm acN hm hk hb 12)<|D9 λ_ _ _ _ _ _ _ _=>rfl;have adC:=a33.kA E (λF=>Ew F P O q)<|NI λ_ _ _ _ _ _ _=>rfl;have adH:=a34.kA E (λF=>Jo F j)<|NI λ_ _ _ _ _ _ _=>rfl;have acS:=a35.kA E (λF=>E6 F adB adC)<|us3 λ_ _ _ _ _ _ _ _ _=>rfl;exact ZL F adD d k M adE adF L adk adG acS ado adH
def walk{l:PySem.W.OpenLaw}{q:aj}{XP:(Str->bb)->aq->Prop}{U:ah->aq->Prop}{d:DefRec}{K:Params->au}(hn:l.most=some 63)(J:d.params.defaults=[])
  (hY:∀(w:ah) (h:aq),U w h->(K w.params).In h)
  (F:∀(w:ah) (mg:Str->bb) (fa:ak) (h:aq),(K w.params).In h->h.Ns mainGlobals mg->mg d.name=some (.ref fa) ->
   ∃fd:FuncData,(∀(s:az) (u:af),BindsTo s fd ⟨[u],[]⟩ [("_law_script",u)])/\∀base:aq,(K w.params).In base->base.Ns mainGlobals mg->FnOk l.prog w (K w.params) mg base qG 32 fa fd ["_law_script"] (rP (K w.params) 1 C_)) :
  PySem.W.WalkO q loose XP U l.row.toRowW d [] (λf vs=>PySem.call f vs):=
 L2.WU (n:=63) (k:=32) (x := "_law_script") (CX:=λ_=>qG) (sp:=λw=>rP (K w.params) 1 C_) hn ⋯ J ⟨rfl,by decide,by decide,rfl⟩ hY F (λ_ H a e g c hS=>Ob c hS<|aaq e g) λ_ _ _ _ _ z=>z
end K42
open PySem PySem.W PyProof.Rows
namespace PySem.W.Fast
local macro_rules|`(command|universe $x*)=>do return Lean.mkNullNode (←x.mapM λx=>`(command|def $x:ident:=Nat))
universe tw1627725455005365585 tw17902700489408501769 tw1405556059192309732 tw17948420921147220516 tw14147577666383475542 tw12679588044920240219 tw5841848429401304955 tw1569104997876182494 tw9978747429536397214 tw3869061623101090371 tw6832262886055205781 tw472137486352103527 tw9820828372989682646 tw2545917136375461336 tw7039563663245600651 tw9964178984100856663 tw11213114017928950721 tw15826389677209261518 tw10194004726204521338 tw14289529890452779354 tw16154951837725040214 tw1382447200391319947 tw15774312759270526304 tw951620497418023310 tw4332044310304515992 tw6739858104964675424 tw17866810556331581340 tw5789331796809077180 tw2299434528512413509 tw9594689167011811106 tw14871171518958233568 tw543590436076567316 tw7648794254550209037 tw11962501238111140233 tw2182268548572790550 tw13118099231279936201 tw8110214957180341810 tw8233092398191940120 tw2261385097827859214 tw8586294204387882111 tw9400685452771466403 tw17004274807062975810 tw2670504158728390618 tw7835215230788139916 tw3112933321498668458 tw3922233069814429678 tw5291416807287149226 tw558574096019706686 tw7457218012287456468 tw6270932388203004235 tw16461410643674700502 tw9463463298851464477 tw16813992228512242065 tw7815285045618370676 tw8755451006107720798 tw9677588727718969946 tw15496009890051422269 tw7200766560781898821 tw10127211277744302612 tw10803220692102285189 tw4604138897848361998 tw7928534662519605596 tw8143712384900942282 tw15423797004309285788 tw9240658098401154577 tw10824824113031007661 tw13045637021455701166 tw3738362362488055282 tw8378654727042997152 tw16263135739474449536 tw17160400337859857759 tw10328390767786524729 tw4855721772420532956 tw1984445925262604055 tw13186752800070856979 tw12908056655239520825 tw3513801755845245035 tw6941162265551008870 tw17682998805694720340 tw7929265296574259226 tw6957273939575901109 tw6594711143582624031 tw12037750641601966303 tw9569835921190745786 tw14401143517695076255 tw5802659949630420980 tw8735388118196557786 tw10245917459377497304 tw16357535586214900694 tw9342443310871791389 tw9227951465726325290 tw10325625339833800721 tw13948042348494118748 tw14745308811101952995 tw8377859606070576322 tw13061253286493848549 tw5974171895255430185 tw3592466078695808473 tw12619857511685725808 tw11371949889673965128 tw10140433440825315936 tw16766829645807568633 tw10395660513057258549 tw12743232487589569137 tw14399579880401320668 tw15578959213426294377 tw9510053357767014340 tw16591799967662090875 tw6684179929100774794 tw7991643852965221464 tw4145594811120276957 tw17585526311522525402 tw10221121434566532890 tw831972054944776853 tw4707682504954860719 tw379213247222501650 tw16194304292332314845 tw1452698006542092396 tw15869417577603679869 tw4463713070409159309 tw15010147758556831205 tw7891179471678454361 tw8909744468388198298 tw2511370726626185219 tw13457377307877276105 tw14720706612772715841 tw7091701741966381524 tw3625033829211562597 tw18202316698442223692 tw16848610064453498656 tw11547503435195281014 tw8527987339406657275 tw5474974019272427622 tw17900860233671710138 tw9260180306087657877 tw13268783585935639167 tw8149167121152403664 tw18079371373192102205 tw12985742034689410575 tw7406166550264916370
end PySem.W.Fast
set_option maxRecDepth 100000 in
set_option maxHeartbeats 0 in
theorem PySem.Challenge.cw_undercells_k42_leads_holds : PySem.Challenge.rw_undercells_k42_leads.Holds := by
 w_on;o_law;k_head;(case hw=>w_witness2)
 k_fill
 refine K42.walk (l:=PySem.Challenge.rw_undercells_k42_leads) rfl rfl (fun w h Y=>PySem.W.kIn_of Y) ?F
 case F=>
  intro w mg fa h KX G hmg;refine' K42.all_mk KX G hmg (.of ?_ ?_ ?_ ?_) (.of ?_ ?_ ?_ ?_) (.of ?_ ?_ ?_ ?_) (.of ?_ ?_ ?_ ?_) (.of ?_ ?_ ?_ ?_) (.of ?_ ?_ ?_ ?_) (.of ?_ ?_ ?_ ?_) (.of ?_ ?_ ?_ ?_) (.of ?_ ?_ ?_ ?_) (.of ?_ ?_ ?_ ?_) (.of ?_ ?_ ?_ ?_) (.of ?_ ?_ ?_ ?_) (.of ?_ ?_ ?_ ?_) (.of ?_ ?_ ?_ ?_) (.of ?_ ?_ ?_ ?_) (.of ?_ ?_ ?_ ?_) (.of ?_ ?_ ?_ ?_) (.of ?_ ?_ ?_ ?_) (.of ?_ ?_ ?_ ?_) (.of ?_ ?_ ?_ ?_) (.of ?_ ?_ ?_ ?_) (.of ?_ ?_ ?_ ?_) (.of ?_ ?_ ?_ ?_) (.of ?_ ?_ ?_ ?_) (.of ?_ ?_ ?_ ?_) (.of ?_ ?_ ?_ ?_) (.of ?_ ?_ ?_ ?_) (.of ?_ ?_ ?_ ?_) (.of ?_ ?_ ?_ ?_) (.of ?_ ?_ ?_ ?_) (.of ?_ ?_ ?_ ?_) (.of ?_ ?_ ?_ ?_) (.of ?_ ?_ ?_ ?_) (.of ?_ ?_ ?_ ?_) (.of ?_ ?_ ?_ ?_) (.of ?_ ?_ ?_ ?_) ?_ ?_ ?_ ?_ ?_ ?_ ?_ ?_ ?_ ?_ ?_ ?_ ?_ ?_
  any_goals first|k_is|kernel_rfl
